/-
  Whether what is under way is right: contract.
-/
import Derived.Test.YtpgdofhnpiefjaaSr
namespace Go.Proofs.Ytpgdofhnpiefjaa
open Go.RowKit
set_option linter.unusedVariables false
set_option linter.unusedSimpArgs false
set_option maxRecDepth 100000

structure OkTo (c : UInt32) (l : List Pc) (j : Nat) : Prop where
  ok : ∀ i (h : i < l.length), i < j → OkPc l[i] ∧ l[i].ts = c + 1 + UInt32.ofNat i
theorem OkTo.zero (c : UInt32) (l : List Pc) : OkTo c l 0 := ⟨fun i h h0 => absurd h0 (by omega)⟩
theorem OkTo.next {c : UInt32} {l : List Pc} {j : Nat} (h : OkTo c l j) (hj : j < l.length) (h1 : OkPc l[j]) (h2 : l[j].ts = c + 1 + UInt32.ofNat j) : OkTo c l (j + 1) := ⟨fun i hi hij => by
  by_cases e : i = j
  · subst e; exact ⟨h1, h2⟩
  · exact h.ok i hi (by omega)⟩
theorem OkTo.all {c : UInt32} {l : List Pc} (h : OkTo c l l.length) : OkL c l ↔ l.length ≤ 64 :=
  ⟨fun h => h.len, fun hl => ⟨hl, fun x hx => by obtain ⟨i, hi, rfl⟩ := List.mem_iff_getElem.1 hx; exact (h.ok i hi hi).1, fun i hi => (h.ok i hi hi).2⟩⟩
theorem num_at (c : UInt32) (j : Nat) : ((((c.toNat : Int) + 1) % 4294967296 + (j : Int)) % 4294967296 = ((c + 1 + UInt32.ofNat j).toNat : Int)) ∧ ((((c.toNat : Int) + 1) % 4294967296 + (j : Int) % 4294967296) % 4294967296 = ((c + 1 + UInt32.ofNat j).toNat : Int)) ∧ (((c.toNat : Int) + 1 + (j : Int)) % 4294967296 = ((c + 1 + UInt32.ofNat j).toNat : Int)) := by
  have h : (c + 1 + UInt32.ofNat j).toNat = ((c.toNat + 1) % 4294967296 + j % 4294967296) % 4294967296 := by
    rw [UInt32.toNat_add, UInt32.toNat_add, UInt32.toNat_ofNat']; rfl
  rw [h]
  omega
set_option maxHeartbeats 4000000 in
theorem right_any (c : UInt32) (l : List Pc) (hl : l.length * 56 ≤ 140737488351232) (R : Bool) (hR : R = true ↔ OkL c l) (v : Value) (w : World) (h : RowP w v l) :
    Calls Try.prog 13 #[.agg #[.int .u32 (c.toNat : Int), v]] w fun e w' => e = .returned (.bool R) ∧ Below w.heap.size w w' := by
  obtain ⟨W, hW, HA, HB, hs⟩ := one_open w 53 #[.int .u32 (c.toNat : Int), v]
  have HV0 := Lib.hid h
  have HRR := Lib.hid hR
  obtain ⟨A, cap, rfl, hcap, hmx, _⟩ := id h
  have hmx' : (cap : Int) ≤ 9223372036854775807 := by unfold maxLen at hmx; omega
  clear h hR
  have hsW : w.heap.size + 1 ≤ W.heap.size := by omega
  clear hs
  go_enter Try.func13, Try.ntmps13
  go_wp2_with fail
  clear hW
  go_loopw [3] (fun i wr => ∃ j : Nat, j ≤ l.length ∧ i = .int .i64 j ∧ Hid (OkTo c l j) ∧ Hid (Below (w.heap.size + 1) W wr))
    (fun i _ => l.length - (intOf i).toNat)
  case atStart => exact ⟨0, Nat.zero_le _, rfl, Lib.hid (OkTo.zero c l), Lib.hid (Below.refl _ _)⟩
  case round =>
    obtain ⟨j, hj, rfl, HOK, HW⟩ := hrel
    have hwr5 := HW.out.size
    have c1 := (HA.out.under HW.out (by omega)).cell 1 (.slice A l.length cap) rfl
    by_cases hlt : j < l.length
    · obtain ⟨b, off, cap', e9, hb, hc1, hc2, hrg⟩ := HV0.out.at hlt
      cases e9
      have HRG := Lib.hid (range_below hrg hb (HB.out.trans (HW.out.mono (by omega))))
      have HNX := Lib.hid (HOK.out.next hlt)
      have HFX := Lib.hid (fun (h9 : OkL c l) => And.intro (h9.ok _ (List.getElem_mem hlt)) (h9.ts j hlt))
      clear hrg
      obtain ⟨W3, hW3, HT, HB3, hs3⟩ := one_open wr 72 #[.int .u32 0, .int .i64 0, .int .i64 0, .int .i64 0, .int .i64 0, .int .i64 0, .int .i64 0]
      have r1 : (0 : Int) ≤ (j : Int) := by omega
      have r2 : (j : Int) < (l.length : Int) := by omega
      obtain ⟨e1, e2, e3⟩ := num_at c j
      generalize l[j] = x at *
      obtain ⟨ts, sz, st, mi, ti, pa, tm⟩ := x
      simp only at HNX HFX
      by_cases hts : ts = c + 1 + UInt32.ofNat j
      · have HTS := Lib.hid hts
        obtain ⟨n9, hn9⟩ : ∃ n, (c + 1 + UInt32.ofNat j).toNat = n := ⟨_, rfl⟩
        rw [hn9] at e1 e2 e3
        have HTN : Hid (ts.toNat = n9) := Lib.hid (by rw [hts]; exact hn9)
        clear hts hn9
        by_cases s1 : st < 1
        · clear HNX
          have HE : Hid (R = false) := Lib.hid (by
            rw [← Bool.not_eq_true]
            intro e
            have h9 := HRR.out.1 e
            have := (HFX.out h9).1.s1; simp only at this; omega)
          go_wp2_with (first
          | ((with_reducible refine gate9 ?_); refine ldPc (ty := 72) rfl rfl rfl HRG.out Try.underlying72 rfl infoRP ?_)
          | ((with_reducible refine gate9 ?_); refine stB (ty := 72) (cellsPc ⟨ts, sz, st, mi, ti, pa, tm⟩) rfl rfl rfl rfl HT.out infoRP rfl (cellsPc_one _) ?_; intro w6 ht hg; replace HB3 := Lib.hid (below_of_grown1 HB3.out hg HB3.out.size (Nat.le_refl _)); replace HT := Lib.hid ht; clear ht hg; have hs6 := HB3.out.size; have t0 := HT.out.cell 0 (.int .u32 (ts.toNat : Int)) rfl; have t1 := HT.out.cell 1 (.int .i64 sz) rfl; have t2 := HT.out.cell 2 (.int .i64 st) rfl; rw [HTN.out] at t0; have c31 := (HA.out.under (HW.out.trans (HB3.out.mono (by omega))) (by omega)).cell 0 (.int .u32 (c.toNat : Int)) rfl))
          go_ret
          exact ⟨ret_bool (by rw [HE.out]), HB.out.trans ((HW.out.trans (HB3.out.mono (by omega))).mono (by omega))⟩
        · by_cases s3 : 3 < st
          · clear HNX
            have HE : Hid (R = false) := Lib.hid (by
              rw [← Bool.not_eq_true]
              intro e
              have h9 := HRR.out.1 e
              have := (HFX.out h9).1.s3; simp only at this; omega)
            go_wp2_with (first
          | ((with_reducible refine gate9 ?_); refine ldPc (ty := 72) rfl rfl rfl HRG.out Try.underlying72 rfl infoRP ?_)
          | ((with_reducible refine gate9 ?_); refine stB (ty := 72) (cellsPc ⟨ts, sz, st, mi, ti, pa, tm⟩) rfl rfl rfl rfl HT.out infoRP rfl (cellsPc_one _) ?_; intro w6 ht hg; replace HB3 := Lib.hid (below_of_grown1 HB3.out hg HB3.out.size (Nat.le_refl _)); replace HT := Lib.hid ht; clear ht hg; have hs6 := HB3.out.size; have t0 := HT.out.cell 0 (.int .u32 (ts.toNat : Int)) rfl; have t1 := HT.out.cell 1 (.int .i64 sz) rfl; have t2 := HT.out.cell 2 (.int .i64 st) rfl; rw [HTN.out] at t0; have c31 := (HA.out.under (HW.out.trans (HB3.out.mono (by omega))) (by omega)).cell 0 (.int .u32 (c.toNat : Int)) rfl))
            go_ret
            exact ⟨ret_bool (by rw [HE.out]), HB.out.trans ((HW.out.trans (HB3.out.mono (by omega))).mono (by omega))⟩
          · by_cases z1 : sz < 1
            · clear HNX
              have HE : Hid (R = false) := Lib.hid (by
                rw [← Bool.not_eq_true]
                intro e
                have h9 := HRR.out.1 e
                have := (HFX.out h9).1.z1; simp only at this; omega)
              go_wp2_with (first
          | ((with_reducible refine gate9 ?_); refine ldPc (ty := 72) rfl rfl rfl HRG.out Try.underlying72 rfl infoRP ?_)
          | ((with_reducible refine gate9 ?_); refine stB (ty := 72) (cellsPc ⟨ts, sz, st, mi, ti, pa, tm⟩) rfl rfl rfl rfl HT.out infoRP rfl (cellsPc_one _) ?_; intro w6 ht hg; replace HB3 := Lib.hid (below_of_grown1 HB3.out hg HB3.out.size (Nat.le_refl _)); replace HT := Lib.hid ht; clear ht hg; have hs6 := HB3.out.size; have t0 := HT.out.cell 0 (.int .u32 (ts.toNat : Int)) rfl; have t1 := HT.out.cell 1 (.int .i64 sz) rfl; have t2 := HT.out.cell 2 (.int .i64 st) rfl; rw [HTN.out] at t0; have c31 := (HA.out.under (HW.out.trans (HB3.out.mono (by omega))) (by omega)).cell 0 (.int .u32 (c.toNat : Int)) rfl))
              go_ret
              exact ⟨ret_bool (by rw [HE.out]), HB.out.trans ((HW.out.trans (HB3.out.mono (by omega))).mono (by omega))⟩
            · by_cases z2 : 1500 < sz
              · clear HNX
                have HE : Hid (R = false) := Lib.hid (by
                  rw [← Bool.not_eq_true]
                  intro e
                  have h9 := HRR.out.1 e
                  have := (HFX.out h9).1.z2; simp only at this; omega)
                go_wp2_with (first
          | ((with_reducible refine gate9 ?_); refine ldPc (ty := 72) rfl rfl rfl HRG.out Try.underlying72 rfl infoRP ?_)
          | ((with_reducible refine gate9 ?_); refine stB (ty := 72) (cellsPc ⟨ts, sz, st, mi, ti, pa, tm⟩) rfl rfl rfl rfl HT.out infoRP rfl (cellsPc_one _) ?_; intro w6 ht hg; replace HB3 := Lib.hid (below_of_grown1 HB3.out hg HB3.out.size (Nat.le_refl _)); replace HT := Lib.hid ht; clear ht hg; have hs6 := HB3.out.size; have t0 := HT.out.cell 0 (.int .u32 (ts.toNat : Int)) rfl; have t1 := HT.out.cell 1 (.int .i64 sz) rfl; have t2 := HT.out.cell 2 (.int .i64 st) rfl; rw [HTN.out] at t0; have c31 := (HA.out.under (HW.out.trans (HB3.out.mono (by omega))) (by omega)).cell 0 (.int .u32 (c.toNat : Int)) rfl))
                go_ret
                exact ⟨ret_bool (by rw [HE.out]), HB.out.trans ((HW.out.trans (HB3.out.mono (by omega))).mono (by omega))⟩
              · have HNN := Lib.hid (HNX.out ⟨by show 1 ≤ st; omega, by show st ≤ 3; omega, by show 1 ≤ sz; omega, by show sz ≤ 1500; omega⟩ HTS.out)
                clear HNX HFX
                go_wp2_with (first
          | ((with_reducible refine gate9 ?_); refine ldPc (ty := 72) rfl rfl rfl HRG.out Try.underlying72 rfl infoRP ?_)
          | ((with_reducible refine gate9 ?_); refine stB (ty := 72) (cellsPc ⟨ts, sz, st, mi, ti, pa, tm⟩) rfl rfl rfl rfl HT.out infoRP rfl (cellsPc_one _) ?_; intro w6 ht hg; replace HB3 := Lib.hid (below_of_grown1 HB3.out hg HB3.out.size (Nat.le_refl _)); replace HT := Lib.hid ht; clear ht hg; have hs6 := HB3.out.size; have t0 := HT.out.cell 0 (.int .u32 (ts.toNat : Int)) rfl; have t1 := HT.out.cell 1 (.int .i64 sz) rfl; have t2 := HT.out.cell 2 (.int .i64 st) rfl; rw [HTN.out] at t0; have c31 := (HA.out.under (HW.out.trans (HB3.out.mono (by omega))) (by omega)).cell 0 (.int .u32 (c.toNat : Int)) rfl))
                go_roundw
                case rel => exact ⟨j + 1, by omega, by go_num, HNN, Lib.hid (HW.out.trans (HB3.out.mono (by omega)))⟩
                case measure => simp [intOf]; omega
      · have HTS := Lib.hid hts
        obtain ⟨n9, hn9⟩ : ∃ n, (c + 1 + UInt32.ofNat j).toNat = n := ⟨_, rfl⟩
        have q9 : ((ts.toNat : Int) == (n9 : Int)) = false := by rw [beq_eq_false_iff_ne]; intro e; exact hts (UInt32.toNat_inj.1 (by omega))
        have q8 : ((ts.toNat : Int) != (n9 : Int)) = true := by rw [bne, q9]; rfl
        have q7 : ¬ ((ts.toNat : Int) = (n9 : Int)) := by intro e; exact hts (UInt32.toNat_inj.1 (by omega))
        have q6 : ¬ (ts.toNat = n9) := by omega
        rw [hn9] at e1 e2 e3
        clear hts hn9 HNX
        generalize hts9 : ts.toNat = t9 at *
        have HTN := Lib.hid hts9
        clear hts9
        have HE : Hid (R = false) := Lib.hid (by
          rw [← Bool.not_eq_true]
          intro e
          have h9 := HRR.out.1 e
          exact HTS.out (HFX.out h9).2)
        go_wp2_with (first
          | ((with_reducible refine gate9 ?_); refine ldPc (ty := 72) rfl rfl rfl HRG.out Try.underlying72 rfl infoRP ?_)
          | ((with_reducible refine gate9 ?_); refine stB (ty := 72) (cellsPc ⟨ts, sz, st, mi, ti, pa, tm⟩) rfl rfl rfl rfl HT.out infoRP rfl (cellsPc_one _) ?_; intro w6 ht hg; replace HB3 := Lib.hid (below_of_grown1 HB3.out hg HB3.out.size (Nat.le_refl _)); replace HT := Lib.hid ht; clear ht hg; have hs6 := HB3.out.size; have t0 := HT.out.cell 0 (.int .u32 (ts.toNat : Int)) rfl; have t1 := HT.out.cell 1 (.int .i64 sz) rfl; have t2 := HT.out.cell 2 (.int .i64 st) rfl; rw [HTN.out] at t0; have c31 := (HA.out.under (HW.out.trans (HB3.out.mono (by omega))) (by omega)).cell 0 (.int .u32 (c.toNat : Int)) rfl))
        go_ret
        exact ⟨ret_bool (by rw [HE.out]), HB.out.trans ((HW.out.trans (HB3.out.mono (by omega))).mono (by omega))⟩
    · obtain rfl : j = l.length := by omega
      have HAL := Lib.hid (HRR.out.trans HOK.out.all)
      by_cases h64 : l.length ≤ 64
      · have HE : Hid (R = true) := Lib.hid (HAL.out.2 h64)
        have q : (l.length : Int) ≤ 64 := by omega
        go_wp2_with fail
        go_ret
        exact ⟨ret_bool (by rw [HE.out]), HB.out.trans (HW.out.mono (by omega))⟩
      · have HE : Hid (R = false) := Lib.hid (by rw [← Bool.not_eq_true]; intro e; exact h64 (HAL.out.1 e))
        have q : ¬ (l.length : Int) ≤ 64 := by omega
        go_wp2_with fail
        go_ret
        exact ⟨ret_bool (by rw [HE.out]), HB.out.trans (HW.out.mono (by omega))⟩
end Go.Proofs.Ytpgdofhnpiefjaa
