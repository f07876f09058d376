/-
  The document's view of what is under way: as, same, Right: contracts.
-/
import Derived.Test.YtpgdofhnpiefjaaSo
import Derived.Laws.StructEq
import Derived.ChangeKeysEq
namespace Go.Proofs.Ytpgdofhnpiefjaa
open Go.RowKit
set_option linter.unusedVariables false
set_option linter.unusedSimpArgs false
set_option maxRecDepth 100000

theorem one_seven (a b c d e f g : Int) : ∀ u ∈ ([.int .u32 a, .int .i64 b, .int .i64 c, .int .i64 d, .int .i64 e, .int .i64 f, .int .i64 g] : List Value), u.oneCell' = true := by
  intro u hu
  simp at hu
  rcases hu with rfl | rfl | rfl | rfl | rfl | rfl | rfl <;> rfl
theorem rowP_of_ownG {w : World} {base n : Nat} {e : TypeId} {v : Value} {l : List Pc} (h : OwnG w base e 7 v n (flatP l)) : RowP w v l := by
  have hl : l.length = n := by have := h.1; rw [flatP_length] at this; omega
  subst hl
  rcases h.2 with ⟨rfl, h0⟩ | ⟨g, cap, cur, fz, rfl, hb, hh, h1, h2, _⟩
  · exact ⟨none, 0, by rw [h0], by omega, Nat.zero_le _, fun hp => by omega⟩
  · refine ⟨_, cap, rfl, h1, h2, fun _ => ⟨g, 0, rfl, (Array.getElem?_eq_some_iff.1 hh).1, fun j hj t u hu => ?_⟩⟩
    have ht : t < 7 := by have := (List.getElem?_eq_some_iff.1 hu).1; rw [lenPc] at this; exact this
    rw [Nat.zero_add]
    refine h.cells _ _ ?_
    rw [flatP_at l j t hj ht, hu]
set_option maxHeartbeats 2000000 in
theorem as_any (c : UInt32) (l : List Pc) (hl : l.length * 56 ≤ 140737488351232) (v : Value) (w : World) (h : RowP w v l) :
    Calls Try.prog 14 #[.agg #[.int .u32 (c.toNat : Int), v]] w fun e w' => ∃ A k, e = .returned (.agg #[.int .u32 (c.toNat : Int), .slice A l.length k]) ∧ RowP w' (.slice A l.length k) l ∧ Below w.heap.size w w' := by
  obtain ⟨W, hW, HA, HZ, HB, hs⟩ := two_open w 27 53 #[.int .u32 (c.toNat : Int), v] #[.int .u32 0, .slice none 0 0]
  have HV0 := Lib.hid h
  obtain ⟨A, cap, rfl, hcap, hmx, _⟩ := id h
  have c0 := HA.out.cell 0 (.int .u32 (c.toNat : Int)) rfl
  obtain ⟨i0, hi0, hz0, hz1, hz2⟩ := info_parts infoRPZ
  have HI := Lib.hid hi0
  have HZ0 := Lib.hid hz0
  have HZ1 := Lib.hid hz1
  have HZ2 := Lib.hid hz2
  clear h hi0 hz0 hz1 hz2
  have hmx' : (cap : Int) ≤ 9223372036854775807 := by unfold maxLen at hmx; omega
  obtain ⟨W3, hW3, HX, HB3, hs3⟩ := one_open W 53 #[.int .u32 0, .slice none 0 0]
  obtain ⟨g3, hg3⟩ : ∃ g, W.heap.size = g := ⟨_, rfl⟩
  rw [hg3] at HX hs3 hs
  have hs2 : w.heap.size + 2 ≤ g3 := by omega
  clear hs
  go_enter Try.func14, Try.ntmps14
  go_wp2_with (first
    | ((with_reducible refine gate9 ?_); refine stB (ty := 53) #[.int .u32 (c.toNat : Int), .slice none 0 0] rfl rfl rfl rfl HX.out infoRS rfl (cellsS_one _ _ _ _) ?_; intro w5 ht hg; replace HA := Lib.hid ((HA.out.later HB3.out).kept hg (by omega)); replace HZ := Lib.hid ((HZ.out.later HB3.out).kept hg (by omega)); replace HB := Lib.hid (below_of_grown1 (HB.out.trans (HB3.out.mono HB.out.size)) hg (by omega) (by omega)); replace HX := Lib.hid ht; clear ht hg))
  clear hW hW3 hs3 c0 HB3
  have hsX := HX.out.lt
  go_loopw [4] (fun i wr => ∃ (j : Nat) (A1 : Option Addr) (k1 : Nat), j ≤ l.length ∧ i = .int .i64 j ∧ Hid (Bx wr g3 53 #[.int .u32 (c.toNat : Int), .slice A1 j k1]) ∧ Hid (OwnG wr (g3 + 1) 72 7 (.slice A1 j k1) j (flatP (l.take j))) ∧ Hid (Below g3 w5 wr))
    (fun i _ => l.length - (intOf i).toNat)
  case atStart => exact ⟨0, none, 0, Nat.zero_le _, rfl, HX, Lib.hid (OwnG.nil _ _ _ _), Lib.hid (Below.refl _ _)⟩
  case round =>
    clear HX
    obtain ⟨j, A1, k1, hj, rfl, HX, HO, HW⟩ := hrel
    have hwr5 := HW.out.size
    have c1 := (HA.out.under HW.out (by omega)).cell 1 (.slice A l.length cap) rfl
    by_cases hlt : j < l.length
    · obtain ⟨b, off, cap', e9, hb, hc1, hc2, hrg⟩ := HV0.out.at hlt
      cases e9
      have HRG := Lib.hid (range_below hrg hb (HB.out.trans (HW.out.mono (by omega))))
      have HNX := Lib.hid (flatP_take l j hlt)
      clear hrg
      obtain ⟨W3, hW3, HT, HB3, hs3⟩ := one_open wr 58 #[.int .u32 0, .int .i64 0, .int .i64 0, .int .i64 0, .int .i64 0, .int .i64 0, .int .i64 0]
      have r1 : (0 : Int) ≤ (j : Int) := by omega
      have r2 : (j : Int) < (l.length : Int) := by omega
      generalize l[j] = x at *
      obtain ⟨ts, sz, st, mi, ti, pa, tm⟩ := x
      go_wp2_with (first
        | ((with_reducible refine gate9 ?_); refine ldPc (ty := 58) rfl rfl rfl HRG.out Try.underlying58 rfl infoP ?_)
          | ((with_reducible refine gate9 ?_); refine stB (ty := 58) (cellsPc ⟨ts, sz, st, mi, ti, pa, tm⟩) rfl rfl rfl rfl HT.out infoP rfl (cellsPc_one _) ?_; intro w6 ht hg; replace HB3 := Lib.hid (below_of_grown1 HB3.out hg HB3.out.size (Nat.le_refl _)); replace HT := Lib.hid ht; clear ht hg; have hs6 := HB3.out.size; have t0 := HT.out.cell 0 (.int .u32 (ts.toNat : Int)) rfl; have t1 := HT.out.cell 1 (.int .i64 sz) rfl; have t2 := HT.out.cell 2 (.int .i64 st) rfl; have t3 := HT.out.cell 3 (.int .i64 mi) rfl; have t4 := HT.out.cell 4 (.int .i64 ti) rfl; have t5 := HT.out.cell 5 (.int .i64 pa) rfl; have t6 := HT.out.cell 6 (.int .i64 tm) rfl; have c31 := (HX.out.later HB3.out).cell 1 (.slice A1 j k1) rfl; replace HO := Lib.hid (HO.out.later HB3.out))
          | (at_builtin; refine wpList_append_fed _ rfl (.tmp 22) (.tmp 38) 51 51 rfl (g3 + 1) 72 i0 _ 7 56 Try.underlying51 (.inr ⟨_, Try.underlying51⟩) HI.out HZ0.out HZ1.out HZ2.out rfl _ _ _ rfl (HO.out.alloc _) _ 1 [.int .u32 (ts.toNat : Int), .int .i64 sz, .int .i64 st, .int .i64 mi, .int .i64 ti, .int .i64 pa, .int .i64 tm] rfl (Fed.block (heap_alloc_new _ _) rfl (one_seven _ _ _ _ _ _ _)) (by unfold maxLen; omega) (by omega) (by rw [World.size_alloc]; omega) ?_; intro v8 w8 hown hgr; replace HX := Lib.hid ((hgr.block g3 (by have := HX.out.lt; rw [World.size_alloc]; omega) (by intro e; have := (HO.out.lt _ e.symm).1; omega)).trans ((HX.out.later HB3.out).old _)); replace HW := Lib.hid (((HW.out.trans (HB3.out.mono (by omega))).alloc (by omega) _).grown hgr (by rw [World.size_alloc]; omega) (fun z hz => by have := (HO.out.lt z hz).1; omega)); obtain ⟨A8, k8, rfl, -, -, -⟩ := id hown.slice; have HO8 := Lib.hid hown; have hs8 := hgr.size; rw [World.size_alloc] at hs8; clear hown hgr)
          | ((with_reducible refine gate9 ?_); refine stF (cs := #[.int .u32 (c.toNat : Int), .slice A1 j k1]) (.slice A8 (j + 1) k8) rfl rfl rfl rfl HX.out (by show 1 < 2; decide) infoRSL rfl ?_; intro w9 ht hg; replace HO8 := Lib.hid (HO8.out.keep (fun z hz => hg.block z (HO8.out.lt z hz).2 (by intro e; cases e; have := (HO8.out.lt _ hz).1; omega))); replace HW := Lib.hid (HW.out.grown hg (by omega) (fun z hz => by cases hz; omega)); have HX9 : Hid (Bx w9 g3 53 #[.int .u32 (c.toNat : Int), .slice A8 (j + 1) k8]) := Lib.hid ht; have hs9 := hg.size; clear ht hg))
      go_roundw
      case rel => exact ⟨j + 1, A8, k8, by omega, by go_num, HX9, by rw [HNX.out]; exact HO8, HW⟩
      case measure => simp [intOf]; omega
    · obtain rfl : j = l.length := by omega
      rw [List.take_length] at HO
      replace HZ := Lib.hid (HZ.out.under HW.out (by omega))
      replace HB := Lib.hid (HB.out.trans (HW.out.mono (by omega)))
      go_wp2_with (first
        | ((with_reducible refine gate9 ?_); refine ldB rfl rfl rfl HX.out Try.underlying53 rfl infoRS ?_)
        | ((with_reducible refine gate9 ?_); refine stB (ty := 53) #[.int .u32 (c.toNat : Int), .slice A1 l.length k1] rfl rfl rfl rfl HZ.out infoRS rfl (cellsS_one _ _ _ _) ?_; intro w9 ht hg; replace HO := Lib.hid (HO.out.keep (fun z hz => hg.block z (HO.out.lt z hz).2 (by intro e; cases e; have := (HO.out.lt _ hz).1; omega))); replace HB := Lib.hid (below_of_grown1 HB.out hg HB.out.size (by omega)); replace HZ := Lib.hid ht; clear ht hg))
      exact bodyPost_ret (retRS rfl rfl rfl HZ.out) rfl ⟨A1, k1, rfl, rowP_of_ownG HO.out, HB.out⟩
set_option maxHeartbeats 1000000 in
theorem equal_same (x : Pc) (w : World) : (Op.equalIn 10000 72 (.agg (cellsPc x)) (.agg (cellsPc x))).run Try.prog w = .ok true w := by
  have hu := Try.underlying72
  rw [run_equalIn_struct w 9999 _ _ _ (by unfold Program.fieldsOf; rw [hu]) Try.stoodInHeld72]
  unfold Program.fieldsOf
  rw [hu]
  obtain ⟨ts, sz, st, mi, ti, pa, tm⟩ := x
  simp [Op.eqFields, go_sem, cellsPc]
theorem neq_same (x : Pc) (w : World) : (binOp .neq 72 (.agg (cellsPc x)) (.agg (cellsPc x))).run Try.prog w = .ok (.bool false) w := by
  rw [run_neq_struct, equal_same]
  rfl
end Go.Proofs.Ytpgdofhnpiefjaa
