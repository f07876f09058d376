/-
  Package sent: a piece that is sent again: contract.
-/
import Derived.Test.YtpgdofhnpiefjaaSd
namespace Go.Proofs.Ytpgdofhnpiefjaa
open Go.RowKit
set_option linter.unusedVariables false
set_option linter.unusedSimpArgs false
set_option maxRecDepth 100000

/-- What Again asks of a piece. -/
theorem hit_any (x : Pc) (t : UInt32) (g : Nat) (w : World) (hg : Bx w g 22 #[.int .u32 (t.toNat : Int)]) : Calls Try.prog 27 #[.agg (cellsPc x), .pointer (some ⟨g, 0, none⟩)] w fun e w' => e = .returned (.bool (hitA t x)) ∧ Below w.heap.size w w' := by
  obtain ⟨W, hW, HZ, HB, hs⟩ := one_open w 58 (cellsPc x)
  have c0 := HZ.out.cell 0 (.int .u32 (x.ts.toNat : Int)) rfl
  have c2 := HZ.out.cell 2 (.int .i64 x.st) rfl
  have g0 := (hg.later HB.out).cell 0 (.int .u32 (t.toNat : Int)) rfl
  obtain ⟨r, hr⟩ : ∃ r, hitA t x = r := ⟨_, rfl⟩
  rw [hr]
  have HR := Lib.hid hr
  clear hr hg
  by_cases h1 : x.ts = t
  · have q1 : ((x.ts.toNat : Int) == (t.toNat : Int)) = true := by rw [h1]; simp
    by_cases h3 : x.st = 3
    · have HT := Lib.hid (show hitA t x = true by simp [hitA, h1, h3])
      have q3 : (x.st == 3) = true := by rw [h3]; rfl
      generalize x.st = st at *
      generalize x.ts.toNat = n at *
      generalize t.toNat = m at *
      clear h1 h3
      go_enter Try.func27, Try.ntmps27
      go_wp2_with fail
      go_ret
      exact ⟨ret_bool (by rw [← HR.out, HT.out]), HB.out⟩
    · have HT := Lib.hid (show hitA t x = false by simp [hitA, h3])
      have q3 : (x.st == 3) = false := by rw [beq_eq_false_iff_ne]; exact h3
      generalize x.st = st at *
      generalize x.ts.toNat = n at *
      generalize t.toNat = m at *
      clear h1 h3
      go_enter Try.func27, Try.ntmps27
      go_wp2_with fail
      go_ret
      exact ⟨ret_bool (by rw [← HR.out, HT.out]), HB.out⟩
  · have HT := Lib.hid (show hitA t x = false by simp [hitA, h1])
    have q1 : ((x.ts.toNat : Int) == (t.toNat : Int)) = false := by rw [beq_eq_false_iff_ne]; intro e; exact h1 (UInt32.toNat_inj.1 (by omega))
    generalize x.st = st at *
    generalize x.ts.toNat = n at *
    generalize t.toNat = m at *
    clear h1
    go_enter Try.func27, Try.ntmps27
    go_wp2_with fail
    go_ret
    exact ⟨ret_bool (by rw [← HR.out, HT.out]), HB.out⟩
/-- None of the first j. -/
def NoneP (f : Pc → Bool) (l : List Pc) (j : Nat) : Prop := ∀ i (h : i < l.length), i < j → f l[i] = false
def idxP (f : Pc → Bool) (l : List Pc) : Int := match findL f l with
  | some i => (i : Int)
  | none => -1
theorem idxP_hit {f : Pc → Bool} {l : List Pc} {j : Nat} (h : NoneP f l j) (hj : j < l.length) (hf : f l[j] = true) : findL f l = some j := by
  unfold findL
  rw [List.findIdx?_eq_some_iff_getElem]
  exact ⟨hj, hf, fun i hi => by simpa using h i (by omega) hi⟩
theorem idxP_none {f : Pc → Bool} {l : List Pc} (h : NoneP f l l.length) : findL f l = none := by
  unfold findL
  rw [List.findIdx?_eq_none_iff]
  intro x hx
  obtain ⟨i, hi, rfl⟩ := List.mem_iff_getElem.1 hx
  simpa using h i hi hi
set_option maxHeartbeats 1000000 in
theorem index_any (l : List Pc) (hl : l.length ≤ 1000) (t : UInt32) (g : Nat) (v : Value) (w : World) (h : RowP w v l) (hg : Bx w g 22 #[.int .u32 (t.toNat : Int)]) :
    Calls Try.prog 26 #[v, .func (.func 27) #[] #[.pointer (some ⟨g, 0, none⟩)]] w fun e w' => e = .returned (.int .i64 (idxP (hitA t) l)) ∧ Below w.heap.size w w' := by
  have HR := Lib.hid h
  obtain ⟨A, cap, rfl, _, hmx, _⟩ := id h
  have HHT := Lib.hid (fun x W h => hit_any x t g W h)
  have HG := Lib.hid hg
  clear h hg
  go_enter Try.func26, Try.ntmps26
  go_wp2_with fail
  go_loopw [8] (fun i wr => ∃ j : Nat, j ≤ l.length ∧ i = .int .i64 j ∧ Hid (NoneP (hitA t) l j) ∧ Hid (Below w.heap.size w wr))
    (fun i _ => l.length - (intOf i).toNat)
  case atStart => exact ⟨0, Nat.zero_le _, rfl, Lib.hid (fun i h h0 => absurd h0 (by omega)), Lib.hid (Below.refl _ _)⟩
  case round =>
    obtain ⟨j, hj, rfl, HN, HW⟩ := hrel
    by_cases hlt : j < l.length
    · obtain ⟨b, off, cap', e9, hb, hc1, hc2, hrg⟩ := HR.out.at hlt
      cases e9
      have HRG := Lib.hid (range_below hrg hb HW.out)
      have HXQ := Lib.hid (idxP_hit (f := hitA t) HN.out hlt)
      have HNX : Hid (hitA t l[j] = false → NoneP (hitA t) l (j + 1)) := Lib.hid (fun hf i hi hij => by
        by_cases e : i = j
        · subst e; exact hf
        · exact HN.out i hi (by omega))
      have q1 : (0 : Int) ≤ (j : Int) := by omega
      have q2 : (j : Int) < (l.length : Int) := by omega
      have q3 : (l.length : Int) ≤ 1000 := by omega
      clear hrg
      generalize l[j] = x at *
      cases hbo : hitA t x with
      | true =>
        have HBO := Lib.hid hbo
        have HE : Hid (idxP (hitA t) l = (j : Int)) := Lib.hid (by unfold idxP; rw [HXQ.out hbo])
        clear hbo HXQ HNX
        go_wp2_with (first
          | ((with_reducible refine gate9 ?_); refine ldPc (ty := 58) rfl rfl rfl HRG.out Try.underlying58 rfl infoP ?_)
          | (go_at_call 27; (with_reducible refine (HHT.out _ _ (HG.out.later HW.out)).mono ?_); rintro e w1 ⟨rfl, hb5⟩; (try rw [HBO.out]); replace HW := Lib.hid (HW.out.trans (hb5.mono HW.out.size)); clear hb5))
        go_ret
        exact ⟨ret_i64 (by rw [HE.out]), HW.out⟩
      | false =>
        have HBO := Lib.hid hbo
        have HNN := Lib.hid (HNX.out hbo)
        clear hbo HXQ HNX
        go_wp2_with (first
          | ((with_reducible refine gate9 ?_); refine ldPc (ty := 58) rfl rfl rfl HRG.out Try.underlying58 rfl infoP ?_)
          | (go_at_call 27; (with_reducible refine (HHT.out _ _ (HG.out.later HW.out)).mono ?_); rintro e w1 ⟨rfl, hb5⟩; (try rw [HBO.out]); replace HW := Lib.hid (HW.out.trans (hb5.mono HW.out.size)); clear hb5))
        go_roundw
        case rel => exact ⟨j + 1, by omega, by go_num, HNN, HW⟩
        case measure => simp [intOf]; omega
    · obtain rfl : j = l.length := by omega
      have HE : Hid (idxP (hitA t) l = -1) := Lib.hid (by unfold idxP; rw [idxP_none HN.out])
      go_wp2_with fail
      go_ret
      exact ⟨ret_i64 (by rw [HE.out]), HW.out⟩
end Go.Proofs.Ytpgdofhnpiefjaa
