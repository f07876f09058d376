/-
  Whether chunks are few and small: a contract.
-/
import Derived.Test.YtlbaockipeojhaaGreatFm
import Derived.Test.YtlbaockipeojhaaGreatCkSmall
import Derived.Test.YtlbaockipeojhaaGreatCkRows
namespace Go.Proofs.YtlbaockipeojhaaGreat
open Go.RowKit
set_option linter.unusedVariables false
set_option linter.unusedSimpArgs false
set_option maxRecDepth 100000

def smallP (l : List Cv) : Bool := decide (l.length ≤ 60) && l.all fun x => smallB x.c
theorem smallP_not {l : List Cv} {k : Nat} (h : k < l.length) (hx : smallB l[k].c = false) : smallP l = false := by
  unfold smallP
  rw [Bool.and_eq_false_iff]
  right
  rw [List.all_eq_false]
  exact ⟨l[k], List.getElem_mem h, by rw [hx]; decide⟩
theorem smallP_is {l : List Cv} (h60 : l.length ≤ 60) (hx : ∀ j (hj : j < l.length), smallB l[j].c = true) : smallP l = true := by
  unfold smallP
  rw [decide_eq_true h60, Bool.true_and, List.all_eq_true]
  intro x hm
  obtain ⟨j, hj, rfl⟩ := List.getElem_of_mem hm
  exact hx j hj
theorem smallP_many {l : List Cv} (h60 : ¬ l.length ≤ 60) : smallP l = false := by
  unfold smallP
  rw [decide_eq_false h60]
  rfl
/-- What small chunks are like. -/
theorem smallP_gives {w : World} {l : List Cv} (h : smallP l = true) (ha : AllC w l) : l.length ≤ 60 ∧ ∀ x ∈ l, FitC x.c := by
  unfold smallP at h
  simp only [Bool.and_eq_true, decide_eq_true_eq, List.all_eq_true] at h
  refine ⟨h.1, fun x hx => ?_⟩
  obtain ⟨s1, s2, s3, s4, s5⟩ := small_gives (h.2 x hx)
  exact ⟨(ha x hx).wf, by omega, by omega, by omega, fun y hy => by have := s5 y hy; omega, by omega⟩
theorem rk_of_in {w : World} {v : Value} {l : List Cv} (h : RowK w v l) (ha : AllC w l) : Rk w v l := ⟨h, fun x hx => (ha x hx).parts⟩
set_option maxHeartbeats 8000000 in
theorem psmall_any (l : List Cv) (hl : l.length ≤ maxLen) (V : Value) (w : World) (h : RowK w V l) (ha : AllC w l) :
    Calls Tryz.prog 6 #[V] w fun e w' => e = .returned (.bool (smallP l)) ∧ Below w.heap.size w w' := by
  obtain ⟨A, cap, rfl, hcap, hmax, hcells⟩ := h
  have HC := Lib.hid hcells
  have HA := Lib.hid ha
  clear hcells ha
  by_cases h60 : l.length ≤ 60
  case neg =>
    rw [smallP_many h60]
    have z : (60 : Int) < (l.length : Int) := by omega
    go_enter Tryz.func6, Tryz.ntmps6
    go_wp2_with fail
    go_ret
    exact ⟨rfl, Below.refl _ _⟩
  have HN := Lib.hid (fun k (hk : k < l.length) hx => smallP_not hk hx)
  have HY := Lib.hid (fun hx => smallP_is (l := l) h60 hx)
  generalize smallP l = q at *
  have z : (l.length : Int) ≤ 60 := by omega
  have HB0 := Lib.hid (Below.refl w.heap.size w)
  go_enter Tryz.func6, Tryz.ntmps6
  go_wp2_with fail
  go_loopw [3] (fun i wr => ∃ k : Nat, k ≤ l.length ∧ i = .int .i64 k ∧ Hid (Below w.heap.size w wr ∧ ∀ j (hj : j < l.length), j < k → smallB l[j].c = true))
    (fun i _ => l.length - (intOf i).toNat)
  case atStart => exact ⟨0, Nat.zero_le _, rfl, Lib.hid ⟨HB0.out, fun j hj h => absurd h (Nat.not_lt_zero _)⟩⟩
  case round =>
    obtain ⟨k, hk, rfl, HQ⟩ := hrel
    obtain ⟨hbw, hall⟩ := HQ.out
    have HALL := Lib.hid hall
    clear hall HQ HB0
    by_cases hlt : k < l.length
    · obtain ⟨b, off, rfl, hb, hr⟩ := HC.out (by omega)
      have hin := HA.out _ (List.getElem_mem hlt)
      have HN1 := Lib.hid (HN.out k hlt)
      have HALL2 := Lib.hid (show smallB l[k].c = true → ∀ j (hj : j < l.length), j < k + 1 → smallB l[j].c = true from fun hx j hj hk' => by
        by_cases e : j = k
        · subst e; exact hx
        · exact HALL.out j hj (by omega))
      obtain ⟨CL, hL⟩ := hasL l[k]
      have hr' : wr.rangeAt b (off + k * 14) CL := by rw [← hL.cells]; exact rangeAt_below (hr k hlt) hb hbw
      clear hr
      generalize l[k] = x at *
      have HR := Lib.hid hr'
      have HL := Lib.hid hL
      have HT := Lib.hid (show Calls Tryz.prog 18 #[.agg CL.toArray] wr fun e w' => e = .returned (.bool (smallB x.c)) ∧ Below wr.heap.size wr w' from by
        rw [← hL.arr]; exact small_any x.c _ _ _ wr hin.il hin.gl hin.dl hin.tl (hin.parts.below hbw))
      have HB := Lib.hid hbw
      generalize smallB x.c = r at *
      have q1 : (k : Int) < (l.length : Int) := by omega
      have q2 : (0 : Int) ≤ (k : Int) := by omega
      clear hr' hL hin hbw HC HA HN HY HALL
      go_wp2_with (first
        | (refine wpList_load_mid rfl 52 (.tmp 16) rfl b (off + k * 14) rfl CL _ HR.out Tryz.underlying52 rfl HL.out.size ?_))
      refine HT.out.mono ?_
      rintro _ w2 ⟨rfl, hb2⟩
      replace HB := Lib.hid (HB.out.trans (hb2.mono HB.out.size))
      clear hb2 HT HR
      cases r
      · obtain rfl := HN1.out rfl
        go_wp2_with fail
        go_ret
        exact ⟨rfl, HB.out⟩
      · have HALL3 := Lib.hid (HALL2.out rfl)
        go_wp2_with fail
        go_roundw
        case rel => exact ⟨k + 1, by omega, by go_num, Lib.hid ⟨HB.out, HALL3.out⟩⟩
        case measure => simp [intOf]; omega
    · obtain rfl : k = l.length := by omega
      obtain rfl := HY.out (fun j hj => HALL.out j hj hj)
      have HB := Lib.hid hbw
      go_wp2_with fail
      go_ret
      exact ⟨rfl, HB.out⟩
end Go.Proofs.YtlbaockipeojhaaGreat
