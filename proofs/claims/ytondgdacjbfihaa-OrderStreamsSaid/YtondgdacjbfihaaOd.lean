/-
  Package order: is a message there; a copy; a new queue: contracts.
-/
import Derived.Test.YtondgdacjbfihaaOc
namespace Go.Proofs.Ytondgdacjbfihaa
open Go.RowKit
set_option linter.unusedVariables false
set_option linter.unusedSimpArgs false
set_option maxRecDepth 100000

/-- Where the first one lies of which f says yes. -/
def findL {α : Type} (f : α → Bool) (l : List α) : Option Nat := l.findIdx? f
/-- None of the first j. -/
def NoneP (f : Mg → Bool) (l : List Mg) (j : Nat) : Prop := ∀ i (h : i < l.length), i < j → f l[i] = false
def idxP (f : Mg → Bool) (l : List Mg) : Int := match findL f l with
  | some i => (i : Int)
  | none => -1
theorem idxP_hit {f : Mg → Bool} {l : List Mg} {j : Nat} (h : NoneP f l j) (hj : j < l.length) (hf : f l[j] = true) : findL f l = some j := by
  unfold findL
  rw [List.findIdx?_eq_some_iff_getElem]
  exact ⟨hj, hf, fun i hi => by simpa using h i (by omega) hi⟩
theorem idxP_none {f : Mg → Bool} {l : List Mg} (h : NoneP f l l.length) : findL f l = none := by
  unfold findL
  rw [List.findIdx?_eq_none_iff]
  intro x hx
  obtain ⟨i, hi, rfl⟩ := List.mem_iff_getElem.1 hx
  simpa using h i hi hi
theorem enc16_eq (a b : UInt16) : ((a.toNat : Int) == (b.toNat : Int)) = decide (a = b) := by
  rw [Bool.eq_iff_iff, beq_iff_eq, decide_eq_true_iff]
  exact ⟨fun h => UInt16.toNat_inj.1 (by omega), fun h => by rw [h]⟩
/-- isThere's closure. -/
theorem hit1_any (x m : Mg) (g : Nat) (w : World) (hg : Bx w g 40 (cellsMg m)) : Calls Try.prog 36 #[.agg (cellsMg x), .pointer (some ⟨g, 0, none⟩)] w fun e w' => e = .returned (.bool (sameB m x)) ∧ Below w.heap.size w w' := by
  obtain ⟨W, hW, HX, HB, hs⟩ := one_open w 40 (cellsMg x)
  have HG := Lib.hid (hg.later HB.out)
  have x2 := HX.out.cell 2 (.int .u16 (x.st.toNat : Int)) rfl
  have x3 := HX.out.cell 3 (.int .u16 (x.ss.toNat : Int)) rfl
  have m2 := HG.out.cell 2 (.int .u16 (m.st.toNat : Int)) rfl
  have m3 := HG.out.cell 3 (.int .u16 (m.ss.toNat : Int)) rfl
  have e1 := enc16_eq x.st m.st
  have e2 := enc16_eq x.ss m.ss
  have HS : Hid (sameB m x = (decide (x.st = m.st) && decide (x.ss = m.ss))) := Lib.hid rfl
  obtain ⟨b1, h1⟩ : ∃ b, decide (x.st = m.st) = b := ⟨_, rfl⟩
  obtain ⟨b2, h2⟩ : ∃ b, decide (x.ss = m.ss) = b := ⟨_, rfl⟩
  rw [h1] at e1 HS
  rw [h2] at e2 HS
  clear h1 h2 hg
  cases b1 with
  | true =>
    go_enter Try.func36, Try.ntmps36
    go_wp2_with fail
    go_ret
    exact ⟨ret_bool (by rw [HS.out, Bool.true_and]), HB.out⟩
  | false =>
    go_enter Try.func36, Try.ntmps36
    go_wp2_with fail
    go_ret
    exact ⟨ret_bool (by rw [HS.out, Bool.false_and]), HB.out⟩
def goneB (s : Int) (to : UInt16) (x : Mg) : Bool := ofB s x && pastB x.ss to
/-- Skip's closure. -/
theorem hit2_any (x : Mg) (s : Int) (to : UInt16) (g g' : Nat) (w : World) (hg : Bx w g 3 #[.int .i64 s]) (hg' : Bx w g' 38 #[.int .u16 (to.toNat : Int)]) : Calls Try.prog 31 #[.agg (cellsMg x), .pointer (some ⟨g, 0, none⟩), .pointer (some ⟨g', 0, none⟩)] w fun e w' => e = .returned (.bool (goneB s to x)) ∧ Below w.heap.size w w' := by
  obtain ⟨W, hW, HX, HB, hs⟩ := one_open w 40 (cellsMg x)
  have HG := Lib.hid (hg.later HB.out)
  have HG2 := Lib.hid (hg'.later HB.out)
  have x2 := HX.out.cell 2 (.int .u16 (x.st.toNat : Int)) rfl
  have x3 := HX.out.cell 3 (.int .u16 (x.ss.toNat : Int)) rfl
  have g0 := HG.out.cell 0 (.int .i64 s) rfl
  have g1 := HG2.out.cell 0 (.int .u16 (to.toNat : Int)) rfl
  obtain ⟨c1, c3⟩ := fit16 x.st
  have HP := Lib.hid (fun W => past_any x.ss to W)
  have HS : Hid (goneB s to x = (ofB s x && pastB x.ss to)) := Lib.hid rfl
  have e1 : ((x.st.toNat : Int) == s) = ofB s x := by unfold ofB; rw [Bool.eq_iff_iff, beq_iff_eq, decide_eq_true_iff]
  generalize ofB s x = b1 at *
  generalize pastB x.ss to = b2 at *
  clear hg hg'
  cases b1 with
  | true =>
    go_enter Try.func31, Try.ntmps31
    go_wp2_with (go_at_call 25; (with_reducible refine (HP.out _).mono ?_); rintro e w1 ⟨rfl, rfl⟩)
    first
      | (go_ret
         exact ⟨ret_bool (by rw [HS.out, Bool.true_and]), HB.out⟩)
      | (refine (HP.out _).mono ?_
         rintro e w1 ⟨rfl, rfl⟩
         go_wp2_with fail
         go_ret
         exact ⟨ret_bool (by rw [HS.out, Bool.true_and]), HB.out⟩)
  | false =>
    go_enter Try.func31, Try.ntmps31
    go_wp2_with fail
    go_ret
    exact ⟨ret_bool (by rw [HS.out, Bool.false_and]), HB.out⟩
set_option maxHeartbeats 1000000 in
theorem index1_any (l : List Mg) (hl : l.length ≤ 100000) (m : Mg) (g : Nat) (v : Value) (w : World) (h : RowM w v l) (hg : Bx w g 40 (cellsMg m)) :
    Calls Try.prog 39 #[v, .func (.func 36) #[] #[.pointer (some ⟨g, 0, none⟩)]] w fun e w' => e = .returned (.int .i64 (idxP ((sameB m)) l)) ∧ Below w.heap.size w w' := by
  have HR := Lib.hid h
  obtain ⟨A, cap, rfl, _, hmx, _⟩ := id h
  have HHT := Lib.hid (fun x W h => hit1_any x m g W h)
  have HG := Lib.hid hg
  clear h hg
  go_enter Try.func39, Try.ntmps39
  go_wp2_with fail
  go_loopw [8] (fun i wr => ∃ j : Nat, j ≤ l.length ∧ i = .int .i64 j ∧ Hid (NoneP ((sameB m)) l j) ∧ Hid (Below w.heap.size w wr))
    (fun i _ => l.length - (intOf i).toNat)
  case atStart => exact ⟨0, Nat.zero_le _, rfl, Lib.hid (fun i h h0 => absurd h0 (by omega)), Lib.hid (Below.refl _ _)⟩
  case round =>
    obtain ⟨j, hj, rfl, HN, HW⟩ := hrel
    by_cases hlt : j < l.length
    · obtain ⟨b, off, cap', e9, hb, hc1, hc2, hrg⟩ := HR.out.at hlt
      cases e9
      have HRG := Lib.hid (range_below hrg hb HW.out)
      have HXQ := Lib.hid (idxP_hit (f := (sameB m)) HN.out hlt)
      have HNX : Hid (sameB m l[j] = false → NoneP ((sameB m)) l (j + 1)) := Lib.hid (fun hf i hi hij => by
        by_cases e : i = j
        · subst e; exact hf
        · exact HN.out i hi (by omega))
      have q1 : (0 : Int) ≤ (j : Int) := by omega
      have q2 : (j : Int) < (l.length : Int) := by omega
      have q3 : (l.length : Int) ≤ 100000 := by omega
      clear hrg
      generalize l[j] = x at *
      cases hbo : (sameB m) x with
      | true =>
        have HBO := Lib.hid hbo
        have HE : Hid (idxP ((sameB m)) l = (j : Int)) := Lib.hid (by unfold idxP; rw [HXQ.out hbo])
        clear hbo HXQ HNX
        go_wp2_with (first
          | ((with_reducible refine gate9 ?_); refine ldMg (ty := 40) rfl rfl rfl HRG.out Try.underlying40 rfl infoM ?_)
          | (go_at_call 36; (with_reducible refine (HHT.out _ _ (HG.out.later HW.out)).mono ?_); rintro e w1 ⟨rfl, hb5⟩; (try rw [HBO.out]); replace HW := Lib.hid (HW.out.trans (hb5.mono HW.out.size)); clear hb5))
        go_ret
        exact ⟨ret_i64 (by rw [HE.out]), HW.out⟩
      | false =>
        have HBO := Lib.hid hbo
        have HNN := Lib.hid (HNX.out hbo)
        clear hbo HXQ HNX
        go_wp2_with (first
          | ((with_reducible refine gate9 ?_); refine ldMg (ty := 40) rfl rfl rfl HRG.out Try.underlying40 rfl infoM ?_)
          | (go_at_call 36; (with_reducible refine (HHT.out _ _ (HG.out.later HW.out)).mono ?_); rintro e w1 ⟨rfl, hb5⟩; (try rw [HBO.out]); replace HW := Lib.hid (HW.out.trans (hb5.mono HW.out.size)); clear hb5))
        go_roundw
        case rel => exact ⟨j + 1, by omega, by go_num, HNN, HW⟩
        case measure => simp [intOf]; omega
    · obtain rfl : j = l.length := by omega
      have HE : Hid (idxP ((sameB m)) l = -1) := Lib.hid (by unfold idxP; rw [idxP_none HN.out])
      go_wp2_with fail
      go_ret
      exact ⟨ret_i64 (by rw [HE.out]), HW.out⟩

set_option maxHeartbeats 1000000 in
theorem index2_any (l : List Mg) (hl : l.length ≤ 100000) (s : Int) (to : UInt16) (g g2 : Nat) (v : Value) (w : World) (h : RowM w v l) (hg : Bx w g 3 #[.int .i64 s]) (hg2 : Bx w g2 38 #[.int .u16 (to.toNat : Int)]) :
    Calls Try.prog 39 #[v, .func (.func 31) #[] #[.pointer (some ⟨g, 0, none⟩), .pointer (some ⟨g2, 0, none⟩)]] w fun e w' => e = .returned (.int .i64 (idxP ((goneB s to)) l)) ∧ Below w.heap.size w w' := by
  have HR := Lib.hid h
  obtain ⟨A, cap, rfl, _, hmx, _⟩ := id h
  have HHT := Lib.hid (fun x W h h2 => hit2_any x s to g g2 W h h2)
  have HG := Lib.hid hg
  have HG2 := Lib.hid hg2
  clear h hg hg2
  go_enter Try.func39, Try.ntmps39
  go_wp2_with fail
  go_loopw [8] (fun i wr => ∃ j : Nat, j ≤ l.length ∧ i = .int .i64 j ∧ Hid (NoneP ((goneB s to)) l j) ∧ Hid (Below w.heap.size w wr))
    (fun i _ => l.length - (intOf i).toNat)
  case atStart => exact ⟨0, Nat.zero_le _, rfl, Lib.hid (fun i h h0 => absurd h0 (by omega)), Lib.hid (Below.refl _ _)⟩
  case round =>
    obtain ⟨j, hj, rfl, HN, HW⟩ := hrel
    by_cases hlt : j < l.length
    · obtain ⟨b, off, cap', e9, hb, hc1, hc2, hrg⟩ := HR.out.at hlt
      cases e9
      have HRG := Lib.hid (range_below hrg hb HW.out)
      have HXQ := Lib.hid (idxP_hit (f := (goneB s to)) HN.out hlt)
      have HNX : Hid (goneB s to l[j] = false → NoneP ((goneB s to)) l (j + 1)) := Lib.hid (fun hf i hi hij => by
        by_cases e : i = j
        · subst e; exact hf
        · exact HN.out i hi (by omega))
      have q1 : (0 : Int) ≤ (j : Int) := by omega
      have q2 : (j : Int) < (l.length : Int) := by omega
      have q3 : (l.length : Int) ≤ 100000 := by omega
      clear hrg
      generalize l[j] = x at *
      cases hbo : (goneB s to) x with
      | true =>
        have HBO := Lib.hid hbo
        have HE : Hid (idxP ((goneB s to)) l = (j : Int)) := Lib.hid (by unfold idxP; rw [HXQ.out hbo])
        clear hbo HXQ HNX
        go_wp2_with (first
          | ((with_reducible refine gate9 ?_); refine ldMg (ty := 40) rfl rfl rfl HRG.out Try.underlying40 rfl infoM ?_)
          | (go_at_call 31; (with_reducible refine (HHT.out _ _ (HG.out.later HW.out) (HG2.out.later HW.out)).mono ?_); rintro e w1 ⟨rfl, hb5⟩; (try rw [HBO.out]); replace HW := Lib.hid (HW.out.trans (hb5.mono HW.out.size)); clear hb5))
        go_ret
        exact ⟨ret_i64 (by rw [HE.out]), HW.out⟩
      | false =>
        have HBO := Lib.hid hbo
        have HNN := Lib.hid (HNX.out hbo)
        clear hbo HXQ HNX
        go_wp2_with (first
          | ((with_reducible refine gate9 ?_); refine ldMg (ty := 40) rfl rfl rfl HRG.out Try.underlying40 rfl infoM ?_)
          | (go_at_call 31; (with_reducible refine (HHT.out _ _ (HG.out.later HW.out) (HG2.out.later HW.out)).mono ?_); rintro e w1 ⟨rfl, hb5⟩; (try rw [HBO.out]); replace HW := Lib.hid (HW.out.trans (hb5.mono HW.out.size)); clear hb5))
        go_roundw
        case rel => exact ⟨j + 1, by omega, by go_num, HNN, HW⟩
        case measure => simp [intOf]; omega
    · obtain rfl : j = l.length := by omega
      have HE : Hid (idxP ((goneB s to)) l = -1) := Lib.hid (by unfold idxP; rw [idxP_none HN.out])
      go_wp2_with fail
      go_ret
      exact ⟨ret_i64 (by rw [HE.out]), HW.out⟩

theorem idxP_any (f : Mg → Bool) (l : List Mg) : decide (0 ≤ idxP f l) = l.any f := by
  unfold idxP findL
  cases h : l.findIdx? f with
  | none =>
    rw [List.findIdx?_eq_none_iff] at h
    rw [decide_eq_false (by decide)]
    symm
    rw [List.any_eq_false]
    intro x hx
    rw [h x hx]; decide
  | some i =>
    obtain ⟨hi, hf, _⟩ := List.findIdx?_eq_some_iff_getElem.1 h
    rw [decide_eq_true (by simp)]
    symm
    rw [List.any_eq_true]
    exact ⟨_, List.getElem_mem hi, hf⟩
set_option maxHeartbeats 1000000 in
theorem contains_any (l : List Mg) (hl : l.length ≤ 100000) (m : Mg) (g : Nat) (v : Value) (w : World) (h : RowM w v l) (hg : Bx w g 40 (cellsMg m)) :
    Calls Try.prog 35 #[v, .func (.func 36) #[] #[.pointer (some ⟨g, 0, none⟩)]] w fun e w' => e = .returned (.bool (l.any (sameB m))) ∧ Below w.heap.size w w' := by
  have HC := Lib.hid (index1_any l hl m g v w h hg)
  have HZ := Lib.hid (idxP_any (sameB m) l)
  generalize idxP (sameB m) l = z at *
  obtain ⟨b, hb⟩ : ∃ b, l.any (sameB m) = b := ⟨_, rfl⟩
  rw [hb] at HZ ⊢
  go_enter Try.func35, Try.ntmps35
  go_wp2_with fail
  refine HC.out.mono ?_
  rintro e w1 ⟨rfl, hb⟩
  have HB := Lib.hid hb
  clear hb HC
  go_wp2_with fail
  go_ret
  exact ⟨ret_bool (by rw [← HZ.out]), HB.out⟩
theorem there_any (l : List Mg) (hl : l.length ≤ 100000) (m : Mg) (vn v : Value) (w : World) (h : RowM w v l) :
    Calls Try.prog 26 #[.agg #[vn, v], .agg (cellsMg m)] w fun e w' => e = .returned (.bool (l.any (sameB m))) ∧ Below w.heap.size w w' := by
  obtain ⟨W, hW, HQ, HM, HB, hs⟩ := two_open w 27 40 #[vn, v] (cellsMg m)
  have c1 := HQ.out.cell 1 v rfl
  have HC := Lib.hid (contains_any l hl m (w.heap.size + 1) v W (h.below HB.out) HM.out)
  clear h
  go_enter Try.func26, Try.ntmps26
  go_wp2_with fail
  refine HC.out.mono ?_
  rintro e w1 ⟨rfl, hb⟩
  replace HB := Lib.hid (HB.out.trans (hb.mono HB.out.size))
  clear hb HC
  go_wp2_with fail
  go_ret
  exact ⟨rfl, HB.out⟩
end Go.Proofs.Ytondgdacjbfihaa
