/-
  What Put and Skip make of a queue: plain.
-/
import Derived.Test.YtondgdacjbfihaaOt
namespace Go.Proofs.Ytondgdacjbfihaa
open Go.RowKit
set_option linter.unusedVariables false
set_option linter.unusedSimpArgs false

def atN (nx : List UInt16) (i : Nat) : UInt16 := nx.getD i 0
theorem atN_eq {nx : List UInt16} {i : Nat} (h : i < nx.length) : atN nx i = nx[i] := by unfold atN; simp [h]
theorem atN_set {nx : List UInt16} {i : Nat} (h : i < nx.length) (u : UInt16) (j : Nat) : atN (nx.set i u) j = if j = i then u else atN nx j := by
  unfold atN
  rw [List.getD_eq_getElem?_getD, List.getD_eq_getElem?_getD, List.getElem?_set]
  by_cases e : i = j
  · subst e; simp [h]
  · rw [if_neg e, if_neg (fun h => e h.symm)]
/-- A queue is right: no two messages of one stream and number wait, and all are above their stream's next number, by less than half the round. -/
structure OkQ (nx : List UInt16) (wt : List Mg) : Prop where
  dis : Dis wt
  ok : ∀ x ∈ wt, x.st.toNat < nx.length ∧ 0 < (x.ss - atN nx x.st.toNat).toNat ∧ (x.ss - atN nx x.st.toNat).toNat < 32768
def putE (nx : List UInt16) (wt : List Mg) (m : Mg) : Int := if nx.length ≤ m.st.toNat then 12 else if m.fr = true then 0 else if pastB m.ss (atN nx m.st.toNat) || wt.any (sameB m) then 9 else 0
def putN (nx : List UInt16) (wt : List Mg) (m : Mg) : List UInt16 := if nx.length ≤ m.st.toNat then [] else if m.fr = true then nx else if pastB m.ss (atN nx m.st.toNat) || wt.any (sameB m) then [] else nx.set m.st.toNat (nextK (wt ++ [m]) m.st.toNat (atN nx m.st.toNat))
def putW (nx : List UInt16) (wt : List Mg) (m : Mg) : List Mg := if nx.length ≤ m.st.toNat then [] else if m.fr = true then wt else if pastB m.ss (atN nx m.st.toNat) || wt.any (sameB m) then [] else leftK (wt ++ [m]) m.st.toNat (atN nx m.st.toNat)
def putT (nx : List UInt16) (wt : List Mg) (m : Mg) : List Mg := if nx.length ≤ m.st.toNat then [] else if m.fr = true then [m] else if pastB m.ss (atN nx m.st.toNat) || wt.any (sameB m) then [] else tellK (wt ++ [m]) m.st.toNat (atN nx m.st.toNat)
theorem ofB_nat (x : Mg) : ofB (x.st.toNat : Int) x = true := by simp [ofB]
theorem ofB_of {x : Mg} {s : UInt16} : ofB (s.toNat : Int) x = true ↔ x.st = s := by
  unfold ofB
  rw [decide_eq_true_iff]
  constructor
  · intro h; exact UInt16.toNat_inj.1 (by omega)
  · intro h; rw [h]
theorem sub_pos16 {a b : UInt16} : 0 < (a - b).toNat ↔ a ≠ b := by
  constructor
  · rintro h rfl; simp at h
  · intro h
    apply Nat.pos_of_ne_zero
    intro e
    apply h
    have := eq_up (a := a) (n := b) (k := 0) (by omega)
    rw [up_zero] at this
    exact this
theorem sub_up (a n : UInt16) {k : Nat} (h : k ≤ (a - n).toNat) : (a - up n k).toNat = (a - n).toNat - k := by
  have h1 := (a - n).toNat_lt
  have e : a = up n (a - n).toNat := eq_up rfl
  have e2 : a = up (up n k) ((a - n).toNat - k) := by rw [up_up, Nat.add_sub_cancel' h]; exact e
  conv => lhs; rw [e2]
  exact up_sub _ (by omega)
/-- Nothing is told where the next number is not there. -/
theorem none_told {wt : List Mg} {s : Int} {n : UInt16} (hl : wt.length ≤ 60000) (h : hasS wt s n = false) : tellK wt s n = [] ∧ leftK wt s n = wt ∧ nextK wt s n = n := by
  have hk : runK wt s n = 0 := runK_eq hl (by omega) (fun j hj => absurd hj (Nat.not_lt_zero _)) (by rw [up_zero]; exact h)
  unfold tellK leftK nextK
  rw [hk]
  exact ⟨told_zero .., left_zero .., up_zero _⟩
theorem has_append (wt : List Mg) (m : Mg) (s : Int) (n : UInt16) : hasS (wt ++ [m]) s n = (hasS wt s n || mtB s n m) := by
  unfold hasS
  rw [List.any_append]
  simp
theorem OkQ.notNext {nx : List UInt16} {wt : List Mg} (h : OkQ nx wt) (s : UInt16) : hasS wt (s.toNat : Int) (atN nx s.toNat) = false := by
  rw [hasS_no]
  intro x hx
  rw [← Bool.not_eq_true, mtB_iff, ofB_of]
  rintro ⟨rfl, e⟩
  have := (h.ok x hx).2.1
  rw [sub_pos16] at this
  exact this e
/-- A message that is not the next one waits. -/
theorem put_early {nx : List UInt16} {wt : List Mg} (h : OkQ nx wt) (hl : wt.length ≤ 1000) (m : Mg) (hne : m.ss ≠ atN nx m.st.toNat) :
    tellK (wt ++ [m]) m.st.toNat (atN nx m.st.toNat) = [] ∧ leftK (wt ++ [m]) m.st.toNat (atN nx m.st.toNat) = wt ++ [m] ∧ nextK (wt ++ [m]) m.st.toNat (atN nx m.st.toNat) = atN nx m.st.toNat := by
  apply none_told (by simp; omega)
  rw [has_append, h.notNext, Bool.false_or, ← Bool.not_eq_true, mtB_iff]
  rintro ⟨_, e⟩
  exact hne e
theorem filter_append_one (wt : List Mg) (m : Mg) (f : Mg → Bool) : (wt ++ [m]).filter f = wt.filter f ++ (if f m then [m] else []) := by
  rw [List.filter_append]
  congr 1
  cases hf : f m with
  | true => rw [List.filter_cons_of_pos hf]; rfl
  | false => rw [List.filter_cons_of_neg (by rw [hf]; decide)]; rfl
/-- The next one is told, and what follows. -/
theorem put_next {nx : List UInt16} {wt : List Mg} (h : OkQ nx wt) (hl : wt.length ≤ 1000) (m : Mg) (he : m.ss = atN nx m.st.toNat) :
    tellK (wt ++ [m]) m.st.toNat (atN nx m.st.toNat) = m :: tellK wt m.st.toNat (atN nx m.st.toNat + 1) ∧ leftK (wt ++ [m]) m.st.toNat (atN nx m.st.toNat) = leftK wt m.st.toNat (atN nx m.st.toNat + 1) ∧ nextK (wt ++ [m]) m.st.toNat (atN nx m.st.toNat) = nextK wt m.st.toNat (atN nx m.st.toNat + 1) := by
  have hnn := h.notNext m.st
  generalize atN nx m.st.toNat = n0 at *
  obtain ⟨h1, h2, h3⟩ := runK_spec (m.st.toNat : Int) (n0 + 1) (wt := wt) (by omega)
  have hu : ∀ j, up (n0 + 1) j = up n0 (j + 1) := fun j => by rw [← up_one, up_up, Nat.add_comm]
  have hmj : ∀ j, j < 65535 → mtB (m.st.toNat : Int) (up n0 (j + 1)) m = false := fun j hj => by
    rw [← Bool.not_eq_true, mtB_iff]
    rintro ⟨_, e⟩
    have := up_inj n0 (a := 0) (b := j + 1) (by omega) (by omega) (by rw [up_zero]; exact he.symm.trans e)
    omega
  have hk : runK (wt ++ [m]) m.st.toNat n0 = runK wt m.st.toNat (n0 + 1) + 1 := by
    refine runK_eq (by simp; omega) (by omega) (fun j hj => ?_) ?_
    · rw [has_append]
      cases j with
      | zero => rw [up_zero, show mtB (m.st.toNat : Int) n0 m = true from mtB_iff.2 ⟨ofB_nat m, he⟩, Bool.or_true]
      | succ j => rw [← hu, h1 j (by omega), Bool.true_or]
    · rw [has_append, ← hu, h3, hu, hmj _ (by omega)]
      rfl
  unfold tellK leftK nextK
  rw [hk]
  generalize runK wt m.st.toNat (n0 + 1) = K at *
  refine ⟨?_, ?_, (hu K).symm⟩
  · unfold toldL
    rw [List.range_succ_eq_map, List.flatMap_cons, up_zero, filter_append_one, if_pos (mtB_iff.2 ⟨ofB_nat m, he⟩), List.flatMap_map]
    have hz : wt.filter (mtB (m.st.toNat : Int) n0) = [] := by
      rw [List.filter_eq_nil_iff]
      intro x hx
      rw [hasS_no] at hnn
      rw [hnn x hx]; decide
    rw [hz]
    show m :: _ = m :: _
    congr 1
    show ((List.range K).map fun a => (wt ++ [m]).filter (mtB (m.st.toNat : Int) (up n0 (a + 1)))).flatten = ((List.range K).map fun j => wt.filter (mtB (m.st.toNat : Int) (up (n0 + 1) j))).flatten
    congr 1
    apply List.map_congr_left
    intro j hj
    rw [List.mem_range] at hj
    show (wt ++ [m]).filter (mtB (m.st.toNat : Int) (up n0 (j + 1))) = _
    rw [filter_append_one, hmj j (by omega), hu]
    simp
  · unfold leftL
    have hm : goneL (m.st.toNat : Int) n0 (K + 1) m = true := by
      unfold goneL
      rw [ofB_nat, he]
      simp
    rw [filter_append_one, hm]
    simp only [Bool.not_true, Bool.false_eq_true, if_false, List.append_nil]
    apply List.filter_congr
    intro x hx
    congr 1
    unfold goneL
    cases hb : ofB (m.st.toNat : Int) x with
    | false => rfl
    | true =>
      rw [Bool.true_and, Bool.true_and, Bool.eq_iff_iff, decide_eq_true_iff, decide_eq_true_iff]
      have hne : x.ss ≠ n0 := fun e => by
        rw [hasS_no] at hnn
        have := hnn x hx
        rw [mtB_iff.2 ⟨hb, e⟩] at this
        cases this
      have hp := sub_pos16.2 hne
      rw [← up_one, sub_up _ _ hp]
      omega
theorem dis_append {wt : List Mg} (hd : Dis wt) (m : Mg) (hn : wt.any (sameB m) = false) : Dis (wt ++ [m]) := by
  unfold Dis
  rw [List.pairwise_append]
  refine ⟨hd, by simp, fun x hx y hy => ?_⟩
  rw [List.mem_singleton] at hy
  subst hy
  rintro ⟨e1, e2⟩
  rw [List.any_eq_false] at hn
  exact hn x hx (by simp [sameB, e1, e2])
theorem pastB_no {a b : UInt16} (h : pastB a b = false) : (a - b).toNat < 32768 := by
  unfold pastB at h
  rw [decide_eq_false_iff_not] at h
  omega
/-- What is told and what stays make a right queue. -/
theorem ok_step {nx : List UInt16} {wt : List Mg} (hl : wt.length ≤ 60000) (hd : Dis wt) (s : UInt16) (hs : s.toNat < nx.length) (n : UInt16) (h1 : ∀ x ∈ wt, x.st = s → (x.ss - n).toNat < 32768)
    (h2 : ∀ x ∈ wt, x.st ≠ s → x.st.toNat < nx.length ∧ 0 < (x.ss - atN nx x.st.toNat).toNat ∧ (x.ss - atN nx x.st.toNat).toNat < 32768) : OkQ (nx.set s.toNat (nextK wt (s.toNat : Int) n)) (leftK wt (s.toNat : Int) n) := by
  refine ⟨dis_filter _ hd, fun x hx => ?_⟩
  obtain ⟨hxw, hg⟩ := List.mem_filter.1 hx
  rw [List.length_set, atN_set hs]
  by_cases e : x.st = s
  · subst e
    rw [if_pos rfl]
    refine ⟨hs, ?_⟩
    unfold goneL at hg
    rw [ofB_nat] at hg
    simp only [Bool.true_and, Bool.not_eq_true', decide_eq_false_iff_not, Nat.not_lt] at hg
    obtain ⟨-, -, h3⟩ := runK_spec (x.st.toNat : Int) n hl
    have hne : x.ss ≠ nextK wt (x.st.toNat : Int) n := fun e => by
      rw [hasS_no] at h3
      have := h3 x hxw
      rw [show mtB (x.st.toNat : Int) (up n (runK wt (x.st.toNat : Int) n)) x = true from mtB_iff.2 ⟨ofB_nat x, e⟩] at this
      cases this
    have hp := sub_pos16.2 hne
    refine ⟨hp, ?_⟩
    unfold nextK
    rw [sub_up _ _ hg]
    have := h1 x hxw rfl
    omega
  · rw [if_neg (fun h => e (UInt16.toNat_inj.1 h))]
    exact h2 x hxw e
theorem OkQ.empty (nx : List UInt16) : OkQ nx [] := ⟨List.Pairwise.nil, fun x hx => by cases hx⟩
theorem put_ok {nx : List UInt16} {wt : List Mg} (h : OkQ nx wt) (hl : wt.length ≤ 1000) (m : Mg) (he : putE nx wt m = 0) : OkQ (putN nx wt m) (putW nx wt m) ∧ (putN nx wt m).length = nx.length ∧ (putW nx wt m).length ≤ wt.length + 1 := by
  unfold putE at he
  unfold putN putW
  by_cases c1 : nx.length ≤ m.st.toNat
  · rw [if_pos c1] at he; cases he
  · rw [if_neg c1] at he
    rw [if_neg c1, if_neg c1]
    by_cases c2 : m.fr = true
    · rw [if_pos c2, if_pos c2]; exact ⟨h, rfl, by omega⟩
    · rw [if_neg c2] at he
      rw [if_neg c2, if_neg c2]
      by_cases c3 : (pastB m.ss (atN nx m.st.toNat) || wt.any (sameB m)) = true
      · rw [if_pos c3] at he; cases he
      · rw [if_neg c3, if_neg c3]
        rw [Bool.or_eq_true, not_or, Bool.not_eq_true, Bool.not_eq_true] at c3
        refine ⟨ok_step (by simp; omega) (dis_append h.dis m c3.2) m.st (by omega) _ (fun x hx e => ?_) (fun x hx e => ?_), by rw [List.length_set], ?_⟩
        · rcases List.mem_append.1 hx with hx | hx
          · have := (h.ok x hx).2.2; rw [e] at this; exact this
          · rw [List.mem_singleton] at hx; subst hx; exact pastB_no c3.1
        · rcases List.mem_append.1 hx with hx | hx
          · exact h.ok x hx
          · rw [List.mem_singleton] at hx; subst hx; exact absurd rfl e
        · have := left_le (wt ++ [m]) m.st.toNat (atN nx m.st.toNat) (runK (wt ++ [m]) m.st.toNat (atN nx m.st.toNat))
          unfold leftK
          rw [List.length_append] at this
          exact this
def skipE (nx : List UInt16) (st : Int) (to : UInt16) : Int := if st < 0 ∨ (nx.length : Int) ≤ st then 12 else if pastB to (atN nx st.toNat) then 1 else 0
def keepG (wt : List Mg) (st : Int) (to : UInt16) : List Mg := wt.filter fun x => !goneB st to x
def skipN (nx : List UInt16) (wt : List Mg) (st : Int) (to : UInt16) : List UInt16 := if st < 0 ∨ (nx.length : Int) ≤ st then [] else if pastB to (atN nx st.toNat) then [] else nx.set st.toNat (nextK (keepG wt st to) st to)
def skipW (nx : List UInt16) (wt : List Mg) (st : Int) (to : UInt16) : List Mg := if st < 0 ∨ (nx.length : Int) ≤ st then [] else if pastB to (atN nx st.toNat) then [] else leftK (keepG wt st to) st to
def skipT (nx : List UInt16) (wt : List Mg) (st : Int) (to : UInt16) : List Mg := if st < 0 ∨ (nx.length : Int) ≤ st then [] else if pastB to (atN nx st.toNat) then [] else tellK (keepG wt st to) st to
theorem skip_ok {nx : List UInt16} {wt : List Mg} (h : OkQ nx wt) (hl : wt.length ≤ 1000) (hn : nx.length ≤ 65536) (st : Int) (to : UInt16) (he : skipE nx st to = 0) : OkQ (skipN nx wt st to) (skipW nx wt st to) ∧ (skipN nx wt st to).length = nx.length ∧ (skipW nx wt st to).length ≤ wt.length := by
  unfold skipE at he
  unfold skipN skipW
  by_cases c1 : st < 0 ∨ (nx.length : Int) ≤ st
  · rw [if_pos c1] at he; cases he
  · rw [if_neg c1] at he
    rw [if_neg c1, if_neg c1]
    by_cases c2 : pastB to (atN nx st.toNat) = true
    · rw [if_pos c2] at he; cases he
    · rw [if_neg c2, if_neg c2]
      obtain ⟨s, hs⟩ : ∃ s : UInt16, st = (s.toNat : Int) := ⟨UInt16.ofNat st.toNat, by rw [UInt16.toNat_ofNat']; rw [Nat.mod_eq_of_lt (by omega)]; omega⟩
      subst hs
      have hkl : (keepG wt (s.toNat : Int) to).length ≤ wt.length := List.length_filter_le ..
      refine ⟨ok_step (show (keepG wt (s.toNat : Int) to).length ≤ 60000 by omega) (dis_filter _ h.dis) s (by omega) to (fun x hx e => ?_) (fun x hx e => ?_), by rw [List.length_set], Nat.le_trans (left_le ..) hkl⟩
      · obtain ⟨hx, hg⟩ := List.mem_filter.1 hx
        unfold goneB at hg
        rw [ofB_of.2 e] at hg
        exact pastB_no (by simpa using hg)
      · obtain ⟨hx, hg⟩ := List.mem_filter.1 hx
        exact h.ok x hx
end Go.Proofs.Ytondgdacjbfihaa
