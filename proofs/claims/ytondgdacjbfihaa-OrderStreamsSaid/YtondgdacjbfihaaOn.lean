/-
  What is told of a stream, and what stays: plain.
-/
import Derived.Test.YtondgdacjbfihaaOm
namespace Go.Proofs.Ytondgdacjbfihaa
open Go.RowKit
set_option linter.unusedVariables false
set_option linter.unusedSimpArgs false

def up (n : UInt16) (k : Nat) : UInt16 := n + UInt16.ofNat k
theorem up_zero (n : UInt16) : up n 0 = n := by unfold up; simp
theorem up_up (n : UInt16) (a b : Nat) : up (up n a) b = up n (a + b) := by
  unfold up
  rw [UInt16.ofNat_add, UInt16.add_assoc]
theorem up_one (n : UInt16) : up n 1 = n + 1 := rfl
theorem up_next (n : UInt16) (k : Nat) : up n (k + 1) = up n k + 1 := by rw [← up_up]; rfl
theorem up_sub (n : UInt16) {k : Nat} (h : k < 65536) : (up n k - n).toNat = k := (far16 (up n k) n k h).2 rfl
theorem up_inj (n : UInt16) {a b : Nat} (ha : a < 65536) (hb : b < 65536) (h : up n a = up n b) : a = b := by
  rw [← up_sub n ha, h, up_sub n hb]
theorem eq_up {a n : UInt16} {k : Nat} (h : (a - n).toNat = k) : a = up n k := (far16 a n k (by have := (a - n).toNat_lt; omega)).1 h
def mtB (s : Int) (n : UInt16) (x : Mg) : Bool := ofB s x && decide (x.ss = n)
theorem mtB_iff {s : Int} {n : UInt16} {x : Mg} : mtB s n x = true ↔ ofB s x = true ∧ x.ss = n := by
  unfold mtB; rw [Bool.and_eq_true, decide_eq_true_iff]
def hasS (wt : List Mg) (s : Int) (n : UInt16) : Bool := wt.any (mtB s n)
theorem hasS_iff {wt : List Mg} {s : Int} {n : UInt16} : hasS wt s n = true ↔ ∃ x ∈ wt, ofB s x = true ∧ x.ss = n := by
  unfold hasS
  rw [List.any_eq_true]
  constructor
  · rintro ⟨x, hx, h⟩; exact ⟨x, hx, mtB_iff.1 h⟩
  · rintro ⟨x, hx, h⟩; exact ⟨x, hx, mtB_iff.2 h⟩
theorem hasS_no {wt : List Mg} {s : Int} {n : UInt16} : hasS wt s n = false ↔ ∀ x ∈ wt, mtB s n x = false := by
  unfold hasS
  rw [List.any_eq_false]
  constructor
  · intro h x hx; simpa using h x hx
  · intro h x hx; simp [h x hx]
def runF (wt : List Mg) (s : Int) : Nat → UInt16 → Nat
  | 0, _ => 0
  | f + 1, n => if hasS wt s n then runF wt s f (n + 1) + 1 else 0
/-- How many numbers of a stream are there from one on, one by one. -/
def runK (wt : List Mg) (s : Int) (n : UInt16) : Nat := runF wt s (wt.length + 1) n
theorem count_le (s : Int) (n : UInt16) : ∀ (k : Nat) (wt : List Mg), k ≤ 65536 → (∀ j, j < k → hasS wt s (up n j) = true) → k ≤ wt.length
  | 0, wt, _, _ => Nat.zero_le _
  | k + 1, wt, hk, h => by
    obtain ⟨x, hx, hm⟩ := hasS_iff.1 (h k (Nat.lt_succ_self k))
    have hl : (wt.filter fun y => !mtB s (up n k) y).length < wt.length := by
      rw [List.length_filter_lt_length_iff_exists]
      exact ⟨x, hx, by simp [mtB_iff.2 hm]⟩
    have := count_le s n k (wt.filter fun y => !mtB s (up n k) y) (by omega) (fun j hj => by
      obtain ⟨y, hy, ho, hs⟩ := hasS_iff.1 (h j (by omega))
      refine hasS_iff.2 ⟨y, List.mem_filter.2 ⟨hy, ?_⟩, ho, hs⟩
      have : mtB s (up n k) y = false := by
        rw [← Bool.not_eq_true, mtB_iff]
        rintro ⟨-, e⟩
        have := up_inj n (by omega) (by omega) (hs.symm.trans e)
        omega
      rw [this]; rfl)
    omega
theorem runF_spec (wt : List Mg) (s : Int) : ∀ (f : Nat) (n : UInt16), (∀ j, j < runF wt s f n → hasS wt s (up n j) = true) ∧ runF wt s f n ≤ f ∧ (runF wt s f n < f → hasS wt s (up n (runF wt s f n)) = false)
  | 0, n => ⟨fun j hj => absurd hj (Nat.not_lt_zero _), Nat.le_refl _, fun h => absurd h (Nat.lt_irrefl _)⟩
  | f + 1, n => by
    obtain ⟨h1, h2, h3⟩ := runF_spec wt s f (n + 1)
    unfold runF
    by_cases hb : hasS wt s n = true
    · rw [if_pos hb]
      refine ⟨fun j hj => ?_, by omega, fun h => ?_⟩
      · cases j with
        | zero => rw [up_zero]; exact hb
        | succ j => have := h1 j (by omega); rw [← up_one, up_up, Nat.add_comm 1 j] at this; exact this
      · have := h3 (by omega); rw [← up_one, up_up, Nat.add_comm 1] at this; exact this
    · rw [if_neg hb]
      exact ⟨fun j hj => absurd hj (Nat.not_lt_zero _), Nat.zero_le _, fun _ => by rw [up_zero]; simpa using hb⟩
theorem runK_spec {wt : List Mg} (s : Int) (n : UInt16) (hl : wt.length ≤ 60000) : (∀ j, j < runK wt s n → hasS wt s (up n j) = true) ∧ runK wt s n ≤ wt.length ∧ hasS wt s (up n (runK wt s n)) = false := by
  obtain ⟨h1, h2, h3⟩ := runF_spec wt s (wt.length + 1) n
  have hc := count_le s n (runF wt s (wt.length + 1) n) wt (by omega) h1
  exact ⟨h1, hc, h3 (by omega)⟩
theorem runK_eq {wt : List Mg} {s : Int} {n : UInt16} (hl : wt.length ≤ 60000) {k : Nat} (hk : k ≤ 65536) (h : ∀ j, j < k → hasS wt s (up n j) = true) (hn : hasS wt s (up n k) = false) : runK wt s n = k := by
  obtain ⟨h1, h2, h3⟩ := runK_spec s n hl
  rcases Nat.lt_trichotomy (runK wt s n) k with hlt | he | hgt
  · rw [h _ hlt] at h3; cases h3
  · exact he
  · rw [h1 _ hgt] at hn; cases hn
/-- No two messages that wait have one stream and one number. -/
def Dis (wt : List Mg) : Prop := wt.Pairwise fun x y => ¬ (x.st = y.st ∧ x.ss = y.ss)
theorem ofB_eq {s : Int} {x y : Mg} (h : ofB s x = true) (h' : ofB s y = true) : x.st = y.st := by
  unfold ofB at h h'
  rw [decide_eq_true_iff] at h h'
  exact UInt16.toNat_inj.1 (by omega)
theorem filter_one {s : Int} {n : UInt16} : ∀ {wt : List Mg}, Dis wt → ∀ x ∈ wt, mtB s n x = true → wt.filter (mtB s n) = [x]
  | [], _, x, hx, _ => absurd hx (by simp)
  | y :: l, hd, x, hx, hm => by
    obtain ⟨hy, hl⟩ := List.pairwise_cons.1 hd
    by_cases hb : mtB s n y = true
    · have hn : l.filter (mtB s n) = [] := by
        rw [List.filter_eq_nil_iff]
        intro z hz hbz
        exact hy z hz ⟨ofB_eq (mtB_iff.1 hb).1 (mtB_iff.1 hbz).1, (mtB_iff.1 hb).2.trans (mtB_iff.1 hbz).2.symm⟩
      rw [List.filter_cons_of_pos hb, hn]
      rcases List.mem_cons.1 hx with rfl | hx
      · rfl
      · exact absurd hm (List.filter_eq_nil_iff.1 hn x hx)
    · rw [List.filter_cons_of_neg hb]
      rcases List.mem_cons.1 hx with rfl | hx
      · exact absurd hm hb
      · exact filter_one hl x hx hm
/-- What is told of a stream from a number on, so many numbers. -/
def toldL (wt : List Mg) (s : Int) (n : UInt16) (k : Nat) : List Mg := (List.range k).flatMap fun j => wt.filter (mtB s (up n j))
def goneL (s : Int) (n : UInt16) (k : Nat) (x : Mg) : Bool := ofB s x && decide ((x.ss - n).toNat < k)
def leftL (wt : List Mg) (s : Int) (n : UInt16) (k : Nat) : List Mg := wt.filter fun x => !goneL s n k x
theorem told_zero (wt : List Mg) (s : Int) (n : UInt16) : toldL wt s n 0 = [] := rfl
theorem told_next (wt : List Mg) (s : Int) (n : UInt16) (k : Nat) : toldL wt s n (k + 1) = toldL wt s n k ++ wt.filter (mtB s (up n k)) := by
  unfold toldL
  rw [List.range_succ, List.flatMap_append]
  simp
theorem told_at {wt : List Mg} (hd : Dis wt) {s : Int} {n : UInt16} : ∀ {k : Nat}, (∀ j, j < k → hasS wt s (up n j) = true) → ∃ l : List Mg, toldL wt s n k = l ∧ l.length = k ∧ ∀ j (h : j < l.length), l[j] ∈ wt ∧ ofB s l[j] = true ∧ l[j].ss = up n j
  | 0, _ => ⟨[], rfl, rfl, fun j h => absurd h (Nat.not_lt_zero _)⟩
  | k + 1, h => by
    obtain ⟨l, e, hl, ha⟩ := told_at hd (fun j hj => h j (by omega) : ∀ j, j < k → _)
    obtain ⟨x, hx, ho, hs⟩ := hasS_iff.1 (h k (Nat.lt_succ_self k))
    refine ⟨l ++ [x], by rw [told_next, e, filter_one hd x hx (mtB_iff.2 ⟨ho, hs⟩)], by simp [hl], fun j hj => ?_⟩
    by_cases hjl : j < l.length
    · rw [List.getElem_append_left hjl]; exact ha j hjl
    · have : j = l.length := by simp at hj; omega
      subst this
      rw [List.getElem_append_right (Nat.le_refl _)]
      simp only [Nat.sub_self, List.getElem_cons_zero]
      rw [hl]
      exact ⟨hx, ho, hs⟩
theorem left_zero (wt : List Mg) (s : Int) (n : UInt16) : leftL wt s n 0 = wt := by
  unfold leftL
  rw [List.filter_eq_self]
  intro x _
  simp [goneL]
theorem left_le (wt : List Mg) (s : Int) (n : UInt16) (k : Nat) : (leftL wt s n k).length ≤ wt.length := List.length_filter_le ..
theorem gone_next (s : Int) (n : UInt16) (k : Nat) (hk : k < 65536) (x : Mg) : goneL s n (k + 1) x = (goneL s n k x || mtB s (up n k) x) := by
  unfold goneL mtB
  cases ofB s x with
  | false => rfl
  | true =>
    rw [Bool.true_and, Bool.true_and, Bool.true_and, Bool.eq_iff_iff, Bool.or_eq_true, decide_eq_true_iff, decide_eq_true_iff, decide_eq_true_iff]
    constructor
    · intro h
      by_cases e : (x.ss - n).toNat < k
      · exact .inl e
      · exact .inr (eq_up (by omega))
    · rintro (h | h)
      · omega
      · rw [h, up_sub n hk]; omega
theorem gone_not {s : Int} {n : UInt16} {k : Nat} (hk : k < 65536) {x : Mg} (h : mtB s (up n k) x = true) : goneL s n k x = false := by
  obtain ⟨_, e⟩ := mtB_iff.1 h
  unfold goneL
  rw [e, up_sub n hk, decide_eq_false (Nat.lt_irrefl _), Bool.and_false]
theorem left_mt (wt : List Mg) (s : Int) (n : UInt16) {k : Nat} (hk : k < 65536) : (leftL wt s n k).filter (mtB s (up n k)) = wt.filter (mtB s (up n k)) := by
  unfold leftL
  rw [List.filter_filter]
  apply List.filter_congr
  intro x _
  cases hb : mtB s (up n k) x with
  | false => rfl
  | true => rw [gone_not hk hb]; rfl
theorem left_next (wt : List Mg) (s : Int) (n : UInt16) {k : Nat} (hk : k < 65536) : (leftL wt s n k).filter (fun x => !mtB s (up n k) x) = leftL wt s n (k + 1) := by
  unfold leftL
  rw [List.filter_filter]
  apply List.filter_congr
  intro x _
  rw [gone_next s n k hk x, Bool.not_or, Bool.and_comm]
theorem left_has (wt : List Mg) (s : Int) (n : UInt16) {k : Nat} (hk : k < 65536) : hasS (leftL wt s n k) s (up n k) = hasS wt s (up n k) := by
  have e := left_mt wt s n hk
  rw [Bool.eq_iff_iff]
  unfold hasS
  rw [List.any_eq_true, List.any_eq_true]
  constructor
  · rintro ⟨x, hx, h⟩; exact ⟨x, (List.mem_filter.1 hx).1, h⟩
  · rintro ⟨x, hx, h⟩
    have : x ∈ wt.filter (mtB s (up n k)) := List.mem_filter.2 ⟨hx, h⟩
    rw [← e] at this
    exact ⟨x, (List.mem_filter.1 this).1, h⟩
/-- Which are taken, one by one. -/
def takenL (wt : List Mg) (s : Int) (n : UInt16) (k : Nat) : List Bool := wt.map (goneL s n k)
theorem taken_zero (wt : List Mg) (s : Int) (n : UInt16) : takenL wt s n 0 = List.replicate wt.length false := by
  unfold takenL
  rw [List.eq_replicate_iff]
  refine ⟨by simp, fun b hb => ?_⟩
  obtain ⟨x, _, rfl⟩ := List.mem_map.1 hb
  simp [goneL]
theorem taken_len (wt : List Mg) (s : Int) (n : UInt16) (k : Nat) : (takenL wt s n k).length = wt.length := by simp [takenL]
theorem taken_set {wt : List Mg} (hd : Dis wt) {s : Int} {n : UInt16} {k : Nat} (hk : k < 65536) {i : Nat} (hi : i < wt.length) (hm : mtB s (up n k) wt[i] = true) : (takenL wt s n k).set i true = takenL wt s n (k + 1) := by
  unfold takenL
  apply List.ext_getElem (by simp)
  intro j h1 h2
  have hj : j < wt.length := by simpa using h2
  rw [List.getElem_set, List.getElem_map, List.getElem_map, gone_next s n k hk]
  by_cases e : i = j
  · subst e; rw [if_pos rfl, hm]; simp
  · rw [if_neg e]
    have : mtB s (up n k) wt[j] = false := by
      rw [← Bool.not_eq_true]
      intro hb
      have hp := List.pairwise_iff_getElem.1 hd
      have e1 := ofB_eq (mtB_iff.1 hm).1 (mtB_iff.1 hb).1
      have e2 := (mtB_iff.1 hm).2.trans (mtB_iff.1 hb).2.symm
      rcases Nat.lt_or_gt_of_ne e with h | h
      · exact hp i j hi hj h ⟨e1, e2⟩
      · exact hp j i hj hi h ⟨e1.symm, e2.symm⟩
    rw [this, Bool.or_false]
theorem keep_taken (wt : List Mg) (s : Int) (n : UInt16) (k : Nat) : keepT wt (takenL wt s n k) = leftL wt s n k := by
  unfold keepT takenL leftL
  induction wt with
  | nil => rfl
  | cons x l ih =>
    rw [List.map_cons, List.zip_cons_cons, List.filter_cons, List.filter_cons]
    cases goneL s n k x with
    | true => simpa using ih
    | false => simpa using ih
theorem idx_has {wt : List Mg} {s : Int} {n : UInt16} : (idxS wt s n = -1 → hasS wt s n = false) ∧ (idxS wt s n ≠ -1 → ∃ i : Nat, idxS wt s n = (i : Int) ∧ ∃ hi : i < wt.length, mtB s n wt[i] = true ∧ hasS wt s n = true) := by
  constructor
  · intro h
    rw [hasS_no]
    intro x hx
    rw [← Bool.not_eq_true, mtB_iff]
    rintro ⟨ho, e⟩
    exact idxS_no h x hx ho e
  · intro h
    obtain ⟨i, e, hi, ho, hs⟩ := idxS_yes h
    exact ⟨i, e, hi, mtB_iff.2 ⟨ho, hs⟩, hasS_iff.2 ⟨_, List.getElem_mem hi, ho, hs⟩⟩
def tellK (wt : List Mg) (s : Int) (n : UInt16) : List Mg := toldL wt s n (runK wt s n)
def leftK (wt : List Mg) (s : Int) (n : UInt16) : List Mg := leftL wt s n (runK wt s n)
def nextK (wt : List Mg) (s : Int) (n : UInt16) : UInt16 := up n (runK wt s n)
theorem dis_filter {wt : List Mg} (f : Mg → Bool) (h : Dis wt) : Dis (wt.filter f) := List.Pairwise.filter f h
theorem tell_len {wt : List Mg} (hl : wt.length ≤ 60000) (hd : Dis wt) (s : Int) (n : UInt16) : (tellK wt s n).length = runK wt s n ∧ (tellK wt s n).length ≤ wt.length := by
  obtain ⟨h1, h2, -⟩ := runK_spec s n hl
  obtain ⟨l, e, h, -⟩ := told_at hd h1
  unfold tellK
  rw [e]
  omega
end Go.Proofs.Ytondgdacjbfihaa
