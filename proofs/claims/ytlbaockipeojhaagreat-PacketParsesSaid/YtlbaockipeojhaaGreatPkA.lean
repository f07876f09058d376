/-
  Packets: which chunks may travel together, their bytes, and what is read of bytes: plain functions and facts. No function of the program is walked here.
-/
import Derived.Test.YtlbaockipeojhaaGreatCkFact
import Derived.Test.YtlbaockipeojhaaGreatCrcB
namespace Go.Proofs.YtlbaockipeojhaaGreat
set_option linter.unusedVariables false
set_option linter.unusedSimpArgs false
set_option maxRecDepth 100000

/-! ### Which travel together -/
def aloneB (k : Int) : Bool := decide (k = 1) || decide (k = 2) || decide (k = 14)
def followsB (a k : Int) : Bool := !aloneB a && !aloneB k && (decide (a ≠ 0) || decide (k = 0))
def firstB (f t g : Nat) (k : Int) : Bool := decide (f ≠ 0) && decide (t ≠ 0) && (decide (g = 0) == decide (k = 1))
/-- Whether a type may stand behind those that there are. -/
def takesB (f t g : Nat) (ts : List Int) (k : Int) : Bool :=
  if ts.length = 0 then firstB f t g k else decide (ts.length < 50) && followsB (ts.getD (ts.length - 1) 0) k
def formedP (f t g : Nat) (ts : List Int) : Bool := decide (0 < ts.length) && (List.range ts.length).all fun i => takesB f t g (ts.take i) (ts.getD i 0)
theorem formedP_true {f t g : Nat} {ts : List Int} : formedP f t g ts = true ↔ 0 < ts.length ∧ ∀ i, i < ts.length → takesB f t g (ts.take i) (ts.getD i 0) = true := by
  unfold formedP
  simp only [Bool.and_eq_true, decide_eq_true_eq, List.all_eq_true, List.mem_range]
theorem formedP_not {f t g : Nat} {ts : List Int} {i : Nat} (h : i < ts.length) (hx : takesB f t g (ts.take i) (ts.getD i 0) = false) : formedP f t g ts = false := by
  rw [← Bool.not_eq_true, formedP_true]
  intro hh
  have := hh.2 i h
  rw [hx] at this
  cases this
theorem formedP_is {f t g : Nat} {ts : List Int} (hx : ∀ i, i < ts.length → takesB f t g (ts.take i) (ts.getD i 0) = true) : formedP f t g ts = decide (0 < ts.length) := by
  by_cases h : 0 < ts.length
  · rw [decide_eq_true h]
    exact formedP_true.2 ⟨h, hx⟩
  · rw [decide_eq_false h]
    unfold formedP
    rw [decide_eq_false h]
    rfl
theorem getD_take {α : Type} (l : List α) (z : α) {i k : Nat} (h : i < k) : (l.take k).getD i z = l.getD i z := by
  rw [List.getD_eq_getElem?_getD, List.getD_eq_getElem?_getD, List.getElem?_take_of_lt h]
theorem takes_at {f t g : Nat} {ts : List Int} {i : Nat} (h : i < ts.length) : takesB f t g (ts.take i) (ts.getD i 0) = if i = 0 then firstB f t g (ts.getD 0 0) else decide (i < 50) && followsB (ts.getD (i - 1) 0) (ts.getD i 0) := by
  unfold takesB
  rw [List.length_take, Nat.min_eq_left (by omega)]
  by_cases h0 : i = 0
  · subst h0; rw [if_pos rfl, if_pos rfl]
  · rw [if_neg h0, if_neg h0, getD_take _ _ (by omega)]
/-- What it says of the types, one by one. -/
theorem formed_means {f t g : Nat} {ts : List Int} : formedP f t g ts = true ↔
    f ≠ 0 ∧ t ≠ 0 ∧ 0 < ts.length ∧ ts.length ≤ 50 ∧ (g = 0 ↔ ts.getD 0 0 = 1) ∧ (∀ i, i < ts.length → aloneB (ts.getD i 0) = true → ts.length = 1) ∧ (∀ i j, i < j → j < ts.length → ts.getD i 0 = 0 → ts.getD j 0 = 0) := by
  rw [formedP_true]
  constructor
  · rintro ⟨h0, h⟩
    have hn : ∀ i, i < ts.length → i ≠ 0 → i < 50 ∧ aloneB (ts.getD (i - 1) 0) = false ∧ aloneB (ts.getD i 0) = false ∧ (ts.getD (i - 1) 0 = 0 → ts.getD i 0 = 0) := by
      intro i hi hz
      have := h i hi
      rw [takes_at hi, if_neg hz] at this
      unfold followsB at this
      simp only [Bool.and_eq_true, Bool.not_eq_true', Bool.or_eq_true, decide_eq_true_eq] at this
      refine ⟨this.1, this.2.1.1, this.2.1.2, fun e => ?_⟩
      rcases this.2.2 with h1 | h1
      · exact absurd e h1
      · exact h1
    have hf := h 0 h0
    rw [takes_at h0, if_pos rfl] at hf
    unfold firstB at hf
    simp only [Bool.and_eq_true, decide_eq_true_eq, beq_iff_eq, decide_eq_decide] at hf
    refine ⟨hf.1.1, hf.1.2, h0, ?_, hf.2, ?_, ?_⟩
    · by_cases hl : ts.length = 1
      · omega
      · have := (hn (ts.length - 1) (by omega) (by omega)).1; omega
    · intro i hi ha
      by_cases hl : ts.length = 1
      · exact hl
      · exfalso
        by_cases hz : i = 0
        · subst hz
          have := (hn 1 (by omega) (by omega)).2.1
          rw [ha] at this
          cases this
        · have := (hn i hi hz).2.2.1
          rw [ha] at this
          cases this
    · intro i j hij
      induction j with
      | zero => omega
      | succ j ih =>
        intro hj hi
        have h1 := (hn (j + 1) hj (by omega)).2.2.2
        rw [Nat.add_sub_cancel] at h1
        by_cases e : i = j
        · subst e; exact h1 hi
        · exact h1 (ih (by omega) (by omega) hi)
  · rintro ⟨h1, h2, h3, h4, h5, h6, h7⟩
    refine ⟨h3, fun i hi => ?_⟩
    rw [takes_at hi]
    by_cases hz : i = 0
    · subst hz
      rw [if_pos rfl]
      unfold firstB
      simp only [Bool.and_eq_true, decide_eq_true_eq, beq_iff_eq, decide_eq_decide]
      exact ⟨⟨h1, h2⟩, h5⟩
    · rw [if_neg hz]
      unfold followsB
      have ha : ∀ k, k < ts.length → aloneB (ts.getD k 0) = false := by
        intro k hk
        rw [← Bool.not_eq_true]
        intro ha
        have := h6 k hk ha
        omega
      simp only [Bool.and_eq_true, Bool.not_eq_true', Bool.or_eq_true, decide_eq_true_eq]
      refine ⟨by omega, ⟨ha _ (by omega), ha _ hi⟩, ?_⟩
      by_cases e : ts.getD (i - 1) 0 = 0
      · exact .inr (h7 (i - 1) i (by omega) hi e)
      · exact .inl e
theorem getD_snoc {α : Type} (l : List α) (x z : α) : (l ++ [x]).getD l.length z = x := by
  rw [List.getD_eq_getElem?_getD, List.getElem?_append_right (by omega), Nat.sub_self]
  rfl
theorem getD_left {α : Type} (l m : List α) (z : α) {i : Nat} (h : i < l.length) : (l ++ m).getD i z = l.getD i z := by
  rw [List.getD_eq_getElem?_getD, List.getD_eq_getElem?_getD, List.getElem?_append_left h]
theorem formed_snoc {f t g : Nat} {ts : List Int} {k : Int} (h : ts = [] ∨ formedP f t g ts = true) (hk : takesB f t g ts k = true) : formedP f t g (ts ++ [k]) = true := by
  rw [formedP_true]
  have hl : (ts ++ [k]).length = ts.length + 1 := by simp
  refine ⟨by omega, fun i hi => ?_⟩
  by_cases e : i = ts.length
  · subst e
    rw [List.take_left' rfl, getD_snoc]
    exact hk
  · rcases h with rfl | h
    · simp at hi e; omega
    · rw [List.take_append_of_le_length (by omega), getD_left _ _ _ (by omega)]
      exact (formedP_true.1 h).2 i (by omega)

/-! ### Their bytes -/
def headL (f t g : Nat) : List UInt8 := be16 f ++ be16 t ++ be32 g ++ [0, 0, 0, 0]
def headB (f t g : Nat) : ByteArray := ⟨(headL f t g).toArray⟩
def rightC (l : List Ck) : Bool := l.all fun c => decide ((buildC c).2 = 0)
theorem rightC_true {l : List Ck} : rightC l = true ↔ ∀ c ∈ l, (buildC c).2 = 0 := by unfold rightC; simp
def joinC : List Ck → ByteArray
  | [] => noB
  | x :: l => (buildC x).1 ++ joinC l
theorem joinC_snoc (l : List Ck) (x : Ck) : joinC (l ++ [x]) = joinC l ++ (buildC x).1 := by
  induction l with
  | nil =>
    apply bytes_ext
    simp [joinC, noB]
  | cons y l ih =>
    simp only [List.cons_append, joinC]
    rw [ih]
    apply bytes_ext
    simp
theorem joinC_size_snoc (l : List Ck) (x : Ck) : (joinC (l ++ [x])).size = (joinC l).size + (buildC x).1.size := by rw [joinC_snoc, ByteArray.size_append]
structure Pk where
  f : Nat
  t : Nat
  g : Nat
  l : List Ck
def Pk.types (p : Pk) : List Int := p.l.map (·.type)
def packB (p : Pk) : ByteArray := headB p.f p.t p.g ++ joinC p.l
theorem packB_size (p : Pk) : (packB p).size = 12 + (joinC p.l).size := by unfold packB; rw [ByteArray.size_append]; rfl
def buildP (p : Pk) : ByteArray × Nat :=
  if formedP p.f p.t p.g p.types = true ∧ rightC p.l = true then (if 1500 < (packB p).size then (noB, 4) else (sealed (packB p), 0)) else (noB, 1)
/-! ### What is read of bytes -/
def walkC : Nat → List Ck → ByteArray → List Ck × Nat
  | 0, acc, _ => (acc, 0)
  | n + 1, acc, s => if s.size = 0 then (acc, 0) else if (parseC s).2.2 ≠ 0 then ([], (parseC s).2.2) else walkC n (acc ++ [(parseC s).1]) (cutB s (parseC s).2.1)
theorem walkC_end (n : Nat) (acc : List Ck) {s : ByteArray} (h : s.size = 0) : walkC n acc s = (acc, 0) := by
  cases n with
  | zero => rfl
  | succ n => unfold walkC; rw [if_pos h]
theorem walkC_err {n : Nat} (acc : List Ck) {s : ByteArray} (hn : s.size ≤ n) (h : s.size ≠ 0) (he : (parseC s).2.2 ≠ 0) : walkC n acc s = ([], (parseC s).2.2) := by
  cases n with
  | zero => omega
  | succ n => unfold walkC; rw [if_neg h, if_pos he]
theorem walkC_go {n : Nat} (acc : List Ck) {s : ByteArray} (hn : s.size ≤ n) (h : s.size ≠ 0) (he : (parseC s).2.2 = 0) : ∃ m, n = m + 1 ∧ walkC n acc s = walkC m (acc ++ [(parseC s).1]) (cutB s (parseC s).2.1) := by
  cases n with
  | zero => omega
  | succ n =>
    refine ⟨n, rfl, ?_⟩
    conv => lhs; unfold walkC
    rw [if_neg h, if_neg (by omega)]
def zeroP : Pk := ⟨0, 0, 0, []⟩
def readP (s : ByteArray) : Pk := ⟨num s.data.toList 0, num s.data.toList 2, num4 s.data.toList 4, (walkC s.size [] (cutB s 12)).1⟩
def parseP (s : ByteArray) : Pk × Nat :=
  if 1500 < s.size then (zeroP, 4)
  else if checked s ≠ 0 then (zeroP, (checked s).toNat)
  else if (walkC s.size [] (cutB s 12)).2 ≠ 0 then (zeroP, (walkC s.size [] (cutB s 12)).2)
  else if (buildP (readP s)).2 = 0 then (readP s, 0) else (zeroP, 2)
theorem checked_cases (s : ByteArray) : (checked s = 3 ∧ s.size < 12) ∨ (checked s = 0 ∧ 12 ≤ s.size) ∨ (checked s = 5 ∧ 12 ≤ s.size) := by
  unfold checked
  by_cases h : s.size < 12
  · rw [if_pos h]; exact .inl ⟨rfl, h⟩
  · rw [if_neg h]
    by_cases h2 : sealed s = s
    · rw [if_pos h2]; exact .inr (.inl ⟨rfl, by omega⟩)
    · rw [if_neg h2]; exact .inr (.inr ⟨rfl, by omega⟩)
/-- Of chunks that are read all are right. -/
theorem walkC_fine : ∀ (n : Nat) (acc : List Ck) (s : ByteArray), (∀ c ∈ acc, WfC c ∧ (buildC c).2 = 0) → ∀ c ∈ (walkC n acc s).1, WfC c ∧ (buildC c).2 = 0
  | 0, acc, s, h => by unfold walkC; exact h
  | n + 1, acc, s, h => by
    unfold walkC
    split
    · exact h
    · split
      · intro c hc; simp at hc
      · rename_i h1 h2
        have he : (parseC s).2.2 = 0 := by omega
        refine walkC_fine n _ _ fun c hc => ?_
        rcases List.mem_append.1 hc with hc | hc
        · exact h c hc
        · obtain rfl := List.mem_singleton.1 hc
          exact ⟨(chunk_again he).1, (chunk_again he).2.1⟩
/-! ### There and back -/
end Go.Proofs.YtlbaockipeojhaaGreat
