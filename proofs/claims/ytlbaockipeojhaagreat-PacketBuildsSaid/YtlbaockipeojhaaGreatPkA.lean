/-
  Packets: which chunks may travel together, their bytes, and what is read of bytes: plain functions and facts. No function of the program is walked here.
-/
import Derived.Test.YtlbaockipeojhaaGreatCkFact
import Derived.Test.YtlbaockipeojhaaGreatCrcB
namespace Go.Proofs.YtlbaockipeojhaaGreat
set_option linter.unusedVariables false
set_option linter.unusedSimpArgs false
set_option maxRecDepth 100000

/-! ### Which travel together -/
def aloneB (k : Int) : Bool := decide (k = 1) || decide (k = 2) || decide (k = 14)
def followsB (a k : Int) : Bool := !aloneB a && !aloneB k && (decide (a ≠ 0) || decide (k = 0))
def firstB (f t g : Nat) (k : Int) : Bool := decide (f ≠ 0) && decide (t ≠ 0) && (decide (g = 0) == decide (k = 1))
/-- Whether a type may stand behind those that there are. -/
def takesB (f t g : Nat) (ts : List Int) (k : Int) : Bool :=
  if ts.length = 0 then firstB f t g k else decide (ts.length < 50) && followsB (ts.getD (ts.length - 1) 0) k
def formedP (f t g : Nat) (ts : List Int) : Bool := decide (0 < ts.length) && (List.range ts.length).all fun i => takesB f t g (ts.take i) (ts.getD i 0)
theorem formedP_true {f t g : Nat} {ts : List Int} : formedP f t g ts = true ↔ 0 < ts.length ∧ ∀ i, i < ts.length → takesB f t g (ts.take i) (ts.getD i 0) = true := by
  unfold formedP
  simp only [Bool.and_eq_true, decide_eq_true_eq, List.all_eq_true, List.mem_range]
theorem formedP_not {f t g : Nat} {ts : List Int} {i : Nat} (h : i < ts.length) (hx : takesB f t g (ts.take i) (ts.getD i 0) = false) : formedP f t g ts = false := by
  rw [← Bool.not_eq_true, formedP_true]
  intro hh
  have := hh.2 i h
  rw [hx] at this
  cases this
theorem formedP_is {f t g : Nat} {ts : List Int} (hx : ∀ i, i < ts.length → takesB f t g (ts.take i) (ts.getD i 0) = true) : formedP f t g ts = decide (0 < ts.length) := by
  by_cases h : 0 < ts.length
  · rw [decide_eq_true h]
    exact formedP_true.2 ⟨h, hx⟩
  · rw [decide_eq_false h]
    unfold formedP
    rw [decide_eq_false h]
    rfl
theorem getD_take {α : Type} (l : List α) (z : α) {i k : Nat} (h : i < k) : (l.take k).getD i z = l.getD i z := by
  rw [List.getD_eq_getElem?_getD, List.getD_eq_getElem?_getD, List.getElem?_take_of_lt h]
theorem takes_at {f t g : Nat} {ts : List Int} {i : Nat} (h : i < ts.length) : takesB f t g (ts.take i) (ts.getD i 0) = if i = 0 then firstB f t g (ts.getD 0 0) else decide (i < 50) && followsB (ts.getD (i - 1) 0) (ts.getD i 0) := by
  unfold takesB
  rw [List.length_take, Nat.min_eq_left (by omega)]
  by_cases h0 : i = 0
  · subst h0; rw [if_pos rfl, if_pos rfl]
  · rw [if_neg h0, if_neg h0, getD_take _ _ (by omega)]
/-- What it says of the types, one by one. -/
theorem formed_means {f t g : Nat} {ts : List Int} : formedP f t g ts = true ↔
    f ≠ 0 ∧ t ≠ 0 ∧ 0 < ts.length ∧ ts.length ≤ 50 ∧ (g = 0 ↔ ts.getD 0 0 = 1) ∧ (∀ i, i < ts.length → aloneB (ts.getD i 0) = true → ts.length = 1) ∧ (∀ i j, i < j → j < ts.length → ts.getD i 0 = 0 → ts.getD j 0 = 0) := by
  rw [formedP_true]
  constructor
  · rintro ⟨h0, h⟩
    have hn : ∀ i, i < ts.length → i ≠ 0 → i < 50 ∧ aloneB (ts.getD (i - 1) 0) = false ∧ aloneB (ts.getD i 0) = false ∧ (ts.getD (i - 1) 0 = 0 → ts.getD i 0 = 0) := by
      intro i hi hz
      have := h i hi
      rw [takes_at hi, if_neg hz] at this
      unfold followsB at this
      simp only [Bool.and_eq_true, Bool.not_eq_true', Bool.or_eq_true, decide_eq_true_eq] at this
      refine ⟨this.1, this.2.1.1, this.2.1.2, fun e => ?_⟩
      rcases this.2.2 with h1 | h1
      · exact absurd e h1
      · exact h1
    have hf := h 0 h0
    rw [takes_at h0, if_pos rfl] at hf
    unfold firstB at hf
    simp only [Bool.and_eq_true, decide_eq_true_eq, beq_iff_eq, decide_eq_decide] at hf
    refine ⟨hf.1.1, hf.1.2, h0, ?_, hf.2, ?_, ?_⟩
    · by_cases hl : ts.length = 1
      · omega
      · have := (hn (ts.length - 1) (by omega) (by omega)).1; omega
    · intro i hi ha
      by_cases hl : ts.length = 1
      · exact hl
      · exfalso
        by_cases hz : i = 0
        · subst hz
          have := (hn 1 (by omega) (by omega)).2.1
          rw [ha] at this
          cases this
        · have := (hn i hi hz).2.2.1
          rw [ha] at this
          cases this
    · intro i j hij
      induction j with
      | zero => omega
      | succ j ih =>
        intro hj hi
        have h1 := (hn (j + 1) hj (by omega)).2.2.2
        rw [Nat.add_sub_cancel] at h1
        by_cases e : i = j
        · subst e; exact h1 hi
        · exact h1 (ih (by omega) (by omega) hi)
  · rintro ⟨h1, h2, h3, h4, h5, h6, h7⟩
    refine ⟨h3, fun i hi => ?_⟩
    rw [takes_at hi]
    by_cases hz : i = 0
    · subst hz
      rw [if_pos rfl]
      unfold firstB
      simp only [Bool.and_eq_true, decide_eq_true_eq, beq_iff_eq, decide_eq_decide]
      exact ⟨⟨h1, h2⟩, h5⟩
    · rw [if_neg hz]
      unfold followsB
      have ha : ∀ k, k < ts.length → aloneB (ts.getD k 0) = false := by
        intro k hk
        rw [← Bool.not_eq_true]
        intro ha
        have := h6 k hk ha
        omega
      simp only [Bool.and_eq_true, Bool.not_eq_true', Bool.or_eq_true, decide_eq_true_eq]
      refine ⟨by omega, ⟨ha _ (by omega), ha _ hi⟩, ?_⟩
      by_cases e : ts.getD (i - 1) 0 = 0
      · exact .inr (h7 (i - 1) i (by omega) hi e)
      · exact .inl e
theorem formed_front {f t g : Nat} {ts : List Int} (h : formedP f t g ts = true) {k : Nat} (hk : 0 < k) (hl : k ≤ ts.length) : formedP f t g (ts.take k) = true := by
  rw [formedP_true] at h ⊢
  have e : (ts.take k).length = k := by rw [List.length_take]; omega
  refine ⟨by omega, fun i hi => ?_⟩
  have := h.2 i (by omega)
  rw [List.take_take, Nat.min_eq_left (by omega), getD_take _ _ (by omega)]
  exact this
theorem getD_snoc {α : Type} (l : List α) (x z : α) : (l ++ [x]).getD l.length z = x := by
  rw [List.getD_eq_getElem?_getD, List.getElem?_append_right (by omega), Nat.sub_self]
  rfl
theorem getD_left {α : Type} (l m : List α) (z : α) {i : Nat} (h : i < l.length) : (l ++ m).getD i z = l.getD i z := by
  rw [List.getD_eq_getElem?_getD, List.getD_eq_getElem?_getD, List.getElem?_append_left h]
theorem formed_snoc {f t g : Nat} {ts : List Int} {k : Int} (h : ts = [] ∨ formedP f t g ts = true) (hk : takesB f t g ts k = true) : formedP f t g (ts ++ [k]) = true := by
  rw [formedP_true]
  have hl : (ts ++ [k]).length = ts.length + 1 := by simp
  refine ⟨by omega, fun i hi => ?_⟩
  by_cases e : i = ts.length
  · subst e
    rw [List.take_left' rfl, getD_snoc]
    exact hk
  · rcases h with rfl | h
    · simp at hi e; omega
    · rw [List.take_append_of_le_length (by omega), getD_left _ _ _ (by omega)]
      exact (formedP_true.1 h).2 i (by omega)

/-! ### Their bytes -/
def headL (f t g : Nat) : List UInt8 := be16 f ++ be16 t ++ be32 g ++ [0, 0, 0, 0]
theorem headL_length (f t g : Nat) : (headL f t g).length = 12 := rfl
def headB (f t g : Nat) : ByteArray := ⟨(headL f t g).toArray⟩
def rightC (l : List Ck) : Bool := l.all fun c => decide ((buildC c).2 = 0)
theorem rightC_true {l : List Ck} : rightC l = true ↔ ∀ c ∈ l, (buildC c).2 = 0 := by unfold rightC; simp
def joinC : List Ck → ByteArray
  | [] => noB
  | x :: l => (buildC x).1 ++ joinC l
theorem joinC_snoc (l : List Ck) (x : Ck) : joinC (l ++ [x]) = joinC l ++ (buildC x).1 := by
  induction l with
  | nil =>
    apply bytes_ext
    simp [joinC, noB]
  | cons y l ih =>
    simp only [List.cons_append, joinC]
    rw [ih]
    apply bytes_ext
    simp
theorem joinC_size_snoc (l : List Ck) (x : Ck) : (joinC (l ++ [x])).size = (joinC l).size + (buildC x).1.size := by rw [joinC_snoc, ByteArray.size_append]
theorem joinC_front (l m : List Ck) : joinC (l ++ m) = joinC l ++ joinC m := by
  induction l with
  | nil =>
    apply bytes_ext
    simp [joinC, noB]
  | cons y l ih =>
    simp only [List.cons_append, joinC]
    rw [ih]
    apply bytes_ext
    simp
structure Pk where
  f : Nat
  t : Nat
  g : Nat
  l : List Ck
def Pk.types (p : Pk) : List Int := p.l.map (·.type)
def packB (p : Pk) : ByteArray := headB p.f p.t p.g ++ joinC p.l
theorem packB_size (p : Pk) : (packB p).size = 12 + (joinC p.l).size := by unfold packB; rw [ByteArray.size_append]; rfl
def buildP (p : Pk) : ByteArray × Nat :=
  if formedP p.f p.t p.g p.types = true ∧ rightC p.l = true then (if 1500 < (packB p).size then (noB, 4) else (sealed (packB p), 0)) else (noB, 1)
theorem buildP_ok {p : Pk} (h : (buildP p).2 = 0) : formedP p.f p.t p.g p.types = true ∧ rightC p.l = true ∧ (packB p).size ≤ 1500 ∧ (buildP p).1 = sealed (packB p) := by
  unfold buildP at h ⊢
  by_cases h1 : formedP p.f p.t p.g p.types = true ∧ rightC p.l = true
  · rw [if_pos h1] at h ⊢
    by_cases h2 : 1500 < (packB p).size
    · rw [if_pos h2] at h; cases h
    · rw [if_neg h2]; exact ⟨h1.1, h1.2, by omega, rfl⟩
  · rw [if_neg h1] at h; cases h
theorem buildP_of {p : Pk} (h1 : formedP p.f p.t p.g p.types = true) (h2 : rightC p.l = true) (h3 : (packB p).size ≤ 1500) : buildP p = (sealed (packB p), 0) := by
  unfold buildP
  rw [if_pos ⟨h1, h2⟩, if_neg (by omega)]
theorem buildP_none {p : Pk} (h : (buildP p).2 ≠ 0) : (buildP p).1 = noB := by
  unfold buildP at h ⊢
  split
  · split
    · rfl
    · rename_i h1 h2; rw [if_pos h1, if_neg h2] at h; exact absurd rfl h
  · rfl
theorem buildP_lt (p : Pk) : (buildP p).2 < 5 := by
  unfold buildP
  split
  · split
    · decide
    · exact Nat.zero_lt_succ 4
  · decide
theorem packed_size {p : Pk} (h : (buildP p).2 = 0) : (buildP p).1.size = 12 + (joinC p.l).size ∧ (buildP p).1.size ≤ 1500 ∧ 12 ≤ (buildP p).1.size := by
  obtain ⟨_, _, h3, h4⟩ := buildP_ok h
  have h5 := packB_size p
  rw [h4, sealed_size _ (by omega)]
  omega

/-! ### What is read of bytes -/
def walkC : Nat → List Ck → ByteArray → List Ck × Nat
  | 0, acc, _ => (acc, 0)
  | n + 1, acc, s => if s.size = 0 then (acc, 0) else if (parseC s).2.2 ≠ 0 then ([], (parseC s).2.2) else walkC n (acc ++ [(parseC s).1]) (cutB s (parseC s).2.1)
theorem walkC_end (n : Nat) (acc : List Ck) {s : ByteArray} (h : s.size = 0) : walkC n acc s = (acc, 0) := by
  cases n with
  | zero => rfl
  | succ n => unfold walkC; rw [if_pos h]
theorem walkC_err {n : Nat} (acc : List Ck) {s : ByteArray} (hn : s.size ≤ n) (h : s.size ≠ 0) (he : (parseC s).2.2 ≠ 0) : walkC n acc s = ([], (parseC s).2.2) := by
  cases n with
  | zero => omega
  | succ n => unfold walkC; rw [if_neg h, if_pos he]
theorem walkC_go {n : Nat} (acc : List Ck) {s : ByteArray} (hn : s.size ≤ n) (h : s.size ≠ 0) (he : (parseC s).2.2 = 0) : ∃ m, n = m + 1 ∧ walkC n acc s = walkC m (acc ++ [(parseC s).1]) (cutB s (parseC s).2.1) := by
  cases n with
  | zero => omega
  | succ n =>
    refine ⟨n, rfl, ?_⟩
    conv => lhs; unfold walkC
    rw [if_neg h, if_neg (by omega)]
def zeroP : Pk := ⟨0, 0, 0, []⟩
def readP (s : ByteArray) : Pk := ⟨num s.data.toList 0, num s.data.toList 2, num4 s.data.toList 4, (walkC s.size [] (cutB s 12)).1⟩
def parseP (s : ByteArray) : Pk × Nat :=
  if 1500 < s.size then (zeroP, 4)
  else if checked s ≠ 0 then (zeroP, (checked s).toNat)
  else if (walkC s.size [] (cutB s 12)).2 ≠ 0 then (zeroP, (walkC s.size [] (cutB s 12)).2)
  else if (buildP (readP s)).2 = 0 then (readP s, 0) else (zeroP, 2)
structure WfP (p : Pk) : Prop where
  f : p.f < 65536
  t : p.t < 65536
  g : p.g < 4294967296
  l : ∀ c ∈ p.l, WfC c
theorem checked_cases (s : ByteArray) : (checked s = 3 ∧ s.size < 12) ∨ (checked s = 0 ∧ 12 ≤ s.size) ∨ (checked s = 5 ∧ 12 ≤ s.size) := by
  unfold checked
  by_cases h : s.size < 12
  · rw [if_pos h]; exact .inl ⟨rfl, h⟩
  · rw [if_neg h]
    by_cases h2 : sealed s = s
    · rw [if_pos h2]; exact .inr (.inl ⟨rfl, by omega⟩)
    · rw [if_neg h2]; exact .inr (.inr ⟨rfl, by omega⟩)
/-- Of chunks that are read all are right. -/
theorem walkC_fine : ∀ (n : Nat) (acc : List Ck) (s : ByteArray), (∀ c ∈ acc, WfC c ∧ (buildC c).2 = 0) → ∀ c ∈ (walkC n acc s).1, WfC c ∧ (buildC c).2 = 0
  | 0, acc, s, h => by unfold walkC; exact h
  | n + 1, acc, s, h => by
    unfold walkC
    split
    · exact h
    · split
      · intro c hc; simp at hc
      · rename_i h1 h2
        have he : (parseC s).2.2 = 0 := by omega
        refine walkC_fine n _ _ fun c hc => ?_
        rcases List.mem_append.1 hc with hc | hc
        · exact h c hc
        · obtain rfl := List.mem_singleton.1 hc
          exact ⟨(chunk_again he).1, (chunk_again he).2.1⟩
theorem parseP_err {s : ByteArray} (h : (parseP s).2 ≠ 0) : (parseP s).1 = zeroP := by
  unfold parseP at h ⊢
  split
  · rfl
  · split
    · rfl
    · split
      · rfl
      · split
        · rename_i h1 h2 h3 h4
          rw [if_neg h1, if_neg h2, if_neg h3, if_pos h4] at h
          exact absurd rfl h
        · rfl
theorem parseP_ok {s : ByteArray} (h : (parseP s).2 = 0) : s.size ≤ 1500 ∧ checked s = 0 ∧ (parseP s).1 = readP s ∧ (buildP (readP s)).2 = 0 ∧ WfP (readP s) ∧ (walkC s.size [] (cutB s 12)).2 = 0 := by
  unfold parseP at h ⊢
  by_cases h1 : 1500 < s.size
  · rw [if_pos h1] at h; cases h
  rw [if_neg h1] at h ⊢
  by_cases h2 : checked s ≠ 0
  · rw [if_pos h2] at h
    have h3 : (checked s).toNat = 0 := h
    rcases checked_cases s with h4 | h4 | h4 <;> omega
  rw [if_neg h2] at h ⊢
  by_cases h3 : (walkC s.size [] (cutB s 12)).2 ≠ 0
  · rw [if_pos h3] at h; exact absurd h h3
  rw [if_neg h3] at h ⊢
  by_cases h4 : (buildP (readP s)).2 = 0
  · rw [if_pos h4]
    refine ⟨by omega, by omega, rfl, h4, ⟨num_lt _ _, num_lt _ _, num4_lt _ _, fun c hc => (walkC_fine _ _ _ (by simp) c hc).1⟩, by omega⟩
  · rw [if_neg h4] at h; cases h

/-! ### There and back -/
theorem cut_joined (a b : ByteArray) : cutB (a ++ b) a.size = b := by
  apply bytes_ext
  unfold cutB
  rw [ByteArray.data_append, Array.toList_append, size_list a, List.drop_left]
theorem walk_back : ∀ (l : List Ck) (n : Nat) (acc : List Ck), (∀ c ∈ l, WfC c ∧ (buildC c).2 = 0) → (joinC l).size ≤ n → walkC n acc (joinC l) = (acc ++ l, 0)
  | [], n, acc, _, _ => by rw [walkC_end _ _ (by rfl), List.append_nil]
  | c :: l, n, acc, h, hn => by
    obtain ⟨hw, hb⟩ := h c (by simp)
    have h4 := (built_size hb).2.2
    have hp : parseC (joinC (c :: l)) = (c, (buildC c).1.size, 0) := chunk_back hw hb (joinC l)
    have hs : (joinC (c :: l)).size = (buildC c).1.size + (joinC l).size := by simp only [joinC, ByteArray.size_append]
    obtain ⟨m, rfl, e⟩ := walkC_go acc hn (by omega) (by rw [hp])
    rw [e, hp]
    dsimp only
    rw [show cutB (joinC (c :: l)) (buildC c).1.size = joinC l from cut_joined _ _, walk_back l m _ (fun x hx => h x (by simp [hx])) (by omega), List.append_assoc]
    rfl
theorem sealed_cut {s : ByteArray} (h12 : 12 ≤ s.size) : cutB (sealed s) 12 = cutB s 12 := by
  apply bytes_ext
  unfold cutB
  show List.drop 12 (sealed s).data.toList = List.drop 12 s.data.toList
  rw [sealed_list s h12, sealL_drop (by rw [← size_list]; omega)]
theorem sealed_take {s : ByteArray} (h12 : 12 ≤ s.size) : (sealed s).data.toList.take 8 = s.data.toList.take 8 := by
  rw [sealed_list s h12, sealL_take (by rw [← size_list]; omega)]
theorem byteAt_take8 {L : List UInt8} {i k : Nat} (h : i < k) : byteAt (L.take k) i = byteAt L i := by
  unfold byteAt
  rw [getD_take _ _ h]
theorem num_front {L M : List UInt8} {i : Nat} (h : L.take 8 = M.take 8) (hi : i + 1 < 8) : num L i = num M i := by
  unfold num
  rw [← byteAt_take8 (L := L) (show i < 8 by omega), ← byteAt_take8 (L := L) hi, h, byteAt_take8 (by omega), byteAt_take8 hi]
theorem num4_front {L M : List UInt8} {i : Nat} (h : L.take 8 = M.take 8) (hi : i + 3 < 8) : num4 L i = num4 M i := by
  unfold num4
  rw [num_front h (by omega), num_front h (by omega)]
theorem pack_list (p : Pk) : (packB p).data.toList = be16 p.f ++ (be16 p.t ++ (be32 p.g ++ ([0, 0, 0, 0] ++ (joinC p.l).data.toList))) := by
  unfold packB headB headL
  rw [ByteArray.data_append, Array.toList_append]
  simp only [List.append_assoc]
theorem pack_nums {p : Pk} (h : WfP p) : num (packB p).data.toList 0 = p.f ∧ num (packB p).data.toList 2 = p.t ∧ num4 (packB p).data.toList 4 = p.g := by
  rw [pack_list]
  refine ⟨?_, ?_, ?_⟩
  · rw [num_left _ (by rw [be16_length]; omega), num_be16 h.f]
  · rw [show (2 : Nat) = (be16 p.f).length + 0 from rfl, num_right, num_left _ (by rw [be16_length]; omega), num_be16 h.t]
  · have e : ∀ (a b : List UInt8) (i : Nat), num4 (a ++ b) (a.length + i) = num4 b i := by
      intro a b i
      unfold num4
      rw [num_right, Nat.add_assoc, num_right]
    rw [show (4 : Nat) = (be16 p.f).length + 2 from rfl, e, show (2 : Nat) = (be16 p.t).length + 0 from rfl, e, num4_be32 h.g]
theorem pack_cut (p : Pk) : cutB (packB p) 12 = joinC p.l := by
  have := cut_joined (headB p.f p.t p.g) (joinC p.l)
  exact this
theorem pack_ext {a b : Pk} (h1 : a.f = b.f) (h2 : a.t = b.t) (h3 : a.g = b.g) (h4 : a.l = b.l) : a = b := by
  cases a; cases b; simp_all
theorem packet_back {p : Pk} (hw : WfP p) (h : (buildP p).2 = 0) : parseP (buildP p).1 = (p, 0) := by
  obtain ⟨h1, h2, h3, h4⟩ := buildP_ok h
  have h5 := packB_size p
  have h12 : 12 ≤ (packB p).size := by omega
  obtain ⟨n1, n2, n3⟩ := pack_nums hw
  have hc : cutB (sealed (packB p)) 12 = joinC p.l := by rw [sealed_cut h12, pack_cut]
  have hk := sealed_take h12
  have hs := sealed_size _ h12
  have hwalk : walkC (sealed (packB p)).size [] (cutB (sealed (packB p)) 12) = (p.l, 0) := by
    rw [hc, walk_back p.l _ [] (fun c hc => ⟨hw.l c hc, rightC_true.1 h2 c hc⟩) (by omega)]
    rfl
  have hr : readP (sealed (packB p)) = p := by
    unfold readP
    rw [hwalk]
    exact pack_ext ((num_front hk (by omega)).trans n1) ((num_front hk (by omega)).trans n2) ((num4_front hk (by omega)).trans n3) rfl
  rw [h4]
  unfold parseP
  rw [if_neg (by omega), if_neg (by rw [checked_sealed _ h12]; exact fun h => h rfl), if_neg (by rw [hwalk]; exact fun h => h rfl), hr, if_pos h]
/-- With one byte turned it is refused. -/
theorem packet_turned {p : Pk} (h : (buildP p).2 = 0) {t : ByteArray} {i : Nat} (hi : i < (buildP p).1.data.toList.length) (x : UInt8) (hx : x ≠ (buildP p).1.data.toList[i]) (ht : t.data.toList = (buildP p).1.data.toList.set i x) : parseP t = (zeroP, 5) := by
  obtain ⟨h1, h2, h3, h4⟩ := buildP_ok h
  have h5 := packB_size p
  have hl : t.size ≤ 1500 := by
    rw [size_list, ht, List.length_set, ← size_list]
    exact (packed_size h).2.1
  have hc : checked t = 5 := by
    simp only [h4] at hi hx ht
    exact checked_turned (packB p) t (by omega) hi x hx ht
  unfold parseP
  rw [if_neg (by omega), if_pos (by rw [hc]; decide), hc]
  rfl
end Go.Proofs.YtlbaockipeojhaaGreat
