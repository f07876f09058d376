/-
  Plain facts on lists of bytes, numbers of two bytes. No program is named here. Rows of items: their bytes, and what is read of bytes: plain functions and facts. No program is named here. How many items are read of a text, and where the wrong one may begin: plain facts. Chunks: their bytes, and what is read of bytes: plain functions and facts. No program is named here. What is built of a chunk is read as that chunk, whatever stands behind it: plain facts. No program is named here. Chunks there and back: what is built is read as it was; what is read is right, and built and read again the same: plain facts. No program is named here. What is read of bytes is right, has no more bytes than were read, and is read again when built; with a byte less than its length says there is none: plain facts. No program is named here. The first bytes of a chunk: plain facts. No function of the program is walked here.
-/
import Derived.WalkKit
section
namespace Go.Proofs.YtlbaockipeojhaaGreat

/-- A byte as a number, and two. -/
def byteAt (l : List UInt8) (i : Nat) : Nat := (l.getD i 0).toNat
def num (l : List UInt8) (i : Nat) : Nat := byteAt l i * 256 + byteAt l (i + 1)
theorem byteAt_lt (l : List UInt8) (i : Nat) : byteAt l i < 256 := by
  have := (l.getD i 0).toNat_lt
  unfold byteAt
  omega
theorem num_lt (l : List UInt8) (i : Nat) : num l i < 65536 := by
  have h1 := byteAt_lt l i
  have h2 := byteAt_lt l (i + 1)
  unfold num
  omega
theorem byteAt_get {l : List UInt8} {i : Nat} (h : i < l.length) : byteAt l i = l[i].toNat := by
  unfold byteAt
  rw [List.getD_eq_getElem?_getD, List.getElem?_eq_getElem h]
  rfl
/-- A number in two bytes. -/
def be16 (n : Nat) : List UInt8 := [UInt8.ofNat (n / 256), UInt8.ofNat n]
theorem be16_length (n : Nat) : (be16 n).length = 2 := rfl
theorem bytes_ext {a b : ByteArray} (h : a.data.toList = b.data.toList) : a = b := by
  cases a; cases b
  congr 1
  exact Array.toList_inj.1 h
theorem size_list (a : ByteArray) : a.size = a.data.toList.length := by simp
end Go.Proofs.YtlbaockipeojhaaGreat
end
section
namespace Go.Proofs.YtlbaockipeojhaaGreat
set_option linter.unusedVariables false

/-- A type, and a value. -/
abbrev Item := Int × ByteArray
/-- So many noughts make a multiple of four. -/
def padN (n : Nat) : Nat := (4 - n % 4) % 4
def padI (n : Int) : Int := if n < 0 then 0 else (4 - n % 4) % 4
theorem padI_nat (n : Nat) : padI (n : Int) = ((padN n : Nat) : Int) := by
  unfold padI padN
  rw [if_neg (by omega)]
  omega
theorem padN_lt (n : Nat) : padN n < 4 := by unfold padN; omega
theorem padN_four (n : Nat) : (n + padN n) % 4 = 0 := by unfold padN; omega
theorem padN_head (n : Nat) : padN (4 + n) = padN n := by unfold padN; omega
/-- So many noughts. -/
def zerosL (n : Nat) : List UInt8 := List.replicate n 0
/-- An item's bytes. -/
def bytesL (x : Item) : List UInt8 := be16 x.1.toNat ++ be16 (4 + x.2.size) ++ x.2.data.toList ++ zerosL (padN (4 + x.2.size))
theorem bytesL_length (x : Item) : (bytesL x).length = 4 + x.2.size + padN (4 + x.2.size) := by
  unfold bytesL zerosL
  simp only [List.length_append, be16_length, List.length_replicate, ← size_list]
/-- Items' bytes, one behind the other. -/
def rowL (l : List Item) : List UInt8 := l.flatMap bytesL
theorem rowL_nil : rowL [] = [] := rfl
theorem rowL_cons (x : Item) (l : List Item) : rowL (x :: l) = bytesL x ++ rowL l := by simp [rowL]
theorem rowL_snoc (l : List Item) (x : Item) : rowL (l ++ [x]) = rowL l ++ bytesL x := by simp [rowL]
def isType (k : Int) : Bool := decide (0 ≤ k ∧ k ≤ 65535)
/-- What is built of items, and which error is told. -/
def anyWrong (l : List Item) : Bool := l.any fun x => !isType x.1
def anyLong (l : List Item) : Bool := l.any fun x => decide (1400 < x.2.size)
def buildB (l : List Item) : ByteArray × Nat :=
  if anyWrong l then (⟨#[]⟩, 1) else if anyLong l then (⟨#[]⟩, 4) else if 4000 < (rowL l).length then (⟨#[]⟩, 4) else (⟨(rowL l).toArray⟩, 0)

/-- What is read of bytes: what stands for noughts; the error; how many bytes an item takes; the item. -/
def tailL (L : List UInt8) : List UInt8 := (L.drop (num L 2)).take (padN (num L 2))
def valL (L : List UInt8) : ByteArray := ⟨((L.drop 4).take (num L 2 - 4)).toArray⟩
def errL (L : List UInt8) : Nat :=
  if L.length < 4 then 3 else if L.length < num L 2 then 3 else if num L 2 < 4 then 2 else if 1400 < num L 2 - 4 then 4 else if tailL L = zerosL (tailL L).length then 0 else 2
def sizeL (L : List UInt8) : Nat := num L 2 + padN (num L 2)
def itemL (L : List UInt8) : Item := ((num L 0 : Nat), valL L)
theorem errL_ok {L : List UInt8} (h : errL L = 0) : 4 ≤ L.length ∧ num L 2 ≤ L.length ∧ 4 ≤ num L 2 ∧ num L 2 ≤ 1404 ∧ tailL L = zerosL (tailL L).length := by
  unfold errL at h
  repeat' split at h
  all_goals (first | omega | (refine ⟨by omega, by omega, by omega, by omega, by assumption⟩))
theorem errL_of {L : List UInt8} (h0 : 4 ≤ L.length) (h1 : num L 2 ≤ L.length) (h2 : 4 ≤ num L 2) (h3 : num L 2 ≤ 1404) (h4 : tailL L = zerosL (tailL L).length) : errL L = 0 := by
  unfold errL
  rw [if_neg (by omega), if_neg (by omega), if_neg (by omega), if_neg (by omega), if_pos h4]
theorem sizeL_pos {L : List UInt8} (h : errL L = 0) : 4 ≤ sizeL L := by
  have := (errL_ok h).2.2.1
  unfold sizeL
  omega
def parseL (L : List UInt8) : List Item × Nat × Nat :=
  if h0 : L = [] then ([], 0, 0)
  else if he : errL L = 0 then
    if (parseL (L.drop (sizeL L))).2.2 = 0 then (itemL L :: (parseL (L.drop (sizeL L))).1, 0, 0) else ([], sizeL L + (parseL (L.drop (sizeL L))).2.1, (parseL (L.drop (sizeL L))).2.2)
  else ([], 0, errL L)
termination_by L.length
decreasing_by
  all_goals
    have := sizeL_pos he
    have := List.length_pos_iff.2 h0
    simp only [List.length_drop]
    omega
def parseB (s : ByteArray) : List Item × Nat × Nat := if 4000 < s.size then ([], 0, 4) else parseL s.data.toList

theorem parseL_nil : parseL [] = ([], 0, 0) := by rw [parseL]; simp
theorem parseL_err {L : List UInt8} (h0 : L ≠ []) (h : errL L ≠ 0) : parseL L = ([], 0, errL L) := by rw [parseL, dif_neg h0, dif_neg h]
theorem parseL_ok {L : List UInt8} (h0 : L ≠ []) (h : errL L = 0) (hr : (parseL (L.drop (sizeL L))).2.2 = 0) : parseL L = (itemL L :: (parseL (L.drop (sizeL L))).1, 0, 0) := by
  rw [parseL, dif_neg h0, dif_pos h, if_pos hr]
theorem parseL_later {L : List UInt8} (h0 : L ≠ []) (h : errL L = 0) (hr : (parseL (L.drop (sizeL L))).2.2 ≠ 0) : parseL L = ([], sizeL L + (parseL (L.drop (sizeL L))).2.1, (parseL (L.drop (sizeL L))).2.2) := by
  rw [parseL, dif_neg h0, dif_pos h, if_neg hr]

/-- What was read up to a place, and what is told of the rest. -/
def glue (at_ : Nat) (acc : List Item) (r : List Item × Nat × Nat) : List Item × Nat × Nat := if r.2.2 = 0 then (acc ++ r.1, 0, 0) else ([], at_ + r.2.1, r.2.2)
theorem parse_fst {L : List UInt8} (h : (parseL L).2.2 = 0) : (parseL L).2.1 = 0 := by
  by_cases h0 : L = []
  · rw [h0, parseL_nil]
  by_cases he : errL L = 0
  · by_cases hr : (parseL (L.drop (sizeL L))).2.2 = 0
    · rw [parseL_ok h0 he hr]
    · rw [parseL_later h0 he hr] at h
      exact absurd h hr
  · rw [parseL_err h0 he] at h
    exact absurd h he
theorem glue_start (L : List UInt8) : glue 0 [] (parseL L) = parseL L ∨ (parseL L).2.2 ≠ 0 ∧ (glue 0 [] (parseL L)).2 = (parseL L).2 := by
  unfold glue
  by_cases h : (parseL L).2.2 = 0
  · left
    rw [if_pos h]
    have := parse_fst h
    generalize parseL L = r at *
    obtain ⟨a, b, c⟩ := r
    simp_all
  · right
    rw [if_neg h]
    simp [h]
theorem parse_none {L : List UInt8} (h : (parseL L).2.2 ≠ 0) : (parseL L).1 = [] := by
  by_cases h0 : L = []
  · rw [h0, parseL_nil]
  by_cases he : errL L = 0
  · by_cases hr : (parseL (L.drop (sizeL L))).2.2 = 0
    · rw [parseL_ok h0 he hr] at h
      exact absurd rfl h
    · rw [parseL_later h0 he hr]
  · rw [parseL_err h0 he]
theorem glue_zero (L : List UInt8) : glue 0 [] (parseL L) = parseL L := by
  rcases glue_start L with h | ⟨h, h2⟩
  · exact h
  · have h1 := parse_none h
    unfold glue
    rw [if_neg h]
    generalize parseL L = r at *
    obtain ⟨a, b, c⟩ := r
    simp_all
theorem glue_step (L : List UInt8) (at_ : Nat) (acc : List Item) (h : at_ < L.length) (he : errL (L.drop at_) = 0) :
    glue at_ acc (parseL (L.drop at_)) = glue (at_ + sizeL (L.drop at_)) (acc ++ [itemL (L.drop at_)]) (parseL (L.drop (at_ + sizeL (L.drop at_)))) := by
  have hn : L.drop at_ ≠ [] := by intro h0; have := congrArg List.length h0; simp at this; omega
  rw [← List.drop_drop]
  unfold glue
  by_cases hr : (parseL ((L.drop at_).drop (sizeL (L.drop at_)))).2.2 = 0
  · rw [parseL_ok hn he hr, if_pos rfl, if_pos hr]
    simp
  · rw [parseL_later hn he hr, if_neg hr, if_neg hr, Nat.add_assoc]
theorem glue_end (L : List UInt8) (at_ : Nat) (acc : List Item) (h : L.length ≤ at_) : glue at_ acc (parseL (L.drop at_)) = (acc, 0, 0) := by
  rw [List.drop_eq_nil_of_le h, parseL_nil]
  simp [glue]
theorem glue_err (L : List UInt8) (at_ : Nat) (acc : List Item) (h : at_ < L.length) (he : errL (L.drop at_) ≠ 0) : glue at_ acc (parseL (L.drop at_)) = ([], at_, errL (L.drop at_)) := by
  have hn : L.drop at_ ≠ [] := by intro h0; have := congrArg List.length h0; simp at this; omega
  rw [parseL_err hn he]
  simp [glue, he]

/-! ### There and back -/
def rightI (x : Item) : Bool := isType x.1 && decide (x.2.size ≤ 1400)
theorem build_ok {l : List Item} (h : (buildB l).2 = 0) : l.all rightI = true ∧ (rowL l).length ≤ 4000 ∧ (buildB l).1 = ⟨(rowL l).toArray⟩ := by
  unfold buildB at h ⊢
  repeat' split at h
  all_goals (first | (exact absurd h (by decide)) | skip)
  rename_i h1 h2 h3
  rw [if_neg h1, if_neg h2, if_neg h3]
  refine ⟨?_, by omega, rfl⟩
  rw [List.all_eq_true]
  intro x hx
  simp only [anyWrong, anyLong, List.any_eq_true, not_exists, not_and, decide_eq_true_eq, Bool.not_eq_true'] at h1 h2
  have a1 := h1 x hx
  have a2 := h2 x hx
  unfold rightI
  simp only [Bool.and_eq_true, decide_eq_true_eq]
  exact ⟨by simpa using a1, by omega⟩
theorem build_right {l : List Item} (h : l.all rightI = true) (hs : (rowL l).length ≤ 4000) : buildB l = (⟨(rowL l).toArray⟩, 0) := by
  rw [List.all_eq_true] at h
  have h1 : anyWrong l = false := by
    unfold anyWrong
    rw [List.any_eq_false]
    intro x hx
    have := h x hx
    simp only [rightI, Bool.and_eq_true] at this
    simp [this.1]
  have h2 : anyLong l = false := by
    unfold anyLong
    rw [List.any_eq_false]
    intro x hx
    have := h x hx
    simp only [rightI, Bool.and_eq_true, decide_eq_true_eq] at this
    simp only [decide_eq_true_eq]
    omega
  unfold buildB
  rw [h1, h2, if_neg (by decide), if_neg (by decide), if_neg (by omega)]
/-- What was read is right, and has as many bytes, and noughts up to a multiple of four. -/
theorem parse_right : ∀ (n : Nat) (L : List UInt8), L.length ≤ n → (parseL L).2.2 = 0 → (parseL L).1.all rightI = true ∧ (rowL (parseL L).1).length = L.length + padN L.length
  | n, [], _, _ => by rw [parseL_nil]; exact ⟨rfl, rfl⟩
  | 0, b :: L, h, _ => by simp at h
  | n + 1, b :: L, hn, h => by
    generalize hL : b :: L = M at *
    have h0 : M ≠ [] := by rw [← hL]; simp
    by_cases he : errL M = 0
    · by_cases hr : (parseL (M.drop (sizeL M))).2.2 = 0
      · obtain ⟨g0, g1, g2, g3, g4⟩ := errL_ok he
        have hp := sizeL_pos he
        have hlen : (M.drop (sizeL M)).length = M.length - sizeL M := List.length_drop
        obtain ⟨i1, i2⟩ := parse_right n (M.drop (sizeL M)) (by omega) hr
        rw [parseL_ok h0 he hr]
        have hv : (valL M).size = num M 2 - 4 := by simp [valL, ByteArray.size]; omega
        have ht : isType (itemL M).1 = true := by
          have := num_lt M 0
          show decide _ = true
          rw [decide_eq_true_eq]
          show 0 ≤ ((num M 0 : Nat) : Int) ∧ ((num M 0 : Nat) : Int) ≤ 65535
          omega
        refine ⟨?_, ?_⟩
        · simp only [List.all_cons, Bool.and_eq_true]
          refine ⟨?_, i1⟩
          unfold rightI
          rw [ht, Bool.true_and, decide_eq_true_eq]
          show (valL M).size ≤ 1400
          omega
        · rw [rowL_cons, List.length_append, bytesL_length, i2, hlen]
          show 4 + (valL M).size + padN (4 + (valL M).size) + _ = _
          rw [hv, show 4 + (num M 2 - 4) = num M 2 by omega]
          unfold sizeL padN
          omega
      · rw [parseL_later h0 he hr] at h
        exact absurd h hr
    · rw [parseL_err h0 he] at h
      exact absurd h he

/-! ### One row behind the other -/
/-! ### The first of a type -/
end Go.Proofs.YtlbaockipeojhaaGreat
end
section
namespace Go.Proofs.YtlbaockipeojhaaGreat
set_option linter.unusedVariables false

theorem count_le : ∀ (n : Nat) (L : List UInt8), L.length ≤ n → (parseL L).1.length * 4 ≤ L.length + 3 := by
  intro n
  induction n with
  | zero => intro L hL; have : L = [] := List.eq_nil_of_length_eq_zero (by omega); subst this; rw [parseL_nil]; simp
  | succ n ih =>
    intro L hL
    by_cases h0 : L = []
    · subst h0; rw [parseL_nil]; simp
    by_cases he : errL L = 0
    · by_cases hr : (parseL (L.drop (sizeL L))).2.2 = 0
      · rw [parseL_ok h0 he hr]
        have hp := sizeL_pos he
        have hl := List.length_pos_iff.2 h0
        have h1 := ih (L.drop (sizeL L)) (by rw [List.length_drop]; omega)
        rw [List.length_drop] at h1
        have h4 := errL_ok he
        rw [List.length_cons]
        by_cases hs : sizeL L ≤ L.length
        · omega
        · have : L.drop (sizeL L) = [] := List.drop_eq_nil_of_le (by omega)
          rw [this, parseL_nil]
          simp
          omega
      · rw [parseL_later h0 he hr]; simp
    · rw [parseL_err h0 he]; simp
theorem parse_count {s : ByteArray} : (parseB s).1.length * 4 ≤ s.size + 3 := by
  unfold parseB
  split
  · simp
  · rw [size_list s]
    exact count_le _ _ (Nat.le_refl _)
end Go.Proofs.YtlbaockipeojhaaGreat
end
section
section
namespace Go.Proofs.YtlbaockipeojhaaGreat
set_option linter.unusedVariables false

/-- A chunk. -/
structure Ck where
  type : Int
  flags : Int
  tsn : Nat
  tag : Nat
  window : Nat
  ppid : Nat
  stream : Nat
  ssn : Nat
  outs : Nat
  ins : Nat
  gaps : List (Nat × Nat)
  dups : List Nat
  items : List Item
  text : ByteArray
def noB : ByteArray := ⟨#[]⟩
def zeroC (k f : Int) : Ck := ⟨k, f, 0, 0, 0, 0, 0, 0, 0, 0, [], [], [], noB⟩
/-- Its numbers are of so many bits as its fields have. -/
structure WfC (c : Ck) : Prop where
  tsn : c.tsn < 4294967296
  tag : c.tag < 4294967296
  window : c.window < 4294967296
  ppid : c.ppid < 4294967296
  stream : c.stream < 65536
  ssn : c.ssn < 65536
  outs : c.outs < 65536
  ins : c.ins < 65536
  gaps : ∀ g ∈ c.gaps, g.1 < 65536 ∧ g.2 < 65536
  dups : ∀ d ∈ c.dups, d < 4294967296

/-- A number in four bytes. -/
def be32 (n : Nat) : List UInt8 := [UInt8.ofNat (n / 16777216), UInt8.ofNat (n / 65536), UInt8.ofNat (n / 256), UInt8.ofNat n]
def num4 (L : List UInt8) (i : Nat) : Nat := num L i * 65536 + num L (i + 2)
theorem be32_length (n : Nat) : (be32 n).length = 4 := rfl
theorem num4_lt (L : List UInt8) (i : Nat) : num4 L i < 4294967296 := by
  have h1 := num_lt L i
  have h2 := num_lt L (i + 2)
  unfold num4
  omega
theorem be32_split (n : Nat) : be32 n = be16 (n / 65536) ++ be16 n := by
  unfold be32 be16
  simp only [List.cons_append, List.nil_append]
  rw [Nat.div_div_eq_div_mul]
theorem be16_mod (n : Nat) : be16 (n % 65536) = be16 n := by
  unfold be16
  have e1 : UInt8.ofNat (n % 65536) = UInt8.ofNat n := UInt8.toNat_inj.1 (by rw [UInt8.toNat_ofNat', UInt8.toNat_ofNat']; omega)
  have e2 : UInt8.ofNat (n % 65536 / 256) = UInt8.ofNat (n / 256) := UInt8.toNat_inj.1 (by rw [UInt8.toNat_ofNat', UInt8.toNat_ofNat']; omega)
  rw [e1, e2]
/-! ### The bytes of a chunk -/
def numsL (c : Ck) : List UInt8 :=
  if c.type = 0 then be32 c.tsn ++ be16 c.stream ++ be16 c.ssn ++ be32 c.ppid
  else if c.type = 1 ∨ c.type = 2 then be32 c.tag ++ be32 c.window ++ be16 c.outs ++ be16 c.ins ++ be32 c.tsn
  else if c.type = 3 then be32 c.tsn ++ be32 c.window
  else if c.type = 7 then be32 c.tsn else []
def gapL (g : Nat × Nat) : List UInt8 := be16 g.1 ++ be16 g.2
def gapsL (l : List (Nat × Nat)) : List UInt8 := l.flatMap gapL
def dupsL (l : List Nat) : List UInt8 := l.flatMap be32
theorem gapsL_length (l : List (Nat × Nat)) : (gapsL l).length = 4 * l.length := by
  induction l with
  | nil => rfl
  | cons x l ih => simp only [gapsL, List.flatMap_cons, List.length_append, List.length_cons] at ih ⊢; rw [ih]; simp only [gapL, List.length_append, be16_length]; omega
theorem dupsL_length (l : List Nat) : (dupsL l).length = 4 * l.length := by
  induction l with
  | nil => rfl
  | cons x l ih => simp only [dupsL, List.flatMap_cons, List.length_append, List.length_cons] at ih ⊢; rw [ih, be32_length]; omega
def repL (c : Ck) : List UInt8 := be16 c.gaps.length ++ be16 c.dups.length ++ gapsL c.gaps ++ dupsL c.dups
/-- How many noughts a row of items ends with. -/
def lastPad : List Item → Nat
  | [] => 0
  | [x] => padN x.2.size
  | _ :: y :: l => lastPad (y :: l)
def itemsL (l : List Item) : List UInt8 := (rowL l).take ((rowL l).length - lastPad l)
def valueL (c : Ck) : List UInt8 := numsL c ++ (if c.type = 3 then repL c else []) ++ itemsL c.items ++ c.text.data.toList
def bytesC (c : Ck) : List UInt8 := [UInt8.ofNat c.type.toNat, UInt8.ofNat c.flags.toNat] ++ be16 (4 + (valueL c).length) ++ valueL c ++ zerosL (padN (4 + (valueL c).length))
theorem bytesC_length (c : Ck) : (bytesC c).length = 4 + (valueL c).length + padN (4 + (valueL c).length) := by
  unfold bytesC zerosL
  simp only [List.length_append, be16_length, List.length_replicate, List.length_cons, List.length_nil]

/-! ### Whether a chunk is right -/
/-- What chunks of a type have: flags; a text: at least, at most; items: at least, at most; gaps and dups at most. -/
def formOf (k : Int) : Int × (Int × Int) × (Int × Int) × Int :=
  if k = 0 then (7, (1, 1000), (0, 0), 0)
  else if k = 1 ∨ k = 2 then (0, (0, 0), (0, 9223372036854775807), 0)
  else if k = 3 then (0, (0, 0), (0, 0), 100)
  else if k = 4 ∨ k = 5 then (0, (0, 0), (1, 1), 0)
  else if k = 6 then (1, (0, 0), (0, 9223372036854775807), 0)
  else if k = 9 then (0, (0, 0), (1, 9223372036854775807), 0)
  else if k = 10 then (0, (1, 1000), (0, 0), 0)
  else if k = 7 ∨ k = 8 ∨ k = 11 then (0, (0, 0), (0, 0), 0)
  else if k = 14 then (1, (0, 0), (0, 0), 0)
  else (255, (0, 1000), (0, 0), 0)
def withinB (n a b : Int) : Bool := decide (a ≤ n ∧ n ≤ b)
/-- A chunk without the numbers of its type. -/
def eraseC (c : Ck) : Ck :=
  if c.type = 0 then { c with tsn := 0, stream := 0, ssn := 0, ppid := 0 }
  else if c.type = 1 ∨ c.type = 2 then { c with tag := 0, window := 0, outs := 0, ins := 0, tsn := 0 }
  else if c.type = 3 then { c with tsn := 0, window := 0 }
  else if c.type = 7 then { c with tsn := 0 } else c
def nothingB (c : Ck) : Bool := decide (c.tsn = 0 ∧ c.tag = 0 ∧ c.window = 0 ∧ c.ppid = 0) && decide (c.stream = 0 ∧ c.ssn = 0 ∧ c.outs = 0 ∧ c.ins = 0)
def ownB (c : Ck) : Bool := nothingB (eraseC c)
def apartB : Nat → List (Nat × Nat) → Bool
  | _, [] => true
  | n, g :: l => decide (n ≤ g.1 ∧ g.1 ≤ g.2) && apartB (g.2 + 2) l
def firstType : List Item → Int
  | [] => 0
  | x :: _ => x.1
def meantB (c : Ck) : Bool :=
  if c.type = 1 ∨ c.type = 2 then decide (c.tag ≠ 0) && decide (c.outs ≠ 0) && decide (c.ins ≠ 0)
  else if c.type = 3 then apartB 1 c.gaps
  else if c.type = 4 ∨ c.type = 5 then decide (firstType c.items = 1)
  else true
def formedB (c : Ck) : Bool :=
  withinB c.type 0 255 && withinB c.flags 0 (formOf c.type).1 && withinB (c.text.size : Int) (formOf c.type).2.1.1 (formOf c.type).2.1.2 &&
    withinB (c.items.length : Int) (formOf c.type).2.2.1.1 (formOf c.type).2.2.1.2 && decide ((c.gaps.length : Int) ≤ (formOf c.type).2.2.2) && decide ((c.dups.length : Int) ≤ (formOf c.type).2.2.2) && ownB c && meantB c
/-- What is built of a chunk, and which error is told. -/
def buildC (c : Ck) : ByteArray × Nat :=
  if (buildB c.items).2 ≠ 0 ∨ formedB c = false then (noB, 1) else if 1400 < 4 + (valueL c).length then (noB, 4) else (⟨(bytesC c).toArray⟩, 0)
theorem buildC_ok {c : Ck} (h : (buildC c).2 = 0) : (buildB c.items).2 = 0 ∧ formedB c = true ∧ 4 + (valueL c).length ≤ 1400 ∧ (buildC c).1 = ⟨(bytesC c).toArray⟩ := by
  unfold buildC at h ⊢
  split at h
  · exact absurd h (by decide)
  · rename_i h1
    split at h
    · exact absurd h (by decide)
    · rename_i h2
      rw [if_neg h1, if_neg h2]
      refine ⟨by omega, ?_, by omega, rfl⟩
      cases hf : formedB c with
      | true => rfl
      | false => exact absurd (.inr hf) h1
theorem buildC_of {c : Ck} (h1 : (buildB c.items).2 = 0) (h2 : formedB c = true) (h3 : 4 + (valueL c).length ≤ 1400) : buildC c = (⟨(bytesC c).toArray⟩, 0) := by
  unfold buildC
  rw [if_neg (by rw [h2]; simp [h1]), if_neg (by omega)]
theorem buildC_cases (c : Ck) : buildC c = (noB, 1) ∨ buildC c = (noB, 4) ∨ ((buildC c).2 = 0) := by
  unfold buildC
  repeat' split
  · exact .inl rfl
  · exact .inr (.inl rfl)
  · exact .inr (.inr rfl)
theorem buildC_none {c : Ck} (h : (buildC c).2 ≠ 0) : (buildC c).1 = noB := by
  rcases buildC_cases c with e | e | e
  · rw [e]
  · rw [e]
  · exact absurd e h

/-! ### What is read of bytes -/
def cutB (s : ByteArray) (k : Nat) : ByteArray := ⟨(s.data.toList.drop k).toArray⟩
def rd8 (s : ByteArray) (b : Bool) : Nat × ByteArray × Bool := if s.size < 1 then (0, noB, true) else (byteAt s.data.toList 0, cutB s 1, b)
def rd16 (s : ByteArray) (b : Bool) : Nat × ByteArray × Bool := if s.size < 2 then (0, noB, true) else (num s.data.toList 0, cutB s 2, b)
def rd32 (s : ByteArray) (b : Bool) : Nat × ByteArray × Bool := if s.size < 4 then (0, noB, true) else (num4 s.data.toList 0, cutB s 4, b)
def setNums (c : Ck) (s : ByteArray) (b : Bool) : Ck × ByteArray × Bool :=
  if c.type = 0 then
    let r1 := rd32 s b
    let r2 := rd16 r1.2.1 r1.2.2
    let r3 := rd16 r2.2.1 r2.2.2
    let r4 := rd32 r3.2.1 r3.2.2
    ({ c with tsn := r1.1, stream := r2.1, ssn := r3.1, ppid := r4.1 }, r4.2)
  else if c.type = 1 ∨ c.type = 2 then
    let r1 := rd32 s b
    let r2 := rd32 r1.2.1 r1.2.2
    let r3 := rd16 r2.2.1 r2.2.2
    let r4 := rd16 r3.2.1 r3.2.2
    let r5 := rd32 r4.2.1 r4.2.2
    ({ c with tag := r1.1, window := r2.1, outs := r3.1, ins := r4.1, tsn := r5.1 }, r5.2)
  else if c.type = 3 then
    let r1 := rd32 s b
    let r2 := rd32 r1.2.1 r1.2.2
    ({ c with tsn := r1.1, window := r2.1 }, r2.2)
  else if c.type = 7 then
    let r1 := rd32 s b
    ({ c with tsn := r1.1 }, r1.2)
  else (c, s, b)
def gapsAt (L : List UInt8) (n : Nat) : List (Nat × Nat) := (List.range n).map fun i => (num L (4 * i), num L (4 * i + 2))
def dupsAt (L : List UInt8) (p n : Nat) : List Nat := (List.range n).map fun i => num4 L (p + 4 * i)
def repsS (s : ByteArray) (b : Bool) : List (Nat × Nat) × List Nat × ByteArray × Bool :=
  let r1 := rd16 s b
  let r2 := rd16 r1.2.1 r1.2.2
  if r2.2.1.size = 4 * (r1.1 + r2.1) then (gapsAt r2.2.1.data.toList r1.1, dupsAt r2.2.1.data.toList (4 * r1.1) r2.1, noB, r2.2.2) else ([], [], r2.2.1, true)
def hasItems (k : Int) : Bool := decide (0 < (formOf k).2.2.1.2)
def parseV (k f : Int) (v : ByteArray) : Ck × Bool :=
  let r := setNums (zeroC k f) v false
  let q := if k = 3 then repsS r.2.1 r.2.2 else ([], [], r.2.1, r.2.2)
  let c1 : Ck := { r.1 with gaps := q.1, dups := q.2.1 }
  let p := if hasItems k then parseB q.2.2.1 else ([], 0, 0)
  let c2 : Ck := if hasItems k then { c1 with items := p.1 } else { c1 with text := q.2.2.1 }
  (c2, !q.2.2.2 && decide (p.2.2 = 0) && formedB c2)
def lenC (s : ByteArray) : Nat := num s.data.toList 2
def valC (s : ByteArray) : ByteArray := ⟨((s.data.toList.drop 4).take (lenC s - 4)).toArray⟩
def sizeC (s : ByteArray) : Nat := min (lenC s + padN (lenC s)) s.size
def tailC (s : ByteArray) : List UInt8 := (s.data.toList.drop (lenC s)).take (padN (lenC s))
def parseC (s : ByteArray) : Ck × Nat × Nat :=
  if s.size < 4 then (zeroC 0 0, 0, 3)
  else if s.size < lenC s then (zeroC 0 0, 0, 3)
  else if lenC s < 4 then (zeroC 0 0, 0, 2)
  else if 1400 < lenC s then (zeroC 0 0, 0, 4)
  else if (parseV (byteAt s.data.toList 0) (byteAt s.data.toList 1) (valC s)).2 = true ∧ tailC s = zerosL (tailC s).length then ((parseV (byteAt s.data.toList 0) (byteAt s.data.toList 1) (valC s)).1, sizeC s, 0)
  else (zeroC 0 0, 0, 2)
end Go.Proofs.YtlbaockipeojhaaGreat
end
section
namespace Go.Proofs.YtlbaockipeojhaaGreat
set_option linter.unusedVariables false

theorem toB_list (l : List UInt8) : (⟨l.toArray⟩ : ByteArray).data.toList = l := rfl
theorem toB_size (l : List UInt8) : (⟨l.toArray⟩ : ByteArray).size = l.length := by simp [ByteArray.size]
theorem ofB (s : ByteArray) : (⟨s.data.toList.toArray⟩ : ByteArray) = s := by cases s; simp
theorem cut_size (s : ByteArray) (k : Nat) : (cutB s k).size = s.size - k := by
  unfold cutB
  rw [toB_size, List.length_drop, ← size_list]
/-! ### Items without the last noughts -/
theorem itemsL_nil : itemsL [] = [] := rfl
theorem itemsL_one (x : Item) : itemsL [x] = be16 x.1.toNat ++ be16 (4 + x.2.size) ++ x.2.data.toList := by
  have hl := bytesL_length x
  have e : padN x.2.size = padN (4 + x.2.size) := (padN_head _).symm
  have h0 : (be16 x.1.toNat ++ be16 (4 + x.2.size) ++ x.2.data.toList).length = 4 + x.2.size := by simp only [List.length_append, be16_length, ← size_list]
  have e3 : rowL [x] = be16 x.1.toNat ++ be16 (4 + x.2.size) ++ x.2.data.toList ++ zerosL (padN (4 + x.2.size)) := by rw [rowL_cons, rowL_nil, List.append_nil]; rfl
  have e4 : (rowL [x]).length = 4 + x.2.size + padN (4 + x.2.size) := by rw [rowL_cons, rowL_nil, List.append_nil, hl]
  unfold itemsL
  rw [e4, lastPad, e, Nat.add_sub_cancel, e3, List.take_append_of_le_length (by omega), List.take_of_length_le (by omega)]
theorem lastPad_le : ∀ l : List Item, lastPad l ≤ (rowL l).length
  | [] => Nat.le_refl _
  | [x] => by
    rw [rowL_cons, rowL_nil, List.append_nil, bytesL_length, lastPad]
    have e : padN x.2.size = padN (4 + x.2.size) := (padN_head _).symm
    omega
  | x :: y :: l => by
    rw [lastPad, rowL_cons, List.length_append]
    have := lastPad_le (y :: l)
    omega
theorem itemsL_cons (x y : Item) (l : List Item) : itemsL (x :: y :: l) = bytesL x ++ itemsL (y :: l) := by
  have h := lastPad_le (y :: l)
  unfold itemsL
  rw [rowL_cons, lastPad, List.length_append, Nat.add_sub_assoc h, List.take_append, List.take_of_length_le (by omega), Nat.add_sub_cancel_left]
theorem itemsL_length (l : List Item) : (itemsL l).length = (rowL l).length - lastPad l := by
  unfold itemsL
  rw [List.length_take]
  omega
/-- What is read has, built without the last noughts, no more bytes than it was read of. -/
theorem read_cut : ∀ (n : Nat) (L : List UInt8), L.length ≤ n → (parseL L).2.2 = 0 → (itemsL (parseL L).1).length ≤ L.length ∧ (L ≠ [] → (parseL L).1 ≠ []) := by
  intro n
  induction n with
  | zero => intro L hL _; have : L = [] := List.eq_nil_of_length_eq_zero (by omega); subst this; rw [parseL_nil]; simp [itemsL_nil]
  | succ n ih =>
    intro L hL h
    by_cases h0 : L = []
    · subst h0; rw [parseL_nil]; simp [itemsL_nil]
    by_cases he : errL L = 0
    · by_cases hr : (parseL (L.drop (sizeL L))).2.2 = 0
      · have hp := sizeL_pos he
        obtain ⟨g0, g1, g2, g3, g4⟩ := errL_ok he
        have hl := List.length_pos_iff.2 h0
        obtain ⟨i1, i2⟩ := ih (L.drop (sizeL L)) (by rw [List.length_drop]; omega) hr
        rw [parseL_ok h0 he hr]
        refine ⟨?_, fun _ => by simp⟩
        have hv : (itemL L).2.size = num L 2 - 4 := by
          show (valL L).size = _
          unfold valL
          simp only [ByteArray.size, List.size_toArray, List.length_take, List.length_drop]
          omega
        cases hm : (parseL (L.drop (sizeL L))).1 with
        | nil =>
          rw [itemsL_one]
          simp only [List.length_append, be16_length, ← size_list, hv]
          omega
        | cons y l =>
          rw [hm] at i1
          rw [itemsL_cons, List.length_append, bytesL_length, hv]
          have hne : L.drop (sizeL L) ≠ [] := by
            intro e
            rw [e, parseL_nil] at hm
            cases hm
          have hlt : sizeL L < L.length := by
            apply Nat.lt_of_not_le
            intro hc
            exact hne (List.drop_eq_nil_of_le hc)
          rw [List.length_drop] at i1
          have hsz : sizeL L = num L 2 + padN (num L 2) := rfl
          rw [show 4 + (num L 2 - 4) = num L 2 by omega]
          omega
      · rw [parseL_later h0 he hr] at h
        exact absurd h hr
    · rw [parseL_err h0 he] at h
      exact absurd h he
end Go.Proofs.YtlbaockipeojhaaGreat
end
section
namespace Go.Proofs.YtlbaockipeojhaaGreat
set_option linter.unusedVariables false

theorem within_true {n a b : Int} : withinB n a b = true ↔ a ≤ n ∧ n ≤ b := by unfold withinB; simp
theorem formed_parts {c : Ck} (h : formedB c = true) : (0 ≤ c.type ∧ c.type ≤ 255) ∧ (0 ≤ c.flags ∧ c.flags ≤ (formOf c.type).1) ∧ ((formOf c.type).2.1.1 ≤ (c.text.size : Int) ∧ (c.text.size : Int) ≤ (formOf c.type).2.1.2) ∧
    ((formOf c.type).2.2.1.1 ≤ (c.items.length : Int) ∧ (c.items.length : Int) ≤ (formOf c.type).2.2.1.2) ∧ (c.gaps.length : Int) ≤ (formOf c.type).2.2.2 ∧ (c.dups.length : Int) ≤ (formOf c.type).2.2.2 ∧ ownB c = true ∧ meantB c = true := by
  unfold formedB at h
  simp only [Bool.and_eq_true, within_true, decide_eq_true_eq] at h
  obtain ⟨⟨⟨⟨⟨⟨⟨h1, h2⟩, h3⟩, h4⟩, h5⟩, h6⟩, h7⟩, h8⟩ := h
  exact ⟨h1, h2, h3, h4, h5, h6, h7, h8⟩
theorem flags_le (k : Int) : (formOf k).1 ≤ 255 := by
  unfold formOf
  repeat' split
  all_goals (dsimp only; omega)
theorem empty_of {s : ByteArray} (h : (s.size : Int) ≤ 0) : s = noB := by
  apply bytes_ext
  rw [size_list] at h
  show _ = ([] : List UInt8)
  exact List.eq_nil_of_length_eq_zero (by omega)
/-- What a chunk that is right has not. -/
theorem formed_lacks {c : Ck} (h : formedB c = true) : (hasItems c.type = false → c.items = []) ∧ (hasItems c.type = true → c.text = noB) ∧ (c.type ≠ 3 → c.gaps = [] ∧ c.dups = []) ∧ (c.type = 3 → hasItems c.type = false ∧ c.text = noB ∧ c.gaps.length ≤ 100 ∧ c.dups.length ≤ 100) := by
  obtain ⟨p1, p2, p3, p4, p5, p6, p7, p8⟩ := formed_parts h
  have nil1 : ∀ {α : Type} (l : List α), (l.length : Int) ≤ 0 → l = [] := fun l hl => List.eq_nil_of_length_eq_zero (by omega)
  unfold hasItems
  by_cases h3 : c.type = 3
  · have e : formOf c.type = (0, (0, 0), (0, 0), 100) := by rw [h3]; rfl
    rw [e] at p3 p4 p5 p6 ⊢
    dsimp only at p3 p4 p5 p6 ⊢
    exact ⟨fun _ => nil1 _ p4.2, fun hc => absurd hc (by decide), fun hc => absurd h3 hc, fun _ => ⟨by decide, empty_of p3.2, by omega, by omega⟩⟩
  · have e4 : (formOf c.type).2.2.2 = 0 := by
      unfold formOf
      simp only [if_neg h3]
      repeat' split
      all_goals rfl
    have e5 : 0 < (formOf c.type).2.2.1.2 → (formOf c.type).2.1.2 = 0 := by
      unfold formOf
      repeat' split
      all_goals (dsimp only; omega)
    have e6 : ¬ 0 < (formOf c.type).2.2.1.2 → (formOf c.type).2.2.1.2 = 0 := by
      unfold formOf
      repeat' split
      all_goals (dsimp only; omega)
    rw [e4] at p5 p6
    refine ⟨fun hc => ?_, fun hc => ?_, fun _ => ⟨nil1 _ p5, nil1 _ p6⟩, fun hc => absurd hc h3⟩
    · have := e6 (of_decide_eq_false hc)
      rw [this] at p4
      exact nil1 _ p4.2
    · have := e5 (of_decide_eq_true hc)
      rw [this] at p3
      exact empty_of p3.2
end Go.Proofs.YtlbaockipeojhaaGreat
end
section
namespace Go.Proofs.YtlbaockipeojhaaGreat
set_option linter.unusedVariables false

theorem rd32_fst (s : ByteArray) (b : Bool) : (rd32 s b).1 < 4294967296 := by
  unfold rd32
  split
  · show (0 : Nat) < _; omega
  · exact num4_lt _ _
theorem rd16_fst (s : ByteArray) (b : Bool) : (rd16 s b).1 < 65536 := by
  unfold rd16
  split
  · show (0 : Nat) < _; omega
  · exact num_lt _ _
theorem rd32_fine {s : ByteArray} {b : Bool} (h : (rd32 s b).2.2 = false) : b = false ∧ s.size = (rd32 s b).2.1.size + 4 := by
  unfold rd32 at h ⊢
  split at h
  · cases h
  · rename_i hs
    rw [if_neg hs, cut_size]
    exact ⟨h, by omega⟩
theorem rd16_fine {s : ByteArray} {b : Bool} (h : (rd16 s b).2.2 = false) : b = false ∧ s.size = (rd16 s b).2.1.size + 2 := by
  unfold rd16 at h ⊢
  split at h
  · cases h
  · rename_i hs
    rw [if_neg hs, cut_size]
    exact ⟨h, by omega⟩
theorem rd_size32 (s : ByteArray) (b : Bool) : (rd32 s b).2.1.size ≤ s.size := by
  unfold rd32
  split
  · exact Nat.zero_le _
  · rw [cut_size]; omega
theorem rd_size16 (s : ByteArray) (b : Bool) : (rd16 s b).2.1.size ≤ s.size := by
  unfold rd16
  split
  · exact Nat.zero_le _
  · rw [cut_size]; omega
/-- A chunk but for the lists and the text of one. -/
theorem wf_nums (k f : Int) (a b c d e g h i : Nat) (w1 : a < 4294967296) (w2 : b < 4294967296) (w3 : c < 4294967296) (w4 : d < 4294967296) (w5 : e < 65536) (w6 : g < 65536) (w7 : h < 65536) (w8 : i < 65536) (ga : List (Nat × Nat)) (du : List Nat) (it : List Item) (te : ByteArray)
    (hg : ∀ g ∈ ga, g.1 < 65536 ∧ g.2 < 65536) (hd : ∀ d ∈ du, d < 4294967296) : WfC ⟨k, f, a, b, c, d, e, g, h, i, ga, du, it, te⟩ := ⟨w1, w2, w3, w4, w5, w6, w7, w8, hg, hd⟩
theorem set_facts (k f : Int) (s : ByteArray) : ∃ a b c d e g h i, (setNums (zeroC k f) s false).1 = ⟨k, f, a, b, c, d, e, g, h, i, [], [], [], noB⟩ ∧ (a < 4294967296 ∧ b < 4294967296 ∧ c < 4294967296 ∧ d < 4294967296) ∧ (e < 65536 ∧ g < 65536 ∧ h < 65536 ∧ i < 65536) ∧
    ((setNums (zeroC k f) s false).2.2 = false → s.size = (setNums (zeroC k f) s false).2.1.size + (numsL ⟨k, f, a, b, c, d, e, g, h, i, [], [], [], noB⟩).length) ∧ (setNums (zeroC k f) s false).2.1.size ≤ s.size := by
  unfold setNums numsL
  have et : (zeroC k f).type = k := rfl
  rw [et]
  by_cases h0 : k = 0
  · simp only [if_pos h0]
    refine ⟨(rd32 s false).1, 0, 0, _, (rd16 _ _).1, (rd16 _ _).1, 0, 0, rfl, ⟨rd32_fst _ _, by omega, by omega, rd32_fst _ _⟩, ⟨rd16_fst _ _, rd16_fst _ _, by omega, by omega⟩, fun hb => ?_, ?_⟩
    · obtain ⟨b4, s4⟩ := rd32_fine hb
      obtain ⟨b3, s3⟩ := rd16_fine b4
      obtain ⟨b2, s2⟩ := rd16_fine b3
      obtain ⟨b1, s1⟩ := rd32_fine b2
      simp only [List.length_append, be32_length, be16_length]
      omega
    · have a1 := rd_size32 s false
      have a2 := rd_size16 (rd32 s false).2.1 (rd32 s false).2.2
      have a3 := rd_size16 (rd16 (rd32 s false).2.1 (rd32 s false).2.2).2.1 (rd16 (rd32 s false).2.1 (rd32 s false).2.2).2.2
      exact Nat.le_trans (rd_size32 _ _) (by omega)
  by_cases h1 : k = 1 ∨ k = 2
  · simp only [if_neg h0, if_pos h1]
    refine ⟨_, (rd32 s false).1, (rd32 _ _).1, 0, 0, 0, (rd16 _ _).1, (rd16 _ _).1, rfl, ⟨rd32_fst _ _, rd32_fst _ _, rd32_fst _ _, by omega⟩, ⟨by omega, by omega, rd16_fst _ _, rd16_fst _ _⟩, fun hb => ?_, ?_⟩
    · obtain ⟨b5, s5⟩ := rd32_fine hb
      obtain ⟨b4, s4⟩ := rd16_fine b5
      obtain ⟨b3, s3⟩ := rd16_fine b4
      obtain ⟨b2, s2⟩ := rd32_fine b3
      obtain ⟨b1, s1⟩ := rd32_fine b2
      simp only [List.length_append, be32_length, be16_length]
      omega
    · refine Nat.le_trans (rd_size32 _ _) (Nat.le_trans (rd_size16 _ _) (Nat.le_trans (rd_size16 _ _) (Nat.le_trans (rd_size32 _ _) (rd_size32 _ _))))
  by_cases h3 : k = 3
  · simp only [if_neg h0, if_neg h1, if_pos h3]
    refine ⟨(rd32 s false).1, 0, (rd32 _ _).1, 0, 0, 0, 0, 0, rfl, ⟨rd32_fst _ _, by omega, rd32_fst _ _, by omega⟩, ⟨by omega, by omega, by omega, by omega⟩, fun hb => ?_, ?_⟩
    · obtain ⟨b2, s2⟩ := rd32_fine hb
      obtain ⟨b1, s1⟩ := rd32_fine b2
      simp only [List.length_append, be32_length]
      omega
    · exact Nat.le_trans (rd_size32 _ _) (rd_size32 _ _)
  by_cases h7 : k = 7
  · simp only [if_neg h0, if_neg h1, if_neg h3, if_pos h7]
    refine ⟨(rd32 s false).1, 0, 0, 0, 0, 0, 0, 0, rfl, ⟨rd32_fst _ _, by omega, by omega, by omega⟩, ⟨by omega, by omega, by omega, by omega⟩, fun hb => ?_, rd_size32 _ _⟩
    obtain ⟨b1, s1⟩ := rd32_fine hb
    simp only [be32_length]
    omega
  · simp only [if_neg h0, if_neg h1, if_neg h3, if_neg h7]
    exact ⟨0, 0, 0, 0, 0, 0, 0, 0, rfl, ⟨by omega, by omega, by omega, by omega⟩, ⟨by omega, by omega, by omega, by omega⟩, fun _ => rfl, Nat.le_refl _⟩
theorem reps_facts (s : ByteArray) (b : Bool) : (∀ g ∈ (repsS s b).1, g.1 < 65536 ∧ g.2 < 65536) ∧ (∀ d ∈ (repsS s b).2.1, d < 4294967296) ∧ ((repsS s b).2.2.2 = false → b = false ∧ s.size = 4 + 4 * (repsS s b).1.length + 4 * (repsS s b).2.1.length ∧ (repsS s b).2.2.1 = noB) := by
  unfold repsS
  dsimp only
  split
  · rename_i hs
    refine ⟨fun g hg => ?_, fun d hd => ?_, fun hb => ?_⟩
    · unfold gapsAt at hg
      obtain ⟨i, _, rfl⟩ := List.mem_map.1 hg
      exact ⟨num_lt _ _, num_lt _ _⟩
    · unfold dupsAt at hd
      obtain ⟨i, _, rfl⟩ := List.mem_map.1 hd
      exact num4_lt _ _
    · obtain ⟨b2, s2⟩ := rd16_fine hb
      obtain ⟨b1, s1⟩ := rd16_fine b2
      refine ⟨b1, ?_, rfl⟩
      have e1 : ∀ L n, (gapsAt L n).length = n := fun L n => by simp [gapsAt]
      have e2 : ∀ L p n, (dupsAt L p n).length = n := fun L p n => by simp [dupsAt]
      rw [e1, e2]
      omega
  · exact ⟨by simp, by simp, fun hb => by cases hb⟩
theorem items_fine {s : ByteArray} (h : (parseB s).2.2 = 0) : (buildB (parseB s).1).2 = 0 ∧ (itemsL (parseB s).1).length ≤ s.size := by
  unfold parseB at h ⊢
  split at h
  · exact absurd h (by decide)
  · rename_i hs
    rw [if_neg hs]
    have h1 := parse_right _ s.data.toList (Nat.le_refl _) h
    have h2 := read_cut _ s.data.toList (Nat.le_refl _) h
    have h3 : (rowL (parseL s.data.toList).1).length ≤ 4000 := by
      have := padN_four s.data.toList.length
      have := padN_lt s.data.toList.length
      have h5 := size_list s
      omega
    rw [build_right h1.1 h3, size_list]
    exact ⟨rfl, h2.1⟩
/-- What is read of a value. -/
theorem value_read {k f : Int} {v : ByteArray} (h : (parseV k f v).2 = true) : WfC (parseV k f v).1 ∧ formedB (parseV k f v).1 = true ∧ (buildB (parseV k f v).1.items).2 = 0 ∧ (valueL (parseV k f v).1).length ≤ v.size ∧ (parseV k f v).1.type = k ∧ (parseV k f v).1.flags = f := by
  have hf : formedB (parseV k f v).1 = true := by
    unfold parseV at h ⊢
    simp only [Bool.and_eq_true] at h
    exact h.2
  obtain ⟨a, b, c, d, e, g, hh, i, hr, w1, w2, hsz, hle⟩ := set_facts k f v
  obtain ⟨r1, r2, r3⟩ := reps_facts (setNums (zeroC k f) v false).2.1 (setNums (zeroC k f) v false).2.2
  obtain ⟨l1, l2, l3, l4⟩ := formed_lacks hf
  have hlen : ∀ (ga : List (Nat × Nat)) (du : List Nat) (it : List Item) (te : ByteArray), (numsL ⟨k, f, a, b, c, d, e, g, hh, i, ga, du, it, te⟩).length = (numsL ⟨k, f, a, b, c, d, e, g, hh, i, [], [], [], noB⟩).length := fun _ _ _ _ => rfl
  by_cases h3 : k = 3
  · have hi : hasItems k = false := by rw [h3]; rfl
    have ec : (parseV k f v).1 = ⟨k, f, a, b, c, d, e, g, hh, i, (repsS (setNums (zeroC k f) v false).2.1 (setNums (zeroC k f) v false).2.2).1, (repsS (setNums (zeroC k f) v false).2.1 (setNums (zeroC k f) v false).2.2).2.1, [], (repsS (setNums (zeroC k f) v false).2.1 (setNums (zeroC k f) v false).2.2).2.2.1⟩ := by
      unfold parseV
      dsimp only
      rw [hi, if_pos h3, hr]
      rfl
    have hb : (repsS (setNums (zeroC k f) v false).2.1 (setNums (zeroC k f) v false).2.2).2.2.2 = false := by
      unfold parseV at h
      dsimp only at h
      rw [if_pos h3] at h
      simp only [Bool.and_eq_true, Bool.not_eq_true'] at h
      exact h.1.1
    obtain ⟨b1, s1, n1⟩ := r3 hb
    have hs := hsz b1
    rw [ec] at hf ⊢
    refine ⟨wf_nums _ _ _ _ _ _ _ _ _ _ w1.1 w1.2.1 w1.2.2.1 w1.2.2.2 w2.1 w2.2.1 w2.2.2.1 w2.2.2.2 _ _ _ _ r1 r2, hf, rfl, ?_, rfl, rfl⟩
    unfold valueL
    dsimp only
    rw [if_pos h3, n1]
    simp only [List.length_append, repL, be16_length, gapsL_length, dupsL_length, hlen]
    have e0 : (itemsL []).length = 0 := rfl
    have e1 : noB.data.toList.length = 0 := rfl
    omega
  · cases hi : hasItems k with
    | true =>
      have ec : (parseV k f v).1 = ⟨k, f, a, b, c, d, e, g, hh, i, [], [], (parseB (setNums (zeroC k f) v false).2.1).1, noB⟩ := by
        unfold parseV
        dsimp only
        rw [hi, if_neg h3, hr]
        rfl
      have hb : (setNums (zeroC k f) v false).2.2 = false ∧ (parseB (setNums (zeroC k f) v false).2.1).2.2 = 0 := by
        unfold parseV at h
        dsimp only at h
        rw [if_neg h3, hi] at h
        simp only [Bool.and_eq_true, Bool.not_eq_true', if_true, decide_eq_true_eq] at h
        exact h.1
      have hs := hsz hb.1
      obtain ⟨i1, i2⟩ := items_fine hb.2
      rw [ec] at hf ⊢
      refine ⟨wf_nums _ _ _ _ _ _ _ _ _ _ w1.1 w1.2.1 w1.2.2.1 w1.2.2.2 w2.1 w2.2.1 w2.2.2.1 w2.2.2.2 _ _ _ _ (by simp) (by simp), hf, i1, ?_, rfl, rfl⟩
      unfold valueL
      dsimp only
      rw [if_neg h3]
      simp only [List.length_append, hlen, List.length_nil]
      have e1 : noB.data.toList.length = 0 := rfl
      omega
    | false =>
      have ec : (parseV k f v).1 = ⟨k, f, a, b, c, d, e, g, hh, i, [], [], [], (setNums (zeroC k f) v false).2.1⟩ := by
        unfold parseV
        dsimp only
        rw [hi, if_neg h3, hr]
        rfl
      have hb : (setNums (zeroC k f) v false).2.2 = false := by
        unfold parseV at h
        dsimp only at h
        rw [if_neg h3] at h
        simp only [Bool.and_eq_true, Bool.not_eq_true'] at h
        exact h.1.1
      have hs := hsz hb
      rw [ec] at hf ⊢
      refine ⟨wf_nums _ _ _ _ _ _ _ _ _ _ w1.1 w1.2.1 w1.2.2.1 w1.2.2.2 w2.1 w2.2.1 w2.2.2.1 w2.2.2.2 _ _ _ _ (by simp) (by simp), hf, rfl, ?_, rfl, rfl⟩
      unfold valueL
      dsimp only
      rw [if_neg h3]
      simp only [List.length_append, hlen, List.length_nil]
      have e0 : (itemsL []).length = 0 := rfl
      have h5 := size_list (setNums (zeroC k f) v false).2.1
      omega
theorem parseC_parts {s : ByteArray} (h : (parseC s).2.2 = 0) : 4 ≤ s.size ∧ lenC s ≤ s.size ∧ 4 ≤ lenC s ∧ lenC s ≤ 1400 ∧ (parseV (byteAt s.data.toList 0) (byteAt s.data.toList 1) (valC s)).2 = true ∧ parseC s = ((parseV (byteAt s.data.toList 0) (byteAt s.data.toList 1) (valC s)).1, sizeC s, 0) := by
  unfold parseC at h ⊢
  repeat' split at h
  all_goals first | exact absurd h (by decide) | skip
  rename_i h1 h2 h3 h4 h5
  rw [if_neg h1, if_neg h2, if_neg h3, if_neg h4, if_pos h5]
  exact ⟨by omega, by omega, by omega, by omega, h5.1, rfl⟩
/-- What is read is right; built, it is read again. -/
theorem chunk_again {s : ByteArray} (h : (parseC s).2.2 = 0) : WfC (parseC s).1 ∧ (buildC (parseC s).1).2 = 0 ∧ 4 ≤ lenC s ∧ lenC s ≤ s.size ∧ lenC s ≤ 1400 ∧ lenC s ≤ (parseC s).2.1 ∧ (parseC s).2.1 ≤ s.size ∧ (parseC s).2.1 < lenC s + 4 := by
  obtain ⟨h1, h2, h3, h4, h5, h6⟩ := parseC_parts h
  obtain ⟨v1, v2, v3, v4, _, _⟩ := value_read h5
  have hv : (valC s).size = lenC s - 4 := by
    unfold valC
    have := size_list s
    rw [toB_size, List.length_take, List.length_drop]
    omega
  rw [h6]
  dsimp only
  have hp := padN_lt (lenC s)
  refine ⟨v1, ?_, h3, h2, h4, ?_, ?_, ?_⟩
  · rw [buildC_of v3 v2 (by omega)]
  · unfold sizeC; omega
  · unfold sizeC; omega
  · unfold sizeC; omega
end Go.Proofs.YtlbaockipeojhaaGreat
end
end
