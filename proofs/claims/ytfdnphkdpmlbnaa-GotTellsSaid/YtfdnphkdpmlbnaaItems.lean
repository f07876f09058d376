/-
  Rows of items: their bytes, and what is read of bytes: plain functions and facts. No program is named here.
-/
import Derived.Test.YtfdnphkdpmlbnaaMath
namespace Go.Proofs.Ytfdnphkdpmlbnaa
set_option linter.unusedVariables false

/-- A type, and a value. -/
abbrev Item := Int × ByteArray
/-- So many noughts make a multiple of four. -/
def padN (n : Nat) : Nat := (4 - n % 4) % 4
def padI (n : Int) : Int := if n < 0 then 0 else (4 - n % 4) % 4
theorem padI_nat (n : Nat) : padI (n : Int) = ((padN n : Nat) : Int) := by
  unfold padI padN
  rw [if_neg (by omega)]
  omega
theorem padN_lt (n : Nat) : padN n < 4 := by unfold padN; omega
theorem padN_four (n : Nat) : (n + padN n) % 4 = 0 := by unfold padN; omega
theorem padN_head (n : Nat) : padN (4 + n) = padN n := by unfold padN; omega
/-- So many noughts. -/
def zerosL (n : Nat) : List UInt8 := List.replicate n 0
/-- An item's bytes. -/
def bytesL (x : Item) : List UInt8 := be16 x.1.toNat ++ be16 (4 + x.2.size) ++ x.2.data.toList ++ zerosL (padN (4 + x.2.size))
theorem bytesL_length (x : Item) : (bytesL x).length = 4 + x.2.size + padN (4 + x.2.size) := by
  unfold bytesL zerosL
  simp only [List.length_append, be16_length, List.length_replicate, ← size_list]
/-- Items' bytes, one behind the other. -/
def rowL (l : List Item) : List UInt8 := l.flatMap bytesL
theorem rowL_nil : rowL [] = [] := rfl
theorem rowL_cons (x : Item) (l : List Item) : rowL (x :: l) = bytesL x ++ rowL l := by simp [rowL]
theorem rowL_append (l m : List Item) : rowL (l ++ m) = rowL l ++ rowL m := by simp [rowL]
theorem rowL_snoc (l : List Item) (x : Item) : rowL (l ++ [x]) = rowL l ++ bytesL x := by simp [rowL]
def isType (k : Int) : Bool := decide (0 ≤ k ∧ k ≤ 65535)
/-- What is built of items, and which error is told. -/
def anyWrong (l : List Item) : Bool := l.any fun x => !isType x.1
def anyLong (l : List Item) : Bool := l.any fun x => decide (1400 < x.2.size)
def buildB (l : List Item) : ByteArray × Nat :=
  if anyWrong l then (⟨#[]⟩, 1) else if anyLong l then (⟨#[]⟩, 4) else if 4000 < (rowL l).length then (⟨#[]⟩, 4) else (⟨(rowL l).toArray⟩, 0)

/-- What is read of bytes: what stands for noughts; the error; how many bytes an item takes; the item. -/
def tailL (L : List UInt8) : List UInt8 := (L.drop (num L 2)).take (padN (num L 2))
def valL (L : List UInt8) : ByteArray := ⟨((L.drop 4).take (num L 2 - 4)).toArray⟩
def errL (L : List UInt8) : Nat :=
  if L.length < 4 then 3 else if L.length < num L 2 then 3 else if num L 2 < 4 then 2 else if 1400 < num L 2 - 4 then 4 else if tailL L = zerosL (tailL L).length then 0 else 2
def sizeL (L : List UInt8) : Nat := num L 2 + padN (num L 2)
def itemL (L : List UInt8) : Item := ((num L 0 : Nat), valL L)
theorem errL_ok {L : List UInt8} (h : errL L = 0) : 4 ≤ L.length ∧ num L 2 ≤ L.length ∧ 4 ≤ num L 2 ∧ num L 2 ≤ 1404 ∧ tailL L = zerosL (tailL L).length := by
  unfold errL at h
  repeat' split at h
  all_goals (first | omega | (refine ⟨by omega, by omega, by omega, by omega, by assumption⟩))
theorem errL_of {L : List UInt8} (h0 : 4 ≤ L.length) (h1 : num L 2 ≤ L.length) (h2 : 4 ≤ num L 2) (h3 : num L 2 ≤ 1404) (h4 : tailL L = zerosL (tailL L).length) : errL L = 0 := by
  unfold errL
  rw [if_neg (by omega), if_neg (by omega), if_neg (by omega), if_neg (by omega), if_pos h4]
theorem errL_lt (L : List UInt8) : errL L < 5 := by
  unfold errL
  repeat' split
  all_goals omega
theorem sizeL_pos {L : List UInt8} (h : errL L = 0) : 4 ≤ sizeL L := by
  have := (errL_ok h).2.2.1
  unfold sizeL
  omega
def parseL (L : List UInt8) : List Item × Nat × Nat :=
  if h0 : L = [] then ([], 0, 0)
  else if he : errL L = 0 then
    if (parseL (L.drop (sizeL L))).2.2 = 0 then (itemL L :: (parseL (L.drop (sizeL L))).1, 0, 0) else ([], sizeL L + (parseL (L.drop (sizeL L))).2.1, (parseL (L.drop (sizeL L))).2.2)
  else ([], 0, errL L)
termination_by L.length
decreasing_by
  all_goals
    have := sizeL_pos he
    have := List.length_pos_iff.2 h0
    simp only [List.length_drop]
    omega
def parseB (s : ByteArray) : List Item × Nat × Nat := if 4000 < s.size then ([], 0, 4) else parseL s.data.toList

theorem parseL_nil : parseL [] = ([], 0, 0) := by rw [parseL]; simp
theorem parseL_err {L : List UInt8} (h0 : L ≠ []) (h : errL L ≠ 0) : parseL L = ([], 0, errL L) := by rw [parseL, dif_neg h0, dif_neg h]
theorem parseL_ok {L : List UInt8} (h0 : L ≠ []) (h : errL L = 0) (hr : (parseL (L.drop (sizeL L))).2.2 = 0) : parseL L = (itemL L :: (parseL (L.drop (sizeL L))).1, 0, 0) := by
  rw [parseL, dif_neg h0, dif_pos h, if_pos hr]
theorem parseL_later {L : List UInt8} (h0 : L ≠ []) (h : errL L = 0) (hr : (parseL (L.drop (sizeL L))).2.2 ≠ 0) : parseL L = ([], sizeL L + (parseL (L.drop (sizeL L))).2.1, (parseL (L.drop (sizeL L))).2.2) := by
  rw [parseL, dif_neg h0, dif_pos h, if_neg hr]

/-- What was read up to a place, and what is told of the rest. -/
def glue (at_ : Nat) (acc : List Item) (r : List Item × Nat × Nat) : List Item × Nat × Nat := if r.2.2 = 0 then (acc ++ r.1, 0, 0) else ([], at_ + r.2.1, r.2.2)
theorem parse_fst {L : List UInt8} (h : (parseL L).2.2 = 0) : (parseL L).2.1 = 0 := by
  by_cases h0 : L = []
  · rw [h0, parseL_nil]
  by_cases he : errL L = 0
  · by_cases hr : (parseL (L.drop (sizeL L))).2.2 = 0
    · rw [parseL_ok h0 he hr]
    · rw [parseL_later h0 he hr] at h
      exact absurd h hr
  · rw [parseL_err h0 he] at h
    exact absurd h he
theorem glue_start (L : List UInt8) : glue 0 [] (parseL L) = parseL L ∨ (parseL L).2.2 ≠ 0 ∧ (glue 0 [] (parseL L)).2 = (parseL L).2 := by
  unfold glue
  by_cases h : (parseL L).2.2 = 0
  · left
    rw [if_pos h]
    have := parse_fst h
    generalize parseL L = r at *
    obtain ⟨a, b, c⟩ := r
    simp_all
  · right
    rw [if_neg h]
    simp [h]
theorem parse_none {L : List UInt8} (h : (parseL L).2.2 ≠ 0) : (parseL L).1 = [] := by
  by_cases h0 : L = []
  · rw [h0, parseL_nil]
  by_cases he : errL L = 0
  · by_cases hr : (parseL (L.drop (sizeL L))).2.2 = 0
    · rw [parseL_ok h0 he hr] at h
      exact absurd rfl h
    · rw [parseL_later h0 he hr]
  · rw [parseL_err h0 he]
theorem glue_zero (L : List UInt8) : glue 0 [] (parseL L) = parseL L := by
  rcases glue_start L with h | ⟨h, h2⟩
  · exact h
  · have h1 := parse_none h
    unfold glue
    rw [if_neg h]
    generalize parseL L = r at *
    obtain ⟨a, b, c⟩ := r
    simp_all
theorem glue_step (L : List UInt8) (at_ : Nat) (acc : List Item) (h : at_ < L.length) (he : errL (L.drop at_) = 0) :
    glue at_ acc (parseL (L.drop at_)) = glue (at_ + sizeL (L.drop at_)) (acc ++ [itemL (L.drop at_)]) (parseL (L.drop (at_ + sizeL (L.drop at_)))) := by
  have hn : L.drop at_ ≠ [] := by intro h0; have := congrArg List.length h0; simp at this; omega
  rw [← List.drop_drop]
  unfold glue
  by_cases hr : (parseL ((L.drop at_).drop (sizeL (L.drop at_)))).2.2 = 0
  · rw [parseL_ok hn he hr, if_pos rfl, if_pos hr]
    simp
  · rw [parseL_later hn he hr, if_neg hr, if_neg hr, Nat.add_assoc]
theorem glue_end (L : List UInt8) (at_ : Nat) (acc : List Item) (h : L.length ≤ at_) : glue at_ acc (parseL (L.drop at_)) = (acc, 0, 0) := by
  rw [List.drop_eq_nil_of_le h, parseL_nil]
  simp [glue]
theorem glue_err (L : List UInt8) (at_ : Nat) (acc : List Item) (h : at_ < L.length) (he : errL (L.drop at_) ≠ 0) : glue at_ acc (parseL (L.drop at_)) = ([], at_, errL (L.drop at_)) := by
  have hn : L.drop at_ ≠ [] := by intro h0; have := congrArg List.length h0; simp at this; omega
  rw [parseL_err hn he]
  simp [glue, he]

/-! ### There and back -/
theorem num_le {L : List UInt8} {k : Nat} : num L k < 65536 := num_lt L k
theorem zerosL_take {n k : Nat} (h : k ≤ n) (t : List UInt8) : (zerosL n ++ t).take k = zerosL k := by
  unfold zerosL
  rw [List.take_append_of_le_length (by simpa using h), List.take_replicate, Nat.min_eq_left h]
theorem bytes_nums (x : Item) (t : List UInt8) (h1 : isType x.1 = true) (h2 : x.2.size ≤ 1400) : num (bytesL x ++ t) 0 = x.1.toNat ∧ num (bytesL x ++ t) 2 = 4 + x.2.size := by
  have ht := of_decide_eq_true h1
  have e : bytesL x ++ t = be16 x.1.toNat ++ (be16 (4 + x.2.size) ++ (x.2.data.toList ++ zerosL (padN (4 + x.2.size)) ++ t)) := by simp [bytesL, List.append_assoc]
  constructor
  · rw [e, num_left _ (by rw [be16_length]; omega), num_be16 (by omega)]
  · rw [e, show (2 : Nat) = (be16 x.1.toNat).length + 0 from rfl, num_right, num_left _ (by rw [be16_length]; omega), num_be16 (by omega)]
theorem bytes_read (x : Item) (t : List UInt8) (h1 : isType x.1 = true) (h2 : x.2.size ≤ 1400) : errL (bytesL x ++ t) = 0 ∧ sizeL (bytesL x ++ t) = (bytesL x).length ∧ itemL (bytesL x ++ t) = x := by
  have ht := of_decide_eq_true h1
  obtain ⟨n0, n2⟩ := bytes_nums x t h1 h2
  have hl := bytesL_length x
  have hsz := size_list x.2
  have e4 : (bytesL x ++ t).drop 4 = x.2.data.toList ++ (zerosL (padN (4 + x.2.size)) ++ t) := by
    unfold bytesL
    simp only [List.append_assoc]
    rw [← List.append_assoc (be16 _) (be16 _), List.drop_append_of_le_length (by simp [be16_length]), List.drop_of_length_le (by simp [be16_length])]
    rfl
  have en : (bytesL x ++ t).drop (4 + x.2.size) = zerosL (padN (4 + x.2.size)) ++ t := by
    rw [← List.drop_drop, e4, List.drop_append_of_le_length (by omega), List.drop_of_length_le (by omega)]
    rfl
  have htl : tailL (bytesL x ++ t) = zerosL (padN (4 + x.2.size)) := by
    unfold tailL
    rw [n2, en]
    exact zerosL_take (Nat.le_refl _) t
  refine ⟨errL_of (by rw [List.length_append]; omega) (by rw [n2, List.length_append]; omega) (by omega) (by omega) ?_, ?_, ?_⟩
  · rw [htl]
    simp [zerosL]
  · unfold sizeL
    rw [n2, hl]
  · unfold itemL valL
    rw [n0, n2, e4, Nat.add_sub_cancel_left, List.take_append_of_le_length (by omega), List.take_of_length_le (by omega)]
    refine Prod.ext ?_ ?_
    · show ((x.1.toNat : Nat) : Int) = x.1
      omega
    · exact bytes_ext (by simp)
def rightI (x : Item) : Bool := isType x.1 && decide (x.2.size ≤ 1400)
theorem parse_row : ∀ l : List Item, l.all rightI = true → parseL (rowL l) = (l, 0, 0)
  | [], _ => parseL_nil
  | x :: l, h => by
    simp only [List.all_cons, Bool.and_eq_true, rightI, decide_eq_true_eq] at h
    obtain ⟨⟨h1, h2⟩, hl⟩ := h
    have ih := parse_row l (by simpa [rightI] using hl)
    obtain ⟨he, hs, hi⟩ := bytes_read x (rowL l) h1 h2
    have hn : bytesL x ++ rowL l ≠ [] := by intro h0; have := congrArg List.length h0; rw [List.length_append, bytesL_length] at this; simp at this
    have hd : (bytesL x ++ rowL l).drop (sizeL (bytesL x ++ rowL l)) = rowL l := by rw [hs, List.drop_append_of_le_length (Nat.le_refl _), List.drop_of_length_le (Nat.le_refl _)]; rfl
    rw [rowL_cons, parseL_ok hn he (by rw [hd, ih]), hd, ih, hi]
theorem build_ok {l : List Item} (h : (buildB l).2 = 0) : l.all rightI = true ∧ (rowL l).length ≤ 4000 ∧ (buildB l).1 = ⟨(rowL l).toArray⟩ := by
  unfold buildB at h ⊢
  repeat' split at h
  all_goals (first | (exact absurd h (by decide)) | skip)
  rename_i h1 h2 h3
  rw [if_neg h1, if_neg h2, if_neg h3]
  refine ⟨?_, by omega, rfl⟩
  rw [List.all_eq_true]
  intro x hx
  simp only [anyWrong, anyLong, List.any_eq_true, not_exists, not_and, decide_eq_true_eq, Bool.not_eq_true'] at h1 h2
  have a1 := h1 x hx
  have a2 := h2 x hx
  unfold rightI
  simp only [Bool.and_eq_true, decide_eq_true_eq]
  exact ⟨by simpa using a1, by omega⟩
theorem build_right {l : List Item} (h : l.all rightI = true) (hs : (rowL l).length ≤ 4000) : buildB l = (⟨(rowL l).toArray⟩, 0) := by
  rw [List.all_eq_true] at h
  have h1 : anyWrong l = false := by
    unfold anyWrong
    rw [List.any_eq_false]
    intro x hx
    have := h x hx
    simp only [rightI, Bool.and_eq_true] at this
    simp [this.1]
  have h2 : anyLong l = false := by
    unfold anyLong
    rw [List.any_eq_false]
    intro x hx
    have := h x hx
    simp only [rightI, Bool.and_eq_true, decide_eq_true_eq] at this
    simp only [decide_eq_true_eq]
    omega
  unfold buildB
  rw [h1, h2, if_neg (by decide), if_neg (by decide), if_neg (by omega)]
theorem back_there {l : List Item} (h : (buildB l).2 = 0) : parseB (buildB l).1 = (l, 0, 0) ∧ (buildB l).1.size % 4 = 0 ∧ (buildB l).1.size ≤ 4000 := by
  obtain ⟨h1, h2, h3⟩ := build_ok h
  have hsz : (buildB l).1.size = (rowL l).length := by rw [h3]; simp [ByteArray.size]
  have h4 : ∀ l : List Item, (rowL l).length % 4 = 0 := by
    intro l
    induction l with
    | nil => rfl
    | cons x l ih =>
      rw [rowL_cons, List.length_append, bytesL_length]
      have := padN_four (4 + x.2.size)
      omega
  refine ⟨?_, by rw [hsz]; exact h4 l, by omega⟩
  unfold parseB
  rw [if_neg (by omega), h3]
  exact parse_row l h1

/-- What was read is right, and has as many bytes, and noughts up to a multiple of four. -/
theorem parse_right : ∀ (n : Nat) (L : List UInt8), L.length ≤ n → (parseL L).2.2 = 0 → (parseL L).1.all rightI = true ∧ (rowL (parseL L).1).length = L.length + padN L.length
  | n, [], _, _ => by rw [parseL_nil]; exact ⟨rfl, rfl⟩
  | 0, b :: L, h, _ => by simp at h
  | n + 1, b :: L, hn, h => by
    generalize hL : b :: L = M at *
    have h0 : M ≠ [] := by rw [← hL]; simp
    by_cases he : errL M = 0
    · by_cases hr : (parseL (M.drop (sizeL M))).2.2 = 0
      · obtain ⟨g0, g1, g2, g3, g4⟩ := errL_ok he
        have hp := sizeL_pos he
        have hlen : (M.drop (sizeL M)).length = M.length - sizeL M := List.length_drop
        obtain ⟨i1, i2⟩ := parse_right n (M.drop (sizeL M)) (by omega) hr
        rw [parseL_ok h0 he hr]
        have hv : (valL M).size = num M 2 - 4 := by simp [valL, ByteArray.size]; omega
        have ht : isType (itemL M).1 = true := by
          have := num_lt M 0
          show decide _ = true
          rw [decide_eq_true_eq]
          show 0 ≤ ((num M 0 : Nat) : Int) ∧ ((num M 0 : Nat) : Int) ≤ 65535
          omega
        refine ⟨?_, ?_⟩
        · simp only [List.all_cons, Bool.and_eq_true]
          refine ⟨?_, i1⟩
          unfold rightI
          rw [ht, Bool.true_and, decide_eq_true_eq]
          show (valL M).size ≤ 1400
          omega
        · rw [rowL_cons, List.length_append, bytesL_length, i2, hlen]
          show 4 + (valL M).size + padN (4 + (valL M).size) + _ = _
          rw [hv, show 4 + (num M 2 - 4) = num M 2 by omega]
          unfold sizeL padN
          omega
      · rw [parseL_later h0 he hr] at h
        exact absurd h hr
    · rw [parseL_err h0 he] at h
      exact absurd h he

/-! ### One row behind the other -/
theorem tail_len (L : List UInt8) (h : num L 2 ≤ L.length) : (tailL L).length = min (padN (num L 2)) (L.length - num L 2) := by simp [tailL]
theorem num_more (A B : List UInt8) (h : 4 ≤ A.length) : num (A ++ B) 2 = num A 2 ∧ num (A ++ B) 0 = num A 0 := ⟨num_left _ (by omega), num_left _ (by omega)⟩
theorem whole_more {A : List UInt8} (B : List UInt8) (he : errL A = 0) (hs : sizeL A ≤ A.length) : errL (A ++ B) = 0 ∧ sizeL (A ++ B) = sizeL A ∧ itemL (A ++ B) = itemL A ∧ (A ++ B).drop (sizeL (A ++ B)) = A.drop (sizeL A) ++ B := by
  obtain ⟨g0, g1, g2, g3, g4⟩ := errL_ok he
  obtain ⟨n2, n0⟩ := num_more A B g0
  have hsz : sizeL (A ++ B) = sizeL A := by unfold sizeL; rw [n2]
  have ht : tailL (A ++ B) = tailL A := by
    unfold tailL
    unfold sizeL at hs
    rw [n2, List.drop_append_of_le_length (by omega), List.take_append_of_le_length (by rw [List.length_drop]; omega)]
  refine ⟨errL_of (by rw [List.length_append]; omega) (by rw [n2, List.length_append]; omega) (by omega) (by omega) (by rw [ht]; exact g4), hsz, ?_, ?_⟩
  · unfold itemL valL
    rw [n0, n2, List.drop_append_of_le_length (by omega), List.take_append_of_le_length (by rw [List.length_drop]; omega)]
  · rw [hsz, List.drop_append_of_le_length hs]
theorem join_wrong : ∀ (n : Nat) (A B : List UInt8), A.length ≤ n → (parseL A).2.2 = 2 ∨ (parseL A).2.2 = 4 → parseL (A ++ B) = parseL A
  | n, [], _, _, h => by rw [parseL_nil] at h; simp at h
  | 0, b :: A, _, h, _ => by simp at h
  | n + 1, b :: L, B, hn, h => by
    generalize hL : b :: L = A at *
    have h0 : A ≠ [] := by rw [← hL]; simp
    have h0B : A ++ B ≠ [] := by simp [h0]
    by_cases he : errL A = 0
    · by_cases hr : (parseL (A.drop (sizeL A))).2.2 = 0
      · rw [parseL_ok h0 he hr] at h
        simp at h
      · have hp := sizeL_pos he
        have hlt : sizeL A < A.length := by
          apply Nat.lt_of_not_le
          intro hle
          rw [List.drop_eq_nil_of_le hle, parseL_nil] at hr
          exact hr rfl
        rw [parseL_later h0 he hr] at h
        have ih := join_wrong n (A.drop (sizeL A)) B (by rw [List.length_drop]; omega) h
        obtain ⟨e1, e2, e3, e4⟩ := whole_more B he (Nat.le_of_lt hlt)
        rw [parseL_later h0B e1 (by rw [e4, ih]; exact hr), e4, ih, e2, parseL_later h0 he hr]
    · rw [parseL_err h0 he] at h
      have hE : errL (A ++ B) = errL A := by
        simp only at h
        have hlen : 4 ≤ A.length := by
          apply Nat.le_of_not_lt
          intro hc
          unfold errL at h
          rw [if_pos hc] at h
          omega
        obtain ⟨n2, n0⟩ := num_more A B hlen
        have hle : num A 2 ≤ A.length := by
          apply Nat.le_of_not_lt
          intro hc
          unfold errL at h
          rw [if_neg (by omega), if_pos hc] at h
          omega
        have hAB : (A ++ B).length = A.length + B.length := List.length_append
        by_cases c1 : num A 2 < 4
        · have x1 : errL A = 2 := by unfold errL; rw [if_neg (by omega), if_neg (by omega), if_pos c1]
          have x2 : errL (A ++ B) = 2 := by unfold errL; rw [if_neg (by omega), if_neg (by omega), if_pos (by omega)]
          rw [x1, x2]
        by_cases c2 : 1400 < num A 2 - 4
        · have x1 : errL A = 4 := by unfold errL; rw [if_neg (by omega), if_neg (by omega), if_neg c1, if_pos c2]
          have x2 : errL (A ++ B) = 4 := by unfold errL; rw [if_neg (by omega), if_neg (by omega), if_neg (by omega), if_pos (by omega)]
          rw [x1, x2]
        by_cases c3 : tailL A = zerosL (tailL A).length
        · exact absurd (errL_of hlen hle (by omega) (by omega) c3) he
        · have x1 : errL A = 2 := by unfold errL; rw [if_neg (by omega), if_neg (by omega), if_neg c1, if_neg c2, if_neg c3]
          have c4 : ¬ tailL (A ++ B) = zerosL (tailL (A ++ B)).length := by
            intro hz
            apply c3
            have ht : tailL A = (tailL (A ++ B)).take (tailL A).length := by
              unfold tailL
              rw [n2, List.drop_append_of_le_length hle, List.take_take]
              have hm : (List.take (padN (num A 2)) (List.drop (num A 2) A)).length ≤ padN (num A 2) := by rw [List.length_take]; omega
              rw [Nat.min_eq_left hm, List.take_append_of_le_length (by rw [List.length_take]; omega), List.length_take, List.take_eq_take_iff]
              omega
            rw [ht, hz]
            unfold zerosL
            rw [List.take_replicate]
            simp
          have x2 : errL (A ++ B) = 2 := by unfold errL; rw [if_neg (by omega), if_neg (by omega), if_neg (by omega), if_neg (by omega), if_neg c4]
          rw [x1, x2]
      rw [parseL_err h0B (by rw [hE]; exact he), hE, parseL_err h0 he]
theorem join_whole : ∀ (n : Nat) (A B : List UInt8), A.length ≤ n → (parseL A).2.2 = 0 → A.length % 4 = 0 → parseL (A ++ B) = glue A.length (parseL A).1 (parseL B)
  | n, [], B, _, _, _ => by rw [parseL_nil, List.nil_append]; exact (glue_zero B).symm
  | 0, b :: A, _, h, _, _ => by simp at h
  | n + 1, b :: L, B, hn, h, h4 => by
    generalize hL : b :: L = A at *
    have h0 : A ≠ [] := by rw [← hL]; simp
    have h0B : A ++ B ≠ [] := by simp [h0]
    by_cases he : errL A = 0
    · by_cases hr : (parseL (A.drop (sizeL A))).2.2 = 0
      · obtain ⟨g0, g1, g2, g3, g4⟩ := errL_ok he
        have hp := sizeL_pos he
        have hs : sizeL A ≤ A.length := by unfold sizeL padN; omega
        have hs4 : sizeL A % 4 = 0 := padN_four _
        have hdl : (A.drop (sizeL A)).length = A.length - sizeL A := List.length_drop
        have ih := join_whole n (A.drop (sizeL A)) B (by omega) hr (by omega)
        obtain ⟨e1, e2, e3, e4⟩ := whole_more B he hs
        rw [parseL_ok h0 he hr]
        by_cases hb : (parseL B).2.2 = 0
        · have ih2 : parseL (A.drop (sizeL A) ++ B) = ((parseL (A.drop (sizeL A))).1 ++ (parseL B).1, 0, 0) := by rw [ih]; simp [glue, hb]
          rw [parseL_ok h0B e1 (by rw [e4, ih2]), e4, ih2, e3]
          simp [glue, hb]
        · have ih2 : parseL (A.drop (sizeL A) ++ B) = ([], (A.length - sizeL A) + (parseL B).2.1, (parseL B).2.2) := by rw [ih, hdl]; simp [glue, hb]
          rw [parseL_later h0B e1 (by rw [e4, ih2]; exact hb), e4, ih2, e2]
          simp only [glue, if_neg hb]
          have e5 : sizeL A + (A.length - sizeL A + (parseL B).2.1) = A.length + (parseL B).2.1 := by omega
          rw [e5]
      · rw [parseL_later h0 he hr] at h
        exact absurd h hr
    · rw [parseL_err h0 he] at h
      exact absurd h he

/-! ### The first of a type -/
def findB : List Item → Int → ByteArray × Bool
  | [], _ => (⟨#[]⟩, false)
  | x :: l, k => if x.1 = k then (x.2, true) else findB l k
theorem findB_head (x : Item) (l : List Item) : findB (x :: l) x.1 = (x.2, true) := by rw [findB, if_pos rfl]
theorem findB_last : ∀ (l : List Item) (x : Item), findB (l ++ [x]) x.1 = if (findB l x.1).2 then findB l x.1 else (x.2, true)
  | [], x => by simp [findB]
  | y :: l, x => by
    rw [List.cons_append, findB, findB]
    by_cases h : y.1 = x.1
    · rw [if_pos h, if_pos h]
      simp
    · rw [if_neg h, if_neg h]
      exact findB_last l x
theorem findB_none : ∀ (l : List Item) (k : Int), (findB l k).2 = false → (findB l k).1 = ⟨#[]⟩
  | [], _, _ => rfl
  | x :: l, k, h => by
    rw [findB] at h ⊢
    split at h
    · simp at h
    · rename_i hk
      rw [if_neg hk]
      exact findB_none l k h
/-- Where the first k were others. -/
theorem findB_skip (l : List Item) (kind : Int) (k : Nat) (h : ∀ x ∈ l.take k, x.1 ≠ kind) : findB l kind = findB (l.drop k) kind := by
  induction k generalizing l with
  | zero => rfl
  | succ k ih =>
    cases l with
    | nil => rfl
    | cons x l =>
      rw [findB, if_neg (h x (by simp)), List.drop_succ_cons]
      exact ih l fun y hy => h y (by rw [List.take_succ_cons]; exact List.mem_cons_of_mem _ hy)
end Go.Proofs.Ytfdnphkdpmlbnaa
