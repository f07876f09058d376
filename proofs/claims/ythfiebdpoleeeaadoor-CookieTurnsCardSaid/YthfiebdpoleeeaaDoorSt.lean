/-
  Package cookie, plain: numbers as bytes, a state, its bytes, the state of bytes; keys. No program is named here.
-/
import Derived.Test.YthfiebdpoleeeaaDoorKey
namespace Go.Proofs.YthfiebdpoleeeaaDoor
open Go.RowKit
set_option linter.unusedVariables false

/-- A number in k bytes, the highest one first. -/
def beN : Nat → Nat → List UInt8
  | 0, _ => []
  | k + 1, n => UInt8.ofNat (n / 256 ^ k) :: beN k n
theorem beN_length : ∀ k n, (beN k n).length = k
  | 0, _ => rfl
  | k + 1, n => by rw [beN, List.length_cons, beN_length k n]
theorem beN_more (a : Nat) : ∀ k j n, k ≤ j → beN k (a * 256 ^ j + n) = beN k n
  | 0, _, _, _ => rfl
  | k + 1, j, n, h => by
    rw [beN, beN, beN_more a k j n (by omega)]
    congr 1
    have e : a * 256 ^ j = 256 ^ k * (256 * (a * 256 ^ (j - k - 1))) := by
      rw [show 256 ^ j = 256 ^ k * (256 * 256 ^ (j - k - 1)) by rw [← Nat.pow_succ', ← Nat.pow_add]; congr 1; omega]
      simp only [Nat.mul_left_comm]
    rw [e, Nat.add_comm, Nat.add_mul_div_left _ _ (Nat.pow_pos (by decide))]
    apply UInt8.toNat_inj.1
    rw [UInt8.toNat_ofNat', UInt8.toNat_ofNat']
    omega
/-- The number of bytes. -/
def valN (l : List UInt8) : Nat := l.foldl (fun a b => a * 256 + b.toNat) 0
theorem valN_fold : ∀ (l : List UInt8) (a : Nat), l.foldl (fun a b => a * 256 + b.toNat) a = a * 256 ^ l.length + valN l
  | [], a => by simp [valN]
  | b :: l, a => by
    have h := valN_fold l
    show l.foldl _ (a * 256 + b.toNat) = _
    rw [h, show valN (b :: l) = l.foldl (fun a b => a * 256 + b.toNat) (0 * 256 + b.toNat) from rfl, h, List.length_cons, Nat.pow_succ']
    rw [Nat.add_mul, Nat.zero_mul, Nat.zero_add, Nat.mul_assoc]
    omega
theorem valN_cons (b : UInt8) (l : List UInt8) : valN (b :: l) = b.toNat * 256 ^ l.length + valN l := by
  rw [show valN (b :: l) = l.foldl (fun a b => a * 256 + b.toNat) (0 * 256 + b.toNat) from rfl, valN_fold]
  simp
theorem valN_snoc (l : List UInt8) (b : UInt8) : valN (l ++ [b]) = valN l * 256 + b.toNat := by simp [valN]
theorem valN_lt : ∀ l : List UInt8, valN l < 256 ^ l.length
  | [] => by simp [valN]
  | b :: l => by
    have h := valN_lt l
    have hb := b.toNat_lt
    rw [valN_cons, List.length_cons, Nat.pow_succ']
    have : b.toNat * 256 ^ l.length ≤ 255 * 256 ^ l.length := Nat.mul_le_mul_right _ (by omega)
    omega
theorem valN_be : ∀ k n, valN (beN k n) = n % 256 ^ k
  | 0, n => by simp [beN, valN, Nat.mod_one]
  | k + 1, n => by
    have e : n % 256 ^ (k + 1) = n % 256 ^ k + n / 256 ^ k % 256 * 256 ^ k := by rw [Nat.pow_succ, Nat.mod_mul, Nat.mul_comm (256 ^ k) (n / 256 ^ k % 256)]
    rw [beN, valN_cons, valN_be k n, beN_length, UInt8.toNat_ofNat', e]
    exact Nat.add_comm _ _
theorem be_valN : ∀ l : List UInt8, beN l.length (valN l) = l
  | [] => rfl
  | b :: l => by
    have h := be_valN l
    have hl := valN_lt l
    rw [List.length_cons, valN_cons, beN, beN_more _ _ _ _ (Nat.le_refl _), h]
    congr 1
    rw [Nat.add_comm, Nat.add_mul_div_right _ _ (Nat.pow_pos (by decide)), Nat.div_eq_of_lt hl, Nat.zero_add]
    simp

/-- A state: seven numbers of 32 bits, four of 16, a text, two times. -/
structure St where
  a0 : Nat
  a1 : Nat
  a2 : Nat
  a3 : Nat
  a4 : Nat
  a5 : Nat
  a6 : Nat
  b0 : Nat
  b1 : Nat
  b2 : Nat
  b3 : Nat
  peer : ByteArray
  made : Int
  life : Int
deriving DecidableEq
def zeroS : St := ⟨0, 0, 0, 0, 0, 0, 0, 0, 0, 0, 0, ⟨#[]⟩, 0, 0⟩
structure WfS (s : St) : Prop where
  a0 : s.a0 < 4294967296
  a1 : s.a1 < 4294967296
  a2 : s.a2 < 4294967296
  a3 : s.a3 < 4294967296
  a4 : s.a4 < 4294967296
  a5 : s.a5 < 4294967296
  a6 : s.a6 < 4294967296
  b0 : s.b0 < 65536
  b1 : s.b1 < 65536
  b2 : s.b2 < 65536
  b3 : s.b3 < 65536
def cellsS (s : St) : Array Value := #[.int .u32 s.a0, .int .u32 s.a1, .int .u32 s.a2, .int .u32 s.a3, .int .u32 s.a4, .int .u32 s.a5, .int .u32 s.a6, .int .u16 s.b0, .int .u16 s.b1, .int .u16 s.b2, .int .u16 s.b3, .string s.peer, .int .i64 s.made, .int .i64 s.life]
def timeB (n : Int) : Bool := decide (0 ≤ n ∧ n ≤ 1099511627776)
def addrB (s : ByteArray) : Bool := decide (s.size = 4 ∨ s.size = 16)
def rightS (s : St) : Bool := decide (s.a0 ≠ 0 ∧ s.a1 ≠ 0 ∧ s.b0 ≠ 0 ∧ s.b1 ≠ 0 ∧ s.b2 ≠ 0 ∧ s.b3 ≠ 0) && addrB s.peer && timeB s.made && timeB s.life
/-- The bytes ahead of the text, and all. -/
def headS (s : St) : List UInt8 := (beN 4 s.a0 ++ beN 4 s.a1 ++ beN 4 s.a2 ++ beN 4 s.a3 ++ beN 4 s.a4 ++ beN 4 s.a5 ++ beN 4 s.a6) ++ (beN 2 s.b0 ++ beN 2 s.b1 ++ beN 2 s.b2 ++ beN 2 s.b3) ++ (beN 8 s.made.toNat ++ beN 8 s.life.toNat) ++ beN 1 s.peer.size
theorem headS_length (s : St) : (headS s).length = 53 := by simp only [headS, List.length_append, beN_length]
def bytesS (s : St) : List UInt8 := headS s ++ s.peer.data.toList
def textS (s : St) : ByteArray := ⟨(bytesS s).toArray⟩
theorem textS_list (s : St) : (textS s).data.toList = bytesS s := rfl
theorem textS_size (s : St) : (textS s).size = 53 + s.peer.size := by
  rw [size_list, textS_list, bytesS, List.length_append, headS_length, ← size_list]

/-- k bytes from the i-th on, and the number that they are. -/
def cutL (L : List UInt8) (i k : Nat) : List UInt8 := (L.drop i).take k
theorem cutL_length {L : List UInt8} {i k : Nat} (h : i + k ≤ L.length) : (cutL L i k).length = k := by
  unfold cutL
  rw [List.length_take, List.length_drop]
  omega
def at9 (L : List UInt8) (i k : Nat) : Nat := valN (cutL L i k)
theorem at9_lt (L : List UInt8) (i k : Nat) : at9 L i k < 256 ^ k := by
  refine Nat.lt_of_lt_of_le (valN_lt _) (Nat.pow_le_pow_right (by decide) ?_)
  unfold cutL
  rw [List.length_take]
  omega
theorem at9_be {A B C : List UInt8} {k n : Nat} (hB : B = beN k n) (hn : n < 256 ^ k) : at9 (A ++ (B ++ C)) A.length k = n := by
  subst hB
  unfold at9 cutL
  rw [List.drop_left, List.take_left' (beN_length k n), valN_be, Nat.mod_eq_of_lt hn]
def parseS (t : ByteArray) : St :=
  ⟨at9 t.data.toList 0 4, at9 t.data.toList 4 4, at9 t.data.toList 8 4, at9 t.data.toList 12 4, at9 t.data.toList 16 4, at9 t.data.toList 20 4, at9 t.data.toList 24 4,
   at9 t.data.toList 28 2, at9 t.data.toList 30 2, at9 t.data.toList 32 2, at9 t.data.toList 34 2, t.extract 53 t.size, IntKind.i64.wrap (at9 t.data.toList 36 8 : Nat), IntKind.i64.wrap (at9 t.data.toList 44 8 : Nat)⟩
theorem parseS_wf (t : ByteArray) : WfS (parseS t) :=
  ⟨at9_lt _ _ 4, at9_lt _ _ 4, at9_lt _ _ 4, at9_lt _ _ 4, at9_lt _ _ 4, at9_lt _ _ 4, at9_lt _ _ 4, at9_lt _ _ 2, at9_lt _ _ 2, at9_lt _ _ 2, at9_lt _ _ 2⟩
/-- Are these the bytes of a right state? -/
def okS (t : ByteArray) : Bool := decide (53 ≤ t.size) && decide (at9 t.data.toList 52 1 = t.size - 53) && rightS (parseS t)
theorem time_of {n : Int} (h : timeB n = true) : 0 ≤ n ∧ n ≤ 1099511627776 := of_decide_eq_true h
theorem addr_of {s : ByteArray} (h : addrB s = true) : s.size = 4 ∨ s.size = 16 := of_decide_eq_true h
structure RightS (s : St) : Prop where
  a0 : s.a0 ≠ 0
  a1 : s.a1 ≠ 0
  b0 : s.b0 ≠ 0
  b1 : s.b1 ≠ 0
  b2 : s.b2 ≠ 0
  b3 : s.b3 ≠ 0
  peer : s.peer.size = 4 ∨ s.peer.size = 16
  made : 0 ≤ s.made ∧ s.made ≤ 1099511627776
  life : 0 ≤ s.life ∧ s.life ≤ 1099511627776
theorem right_of {s : St} (h : rightS s = true) : RightS s := by
  unfold rightS at h
  simp only [Bool.and_eq_true] at h
  obtain ⟨⟨⟨h1, h2⟩, h3⟩, h4⟩ := h
  obtain ⟨g0, g1, g2, g3, g4, g5⟩ := of_decide_eq_true h1
  exact ⟨g0, g1, g2, g3, g4, g5, addr_of h2, time_of h3, time_of h4⟩
theorem right_mk {s : St} (h : RightS s) : rightS s = true := by
  unfold rightS
  simp only [Bool.and_eq_true]
  exact ⟨⟨⟨decide_eq_true ⟨h.a0, h.a1, h.b0, h.b1, h.b2, h.b3⟩, decide_eq_true h.peer⟩, decide_eq_true h.made⟩, decide_eq_true h.life⟩
theorem wrap_small {n : Nat} (h : n < 2 ^ 63) : IntKind.i64.wrap (n : Int) = (n : Int) := by
  rw [IntKind.wrap_i64]
  omega
theorem at9_of {L A B C : List UInt8} {k i n : Nat} (hL : L = A ++ (B ++ C)) (hi : A.length = i) (hB : B = beN k n) (hn : n < 256 ^ k) : at9 L i k = n := by
  subst hL hi
  exact at9_be hB hn
theorem bytes_parts (s : St) : bytesS s = beN 4 s.a0 ++ (beN 4 s.a1 ++ (beN 4 s.a2 ++ (beN 4 s.a3 ++ (beN 4 s.a4 ++ (beN 4 s.a5 ++ (beN 4 s.a6 ++ (beN 2 s.b0 ++ (beN 2 s.b1 ++ (beN 2 s.b2 ++ (beN 2 s.b3 ++ (beN 8 s.made.toNat ++ (beN 8 s.life.toNat ++ (beN 1 s.peer.size ++ s.peer.data.toList))))))))))))) := by
  simp only [bytesS, headS, List.append_assoc]
theorem at9_next {A L : List UInt8} {i k : Nat} (h : A.length ≤ i) : at9 (A ++ L) i k = at9 L (i - A.length) k := by
  unfold at9 cutL
  rw [List.drop_append, List.drop_eq_nil_of_le h, List.nil_append]
theorem at9_here {L : List UInt8} {k n : Nat} (hn : n < 256 ^ k) : at9 (beN k n ++ L) 0 k = n := by
  have := at9_of (A := []) (B := beN k n) (C := L) (L := beN k n ++ L) rfl rfl rfl hn
  exact this
theorem at9_step {a n : Nat} {L : List UInt8} {i k : Nat} (h : a ≤ i) : at9 (beN a n ++ L) i k = at9 L (i - a) k := by
  rw [at9_next (by rw [beN_length]; exact h), beN_length]
set_option maxRecDepth 10000 in
/-- What was made is read as it was. -/
theorem parse_text {s : St} (hw : WfS s) (h : RightS s) : parseS (textS s) = s ∧ okS (textS s) = true := by
  have hm := h.made
  have hl := h.life
  have hp := h.peer
  have e : parseS (textS s) = s := by
    unfold parseS
    rw [textS_list, bytes_parts]
    have ep : (textS s).extract 53 (textS s).size = s.peer := by
      apply bytes_ext
      rw [extract_list, textS_list, bytesS, List.drop_left' (headS_length s), List.take_of_length_le]
      rw [textS_size, ← size_list]
      omega
    rw [ep]
    have wm : IntKind.i64.wrap ((s.made.toNat : Nat) : Int) = s.made := by rw [wrap_small (by omega)]; omega
    have wl : IntKind.i64.wrap ((s.life.toNat : Nat) : Int) = s.life := by rw [wrap_small (by omega)]; omega
    simp only [at9_step, Nat.reduceLeDiff, Nat.le_refl, Nat.reduceSub]
    repeat rw [at9_here (by first | exact hw.a0 | exact hw.a1 | exact hw.a2 | exact hw.a3 | exact hw.a4 | exact hw.a5 | exact hw.a6 | exact hw.b0 | exact hw.b1 | exact hw.b2 | exact hw.b3 | omega)]
    rw [wm, wl]
  refine ⟨e, ?_⟩
  unfold okS
  rw [e, right_mk h, textS_size, textS_list, bytes_parts]
  simp only [at9_step, Nat.reduceLeDiff, Nat.le_refl, Nat.reduceSub]
  rw [at9_here (by omega)]
  simp
theorem be_at {L : List UInt8} {i k : Nat} (h : i + k ≤ L.length) : beN k (at9 L i k) = cutL L i k := by
  have e := be_valN (cutL L i k)
  rw [cutL_length h] at e
  exact e
theorem cut_join (L : List UInt8) (i j k n : Nat) (h : j = i + k) : cutL L i k ++ cutL L j n = cutL L i (k + n) := by
  subst h
  unfold cutL
  rw [List.take_add, List.drop_drop]
theorem at9_lt8 (L : List UInt8) (i : Nat) : at9 L i 8 < 18446744073709551616 := Nat.lt_of_lt_of_eq (at9_lt L i 8) (by decide)
theorem wrap_back {n : Nat} {m : Int} (e : m = IntKind.i64.wrap (n : Int)) (hn : n < 18446744073709551616) (h0 : 0 ≤ m) (h1 : m ≤ 1099511627776) : m.toNat = n := by
  rw [IntKind.wrap_i64] at e
  omega
/-- What is read of bytes has these bytes, if their length is told right. -/
theorem text_parse {t : ByteArray} (h53 : 53 ≤ t.size) (h : RightS (parseS t)) : textS (parseS t) = t ↔ at9 t.data.toList 52 1 = t.size - 53 := by
  have hL := size_list t
  have hs : (parseS t).peer.size = t.size - 53 := by
    show (t.extract 53 t.size).size = _
    rw [ByteArray.size_extract]
    omega
  have hm := h.made
  have hl := h.life
  have hp := h.peer
  rw [hs] at hp
  have em : (parseS t).made.toNat = at9 t.data.toList 36 8 := wrap_back rfl (at9_lt8 _ _) hm.1 hm.2
  have el : (parseS t).life.toNat = at9 t.data.toList 44 8 := wrap_back rfl (at9_lt8 _ _) hl.1 hl.2
  have hb : bytesS (parseS t) = cutL t.data.toList 0 52 ++ (beN 1 (t.size - 53) ++ t.data.toList.drop 53) := by
    have ep : (parseS t).peer.data.toList = t.data.toList.drop 53 := by
      show (t.extract 53 t.size).data.toList = _
      rw [extract_list, List.take_of_length_le]
      rw [List.length_drop]
      omega
    unfold bytesS headS
    rw [em, el, hs, ep]
    show beN 4 (at9 t.data.toList 0 4) ++ beN 4 (at9 t.data.toList 4 4) ++ beN 4 (at9 t.data.toList 8 4) ++ beN 4 (at9 t.data.toList 12 4) ++ beN 4 (at9 t.data.toList 16 4) ++ beN 4 (at9 t.data.toList 20 4) ++ beN 4 (at9 t.data.toList 24 4) ++ (beN 2 (at9 t.data.toList 28 2) ++ beN 2 (at9 t.data.toList 30 2) ++ beN 2 (at9 t.data.toList 32 2) ++ beN 2 (at9 t.data.toList 34 2)) ++ (beN 8 (at9 t.data.toList 36 8) ++ beN 8 (at9 t.data.toList 44 8)) ++ beN 1 (t.size - 53) ++ t.data.toList.drop 53 = _
    rw [be_at (by omega), be_at (by omega), be_at (by omega), be_at (by omega), be_at (by omega), be_at (by omega), be_at (by omega), be_at (by omega), be_at (by omega), be_at (by omega), be_at (by omega), be_at (by omega), be_at (by omega)]
    rw [cut_join _ 0 4 4 4 rfl, cut_join _ 0 8 8 4 rfl, cut_join _ 0 12 12 4 rfl, cut_join _ 0 16 16 4 rfl, cut_join _ 0 20 20 4 rfl, cut_join _ 0 24 24 4 rfl]
    rw [cut_join _ 28 30 2 2 rfl, cut_join _ 28 32 4 2 rfl, cut_join _ 28 34 6 2 rfl, cut_join _ 36 44 8 8 rfl, cut_join _ 0 28 28 8 rfl, cut_join _ 0 36 36 16 rfl, List.append_assoc]
  have hT : t.data.toList = cutL t.data.toList 0 52 ++ (cutL t.data.toList 52 1 ++ t.data.toList.drop 53) := by
    rw [← List.append_assoc, cut_join _ 0 52 52 1 rfl]
    exact (List.take_append_drop 53 _).symm
  have e1 : textS (parseS t) = t ↔ beN 1 (t.size - 53) = cutL t.data.toList 52 1 := by
    constructor
    · intro g
      have g2 : bytesS (parseS t) = t.data.toList := by rw [← textS_list, g]
      rw [hb] at g2
      exact List.append_cancel_right (List.append_cancel_left (g2.trans hT))
    · intro g
      apply bytes_ext
      rw [textS_list, hb, g]
      exact hT.symm
  rw [e1]
  constructor
  · intro g
    unfold at9
    rw [← g, valN_be, Nat.mod_eq_of_lt (by omega)]
  · intro g
    rw [← g, be_at (by omega)]
theorem text_parse_ok {t : ByteArray} (h53 : 53 ≤ t.size) (h : rightS (parseS t) = true) : decide (textS (parseS t) = t) = okS t := by
  unfold okS
  rw [h, decide_eq_true h53, Bool.true_and, Bool.and_true]
  exact decide_eq_decide.2 (text_parse h53 (right_of h))

/-- A cookie, and what it is read as: a state and an error's number. -/
def cookieB (key : ByteArray) (s : St) : ByteArray := hmacOf key (textS s) ++ textS s
def buildK (key : ByteArray) (s : St) : ByteArray × Nat := if rightS s then (cookieB key s, 0) else (⟨#[]⟩, 1)
def behindB (c : ByteArray) : ByteArray := c.extract 32 c.size
def readK (key c : ByteArray) : St × Nat :=
  if c.size < 32 then (zeroS, 3) else if sameB (hmacOf key (behindB c)) (c.extract 0 32) then (if okS (behindB c) then (parseS (behindB c), 0) else (zeroS, 2)) else (zeroS, 5)
theorem cookie_size (key : ByteArray) (s : St) : (cookieB key s).size = 85 + s.peer.size := by
  unfold cookieB
  rw [ByteArray.size_append, hmacOf_size, textS_size]
  omega
theorem signed_parts (key t : ByteArray) : behindB (hmacOf key t ++ t) = t ∧ (hmacOf key t ++ t).extract 0 32 = hmacOf key t := by
  have hs := hmacOf_size key t
  generalize hmacOf key t = h at *
  have hl : h.data.toList.length = 32 := by rw [← size_list]; exact hs
  constructor
  · apply bytes_ext
    unfold behindB
    rw [extract_list, ByteArray.data_append, Array.toList_append, List.drop_left' hl, List.take_of_length_le]
    rw [ByteArray.size_append, ← size_list]
    omega
  · apply bytes_ext
    rw [extract_list, ByteArray.data_append, Array.toList_append, List.drop_zero, List.take_left' hl]
theorem read_signed (key t : ByteArray) : readK key (hmacOf key t ++ t) = if okS t then (parseS t, 0) else (zeroS, 2) := by
  obtain ⟨e1, e2⟩ := signed_parts key t
  unfold readK
  rw [e1, e2, if_neg (by rw [ByteArray.size_append, hmacOf_size]; omega), if_pos (sameB_true rfl)]
theorem read_back {s : St} (hw : WfS s) (h : rightS s = true) (key : ByteArray) : readK key (cookieB key s) = (s, 0) := by
  obtain ⟨e1, e2⟩ := parse_text hw (right_of h)
  unfold cookieB
  rw [read_signed, if_pos e2, e1]
/-- Under another key: the same state, or a wrong sum. -/
theorem read_other {s : St} (hw : WfS s) (h : rightS s = true) (key other : ByteArray) : readK other (cookieB key s) = (s, 0) ∨ readK other (cookieB key s) = (zeroS, 5) := by
  obtain ⟨e1, e2⟩ := parse_text hw (right_of h)
  obtain ⟨e3, e4⟩ := signed_parts key (textS s)
  unfold readK
  rw [if_neg (by rw [cookie_size]; omega)]
  unfold cookieB
  rw [e3, e4]
  by_cases hs : sameB (hmacOf other (textS s)) (hmacOf key (textS s)) = true
  · rw [if_pos hs, if_pos e2, e1]
    exact .inl rfl
  · rw [if_neg hs]
    exact .inr rfl
theorem readK_short (key : ByteArray) {c : ByteArray} (h : c.size < 32) : readK key c = (zeroS, 3) := by unfold readK; rw [if_pos h]
theorem readK_cases (key c : ByteArray) : (readK key c = (zeroS, 3) ∧ c.size < 32) ∨ readK key c = (zeroS, 5) ∨ readK key c = (zeroS, 2) ∨ (readK key c = (parseS (behindB c), 0) ∧ rightS (parseS (behindB c)) = true) := by
  unfold readK
  by_cases h1 : c.size < 32
  · rw [if_pos h1]; exact .inl ⟨rfl, h1⟩
  rw [if_neg h1]
  by_cases h2 : sameB (hmacOf key (behindB c)) (c.extract 0 32) = true
  · rw [if_pos h2]
    by_cases h3 : okS (behindB c) = true
    · rw [if_pos h3]
      refine .inr (.inr (.inr ⟨rfl, ?_⟩))
      unfold okS at h3
      simp only [Bool.and_eq_true] at h3
      exact h3.2
    · rw [if_neg h3]; exact .inr (.inr (.inl rfl))
  · rw [if_neg h2]; exact .inr (.inl rfl)
theorem readK_none {key c : ByteArray} (h : (readK key c).2 ≠ 0) : (readK key c).1 = zeroS := by
  rcases readK_cases key c with ⟨e, _⟩ | e | e | ⟨e, _⟩
  · rw [e]
  · rw [e]
  · rw [e]
  · rw [e] at h; exact absurd rfl h
theorem readK_good {key c : ByteArray} (h : (readK key c).2 = 0) : WfS (readK key c).1 ∧ rightS (readK key c).1 = true := by
  rcases readK_cases key c with ⟨e, _⟩ | e | e | ⟨e, e2⟩
  · rw [e] at h; cases h
  · rw [e] at h; cases h
  · rw [e] at h; cases h
  · rw [e]; exact ⟨parseS_wf _, e2⟩
theorem zeroS_wf : WfS zeroS := by constructor <;> decide
theorem readK_wf (key c : ByteArray) : WfS (readK key c).1 := by
  rcases readK_cases key c with ⟨e, _⟩ | e | e | ⟨e, e2⟩
  · rw [e]; exact zeroS_wf
  · rw [e]; exact zeroS_wf
  · rw [e]; exact zeroS_wf
  · rw [e]; exact parseS_wf _

/-- Keys: the new one, the old one, since when that is old. -/
structure Ky where
  nk : ByteArray
  nt : Bool
  ok : ByteArray
  ot : Bool
  since : Int
def zeroKy : Ky := ⟨⟨#[]⟩, false, ⟨#[]⟩, false, 0⟩
def turnKy (k : Ky) (key : ByteArray) (now : Int) : Ky := ⟨key, true, k.nk, k.nt, now⟩
def buildKy (k : Ky) (s : St) : ByteArray × Nat := if k.nt then buildK k.nk s else (⟨#[]⟩, 8)
def staleB (s : St) (now : Int) : Bool := decide (now < s.made ∨ s.life < now - s.made)
def stillB (k : Ky) (now : Int) : Bool := k.ot && decide (now - k.since ≤ 60000)
def tryKy (k : Ky) (c : ByteArray) (now : Int) : St × Nat := if (readK k.nk c).2 = 5 ∧ stillB k now = true then readK k.ok c else readK k.nk c
def readKy (k : Ky) (c : ByteArray) (now : Int) : St × Nat :=
  if k.nt then (if (tryKy k c now).2 ≠ 0 then (zeroS, (tryKy k c now).2) else if staleB (tryKy k c now).1 now then (zeroS, 7) else tryKy k c now) else (zeroS, 8)
end Go.Proofs.YthfiebdpoleeeaaDoor
