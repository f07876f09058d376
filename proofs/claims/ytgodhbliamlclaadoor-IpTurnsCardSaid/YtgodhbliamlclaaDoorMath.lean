/-
  Package ip: plain facts on lists of bytes and sums of pairs. No program is named here.
-/
import Derived.WalkKit
namespace Go.Proofs.YtgodhbliamlclaaDoor

/-- A byte as a number, and two. -/
def byteAt (l : List UInt8) (i : Nat) : Nat := (l.getD i 0).toNat
def num (l : List UInt8) (i : Nat) : Nat := byteAt l i * 256 + byteAt l (i + 1)
theorem byteAt_lt (l : List UInt8) (i : Nat) : byteAt l i < 256 := by
  have := (l.getD i 0).toNat_lt
  unfold byteAt
  omega
theorem num_lt (l : List UInt8) (i : Nat) : num l i < 65536 := by
  have h1 := byteAt_lt l i
  have h2 := byteAt_lt l (i + 1)
  unfold num
  omega
theorem byteAt_get {l : List UInt8} {i : Nat} (h : i < l.length) : byteAt l i = l[i].toNat := by
  unfold byteAt
  rw [List.getD_eq_getElem?_getD, List.getElem?_eq_getElem h]
  rfl
theorem byteAt_out {l : List UInt8} {i : Nat} (h : l.length ≤ i) : byteAt l i = 0 := by
  unfold byteAt
  rw [List.getD_eq_getElem?_getD, List.getElem?_eq_none h]
  rfl

/-- All pairs, added up. -/
def psum : List UInt8 → Nat
  | [] => 0
  | [a] => a.toNat * 256
  | a :: b :: t => a.toNat * 256 + b.toNat + psum t
theorem psum_append : ∀ (l m : List UInt8), l.length % 2 = 0 → psum (l ++ m) = psum l + psum m
  | [], m, _ => by simp [psum]
  | [a], m, h => by simp at h
  | a :: b :: t, m, h => by
    have h' : t.length % 2 = 0 := by simp only [List.length_cons] at h; omega
    show a.toNat * 256 + b.toNat + psum (t ++ m) = _
    rw [psum_append t m h']
    show _ = a.toNat * 256 + b.toNat + psum t + psum m
    omega
theorem psum_two (l : List UInt8) (k : Nat) (h : k < l.length) : psum ((l.drop k).take 2) = num l k := by
  unfold num
  rw [byteAt_get h, List.drop_eq_getElem_cons h, List.take_succ_cons]
  by_cases h2 : k + 1 < l.length
  · rw [byteAt_get h2, List.drop_eq_getElem_cons h2, List.take_succ_cons, List.take_zero]
    simp only [psum, Nat.add_zero]
  · rw [byteAt_out (by omega), List.drop_eq_nil_of_le (by omega), List.take_nil]
    simp only [psum, Nat.add_zero]
theorem psum_take (l : List UInt8) (i : Nat) (h : 2 * i < l.length) : psum (l.take (2 * (i + 1))) = psum (l.take (2 * i)) + num l (2 * i) := by
  have e : l.take (2 * (i + 1)) = l.take (2 * i) ++ (l.drop (2 * i)).take 2 := by
    rw [show 2 * (i + 1) = 2 * i + 2 by omega, List.take_add]
  rw [e, psum_append _ _ (by rw [List.length_take]; omega), psum_two l _ h]
theorem psum_le : ∀ l : List UInt8, psum l ≤ 65535 * ((l.length + 1) / 2)
  | [] => by simp [psum]
  | [a] => by
    have := a.toNat_lt
    simp only [psum, List.length_cons, List.length_nil]
    omega
  | a :: b :: t => by
    have h := psum_le t
    have ha := a.toNat_lt
    have hb := b.toNat_lt
    simp only [psum, List.length_cons]
    omega
/-- One byte made another one. -/
theorem psum_set : ∀ (l : List UInt8) (i : Nat) (x : UInt8), i < l.length → psum (l.set i x) + (if i % 2 = 0 then 256 else 1) * byteAt l i = psum l + (if i % 2 = 0 then 256 else 1) * x.toNat
  | [], i, x, h => by simp at h
  | [a], 0, x, h => by simp [psum, byteAt]; omega
  | [a], i + 1, x, h => by simp at h
  | a :: b :: t, 0, x, h => by simp [psum, byteAt]; omega
  | a :: b :: t, 1, x, h => by simp [psum, byteAt]; omega
  | a :: b :: t, i + 2, x, h => by
    have h' : i < t.length := by simp only [List.length_cons] at h; omega
    have ih := psum_set t i x h'
    have e1 : (a :: b :: t).set (i + 2) x = a :: b :: t.set i x := rfl
    have e2 : byteAt (a :: b :: t) (i + 2) = byteAt t i := rfl
    have e3 : (i + 2) % 2 = i % 2 := by omega
    rw [e1, e2, e3]
    simp only [psum]
    omega

/-- What is above 16 bits added in again, till there is nothing. -/
def fold16 (n : Nat) : Nat := if n = 0 then 0 else (n - 1) % 65535 + 1
theorem fold16_small {n : Nat} (h : n ≤ 65535) : fold16 n = n := by unfold fold16; split <;> omega
theorem fold16_step {n : Nat} (h : 65535 < n) : fold16 (n % 65536 + n / 65536) = fold16 n := by unfold fold16; split <;> split <;> omega
theorem fold16_le (n : Nat) : fold16 n ≤ 65535 := by unfold fold16; split <;> omega
theorem fold16_mod (n : Nat) : fold16 n % 65535 = n % 65535 := by unfold fold16; split <;> omega
theorem fold16_pos {n : Nat} (h : 0 < n) : 0 < fold16 n := by unfold fold16; split <;> omega
/-- The sum of a text. -/
def chk (l : List UInt8) : Nat := 65535 - fold16 (psum l)
theorem chk_lt (l : List UInt8) : chk l < 65536 := by unfold chk; omega
/-- A number in two bytes. -/
def be16 (n : Nat) : List UInt8 := [UInt8.ofNat (n / 256), UInt8.ofNat n]
theorem be16_length (n : Nat) : (be16 n).length = 2 := rfl
theorem psum_be16 {n : Nat} (h : n < 65536) : psum (be16 n) = n := by
  unfold be16 psum psum
  have h1 : (UInt8.ofNat (n / 256)).toNat = n / 256 := UInt8.toNat_ofNat_of_lt' (by show _ < 256; omega)
  have h2 : (UInt8.ofNat n).toNat = n % 256 := UInt8.toNat_ofNat'
  rw [h1, h2]
  omega
theorem byteAt_right (l m : List UInt8) (i : Nat) : byteAt (l ++ m) (l.length + i) = byteAt m i := by
  unfold byteAt
  rw [List.getD_eq_getElem?_getD, List.getD_eq_getElem?_getD, List.getElem?_append_right (by omega), Nat.add_sub_cancel_left]
theorem byteAt_left {l : List UInt8} (m : List UInt8) {i : Nat} (h : i < l.length) : byteAt (l ++ m) i = byteAt l i := by
  unfold byteAt
  rw [List.getD_eq_getElem?_getD, List.getD_eq_getElem?_getD, List.getElem?_append_left h]
theorem num_right (l m : List UInt8) (i : Nat) : num (l ++ m) (l.length + i) = num m i := by
  unfold num
  rw [byteAt_right, Nat.add_assoc, byteAt_right]
theorem num_left {l : List UInt8} (m : List UInt8) {i : Nat} (h : i + 1 < l.length) : num (l ++ m) i = num l i := by
  unfold num
  rw [byteAt_left m (by omega), byteAt_left m h]
theorem num_be16 {n : Nat} (h : n < 65536) : num (be16 n) 0 = n := by
  have h1 : (UInt8.ofNat (n / 256)).toNat = n / 256 := UInt8.toNat_ofNat_of_lt' (by show _ < 256; omega)
  have h2 : (UInt8.ofNat n).toNat = n % 256 := UInt8.toNat_ofNat'
  show (UInt8.ofNat (n / 256)).toNat * 256 + (UInt8.ofNat n).toNat = n
  omega
theorem bytes_ext {a b : ByteArray} (h : a.data.toList = b.data.toList) : a = b := by
  cases a; cases b
  congr 1
  exact Array.toList_inj.1 h
theorem size_list (a : ByteArray) : a.size = a.data.toList.length := by simp
end Go.Proofs.YtgodhbliamlclaaDoor
