/-
  Plain facts on lists of bytes, numbers of two bytes. No program is named here.
-/
import Derived.WalkKit
namespace Go.Proofs.Ytfdnphkdpmlbnaa

/-- A byte as a number, and two. -/
def byteAt (l : List UInt8) (i : Nat) : Nat := (l.getD i 0).toNat
def num (l : List UInt8) (i : Nat) : Nat := byteAt l i * 256 + byteAt l (i + 1)
theorem byteAt_lt (l : List UInt8) (i : Nat) : byteAt l i < 256 := by
  have := (l.getD i 0).toNat_lt
  unfold byteAt
  omega
theorem num_lt (l : List UInt8) (i : Nat) : num l i < 65536 := by
  have h1 := byteAt_lt l i
  have h2 := byteAt_lt l (i + 1)
  unfold num
  omega
theorem byteAt_get {l : List UInt8} {i : Nat} (h : i < l.length) : byteAt l i = l[i].toNat := by
  unfold byteAt
  rw [List.getD_eq_getElem?_getD, List.getElem?_eq_getElem h]
  rfl
theorem byteAt_out {l : List UInt8} {i : Nat} (h : l.length ≤ i) : byteAt l i = 0 := by
  unfold byteAt
  rw [List.getD_eq_getElem?_getD, List.getElem?_eq_none h]
  rfl

/-- A number in two bytes. -/
def be16 (n : Nat) : List UInt8 := [UInt8.ofNat (n / 256), UInt8.ofNat n]
theorem be16_length (n : Nat) : (be16 n).length = 2 := rfl
theorem byteAt_right (l m : List UInt8) (i : Nat) : byteAt (l ++ m) (l.length + i) = byteAt m i := by
  unfold byteAt
  rw [List.getD_eq_getElem?_getD, List.getD_eq_getElem?_getD, List.getElem?_append_right (by omega), Nat.add_sub_cancel_left]
theorem byteAt_left {l : List UInt8} (m : List UInt8) {i : Nat} (h : i < l.length) : byteAt (l ++ m) i = byteAt l i := by
  unfold byteAt
  rw [List.getD_eq_getElem?_getD, List.getD_eq_getElem?_getD, List.getElem?_append_left h]
theorem num_right (l m : List UInt8) (i : Nat) : num (l ++ m) (l.length + i) = num m i := by
  unfold num
  rw [byteAt_right, Nat.add_assoc, byteAt_right]
theorem num_left {l : List UInt8} (m : List UInt8) {i : Nat} (h : i + 1 < l.length) : num (l ++ m) i = num l i := by
  unfold num
  rw [byteAt_left m (by omega), byteAt_left m h]
theorem num_be16 {n : Nat} (h : n < 65536) : num (be16 n) 0 = n := by
  have h1 : (UInt8.ofNat (n / 256)).toNat = n / 256 := UInt8.toNat_ofNat_of_lt' (by show _ < 256; omega)
  have h2 : (UInt8.ofNat n).toNat = n % 256 := UInt8.toNat_ofNat'
  show (UInt8.ofNat (n / 256)).toNat * 256 + (UInt8.ofNat n).toNat = n
  omega
theorem bytes_ext {a b : ByteArray} (h : a.data.toList = b.data.toList) : a = b := by
  cases a; cases b
  congr 1
  exact Array.toList_inj.1 h
theorem size_list (a : ByteArray) : a.size = a.data.toList.length := by simp
end Go.Proofs.Ytfdnphkdpmlbnaa
