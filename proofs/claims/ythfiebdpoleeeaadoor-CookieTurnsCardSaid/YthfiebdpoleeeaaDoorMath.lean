/-
  The digest of chapter 3 as plain functions on words of 32 bits and lists of bytes, and how the model's numbers reckon with them. No program is named here.
-/
import Derived.WalkKit
import Derived.Laws.BitsAllLaws
namespace Go.Proofs.YthfiebdpoleeeaaDoor
set_option linter.unusedVariables false

/-! ### Words -/
def add32 (x y : UInt32) : UInt32 := x + y
def xor32 (x y : UInt32) : UInt32 := x ^^^ y
def and32 (x y : UInt32) : UInt32 := x &&& y
def or32 (x y : UInt32) : UInt32 := x ||| y
def not32 (x : UInt32) : UInt32 := ~~~x
def shr32 (n : Nat) (x : UInt32) : UInt32 := UInt32.ofNat (x.toNat / 2 ^ n)
def shl32 (n : Nat) (x : UInt32) : UInt32 := UInt32.ofNat (x.toNat * 2 ^ n % 4294967296)
def rot32 (n : Nat) (x : UInt32) : UInt32 := or32 (shr32 n x) (shl32 (32 - n) x)

theorem lt32 (x : UInt32) : x.toNat < 4294967296 := x.toNat_lt
theorem ofNat32 {n : Nat} (h : n < 4294967296) : (UInt32.ofNat n).toNat = n := UInt32.toNat_ofNat_of_lt' (by show n < 4294967296; exact h)
theorem r_add (x y : UInt32) : ((x.toNat : Int) + (y.toNat : Int)) % 4294967296 = ((add32 x y).toNat : Int) := by
  unfold add32
  rw [UInt32.toNat_add]
  omega
theorem r_xor (x y : UInt32) : bits .xor .u32 (x.toNat : Int) (y.toNat : Int) = ((xor32 x y).toNat : Int) := by
  unfold xor32
  rw [UInt32.toNat_xor]
  exact u32_xor_nat _ _ (lt32 x) (lt32 y)
theorem r_and (x y : UInt32) : bits .and .u32 (x.toNat : Int) (y.toNat : Int) = ((and32 x y).toNat : Int) := by
  unfold and32
  rw [UInt32.toNat_and]
  exact u32_and_nat _ _ (lt32 x) (lt32 y)
theorem r_or (x y : UInt32) : bits .or .u32 (x.toNat : Int) (y.toNat : Int) = ((or32 x y).toNat : Int) := by
  unfold or32
  rw [UInt32.toNat_or]
  exact u32_or_nat _ _ (lt32 x) (lt32 y)
theorem not_nat {n : Nat} (h : n < 4294967296) : 4294967295 ^^^ n = 4294967295 - n := by
  apply Nat.eq_of_testBit_eq
  intro i
  have h2 : n < 2 ^ 32 := h
  rw [show 4294967295 - n = 2 ^ 32 - (n + 1) by omega, Nat.testBit_two_pow_sub_succ h2, Nat.testBit_xor, show (4294967295 : Nat) = 2 ^ 32 - 1 by rfl, Nat.testBit_two_pow_sub_one]
  by_cases hi : i < 32
  · simp [hi]
  · have := Nat.testBit_lt_two_pow (x := n) (i := i) (Nat.lt_of_lt_of_le h2 (Nat.pow_le_pow_right (by omega) (by omega)))
    simp [hi, this]
theorem r_not (x : UInt32) : bits .xor .u32 IntKind.u32.max (x.toNat : Int) = ((not32 x).toNat : Int) := by
  have h := u32_xor_nat 4294967295 x.toNat (by omega) (lt32 x)
  rw [not_nat (lt32 x)] at h
  have e : (not32 x).toNat = 4294967295 - x.toNat := by
    unfold not32
    rw [UInt32.toNat_not]
    rfl
  rw [e]
  exact h
theorem cast_two (n : Nat) : ((2 ^ n : Nat) : Int) = (2 : Int) ^ n := by simp
theorem r_shr (n : Nat) (x : UInt32) : (x.toNat : Int) / (2 : Int) ^ n = ((shr32 n x).toNat : Int) := by
  unfold shr32
  rw [ofNat32 (Nat.lt_of_le_of_lt (Nat.div_le_self _ _) (lt32 x)), ← cast_two]
  rfl
theorem r_shl (n : Nat) (x : UInt32) : (x.toNat : Int) * (2 : Int) ^ n % 4294967296 = ((shl32 n x).toNat : Int) := by
  unfold shl32
  rw [ofNat32 (Nat.mod_lt _ (by omega)), ← cast_two]
  rfl

/-! ### The digest -/
def sg0 (x : UInt32) : UInt32 := xor32 (xor32 (rot32 7 x) (rot32 18 x)) (shr32 3 x)
def sg1 (x : UInt32) : UInt32 := xor32 (xor32 (rot32 17 x) (rot32 19 x)) (shr32 10 x)
def lg0 (x : UInt32) : UInt32 := xor32 (xor32 (rot32 2 x) (rot32 13 x)) (rot32 22 x)
def lg1 (x : UInt32) : UInt32 := xor32 (xor32 (rot32 6 x) (rot32 11 x)) (rot32 25 x)
def ch (e f g : UInt32) : UInt32 := xor32 (and32 e f) (and32 (not32 e) g)
def maj (a b c : UInt32) : UInt32 := xor32 (xor32 (and32 a b) (and32 a c)) (and32 b c)
def consts : List UInt32 := [0x428a2f98, 0x71374491, 0xb5c0fbcf, 0xe9b5dba5, 0x3956c25b, 0x59f111f1, 0x923f82a4, 0xab1c5ed5,
  0xd807aa98, 0x12835b01, 0x243185be, 0x550c7dc3, 0x72be5d74, 0x80deb1fe, 0x9bdc06a7, 0xc19bf174,
  0xe49b69c1, 0xefbe4786, 0x0fc19dc6, 0x240ca1cc, 0x2de92c6f, 0x4a7484aa, 0x5cb0a9dc, 0x76f988da,
  0x983e5152, 0xa831c66d, 0xb00327c8, 0xbf597fc7, 0xc6e00bf3, 0xd5a79147, 0x06ca6351, 0x14292967,
  0x27b70a85, 0x2e1b2138, 0x4d2c6dfc, 0x53380d13, 0x650a7354, 0x766a0abb, 0x81c2c92e, 0x92722c85,
  0xa2bfe8a1, 0xa81a664b, 0xc24b8b70, 0xc76c51a3, 0xd192e819, 0xd6990624, 0xf40e3585, 0x106aa070,
  0x19a4c116, 0x1e376c08, 0x2748774c, 0x34b0bcb5, 0x391c0cb3, 0x4ed8aa4a, 0x5b9cca4f, 0x682e6ff3,
  0x748f82ee, 0x78a5636f, 0x84c87814, 0x8cc70208, 0x90befffa, 0xa4506ceb, 0xbef9a3f7, 0xc67178f2]
def regs0 : List UInt32 := [0x6a09e667, 0xbb67ae85, 0x3c6ef372, 0xa54ff53a, 0x510e527f, 0x9b05688c, 0x1f83d9ab, 0x5be0cd19]
/-- The next word behind those there are. -/
def nextW (l : List UInt32) : UInt32 := add32 (add32 (add32 (sg1 l[l.length - 2]!) l[l.length - 7]!) (sg0 l[l.length - 15]!)) l[l.length - 16]!
def sched : Nat → List UInt32 → List UInt32
  | 0, l => l
  | k + 1, l => sched k l ++ [nextW (sched k l)]
def tOne (k w : UInt32) (s : List UInt32) : UInt32 := add32 (add32 (add32 (add32 s[7]! (lg1 s[4]!)) (ch s[4]! s[5]! s[6]!)) k) w
def tTwo (s : List UInt32) : UInt32 := add32 (lg0 s[0]!) (maj s[0]! s[1]! s[2]!)
/-- One step of the eight registers. -/
def turn (k w : UInt32) (s : List UInt32) : List UInt32 := [add32 (tOne k w s) (tTwo s), s[0]!, s[1]!, s[2]!, add32 s[3]! (tOne k w s), s[4]!, s[5]!, s[6]!]
def turns (ws : List UInt32) (s : List UInt32) : Nat → List UInt32
  | 0 => s
  | t + 1 => turn consts[t]! ws[t]! (turns ws s t)
def behindBlock (r ws : List UInt32) : List UInt32 := List.zipWith add32 (turns (sched 48 ws) r 64) r
def word (a b c d : UInt8) : UInt32 := UInt32.ofNat (a.toNat * 16777216 + b.toNat * 65536 + c.toNat * 256 + d.toNat)
/-- The sixteen words of the block at a place. -/
def words (all : List UInt8) (off : Nat) : List UInt32 := (List.range 16).map fun i => word all[off + 4 * i]! all[off + 4 * i + 1]! all[off + 4 * i + 2]! all[off + 4 * i + 3]!
/-- The registers behind k blocks. -/
def regs (all : List UInt8) : Nat → List UInt32
  | 0 => regs0
  | k + 1 => behindBlock (regs all k) (words all (64 * k))
def bytes4 (x : UInt32) : List UInt8 := [UInt8.ofNat (x.toNat / 16777216), UInt8.ofNat (x.toNat / 65536 % 256), UInt8.ofNat (x.toNat / 256 % 256), UInt8.ofNat (x.toNat % 256)]
def bytes8 (n : Nat) : List UInt8 := [UInt8.ofNat (n / 72057594037927936 % 256), UInt8.ofNat (n / 281474976710656 % 256), UInt8.ofNat (n / 1099511627776 % 256), UInt8.ofNat (n / 4294967296 % 256), UInt8.ofNat (n / 16777216 % 256), UInt8.ofNat (n / 65536 % 256), UInt8.ofNat (n / 256 % 256), UInt8.ofNat (n % 256)]
def noughts (n : Nat) : Nat := (119 - n % 64) % 64
def pad (n : Nat) : List UInt8 := 128 :: (List.replicate (noughts n) 0 ++ bytes8 (8 * n))
def padded (l : List UInt8) : List UInt8 := l ++ pad l.length
def digest (l : List UInt8) : List UInt8 := (regs (padded l) ((padded l).length / 64)).flatMap bytes4

theorem wrap32 (n : Int) : IntKind.u32.wrap n = n % 4294967296 := IntKind.wrap_u32' n
theorem word_rule (a b c d : UInt8) : bits .or .u32 (bits .or .u32 (bits .or .u32 (IntKind.u32.wrap (IntKind.u32.wrap (a.toNat : Int) * 16777216)) (IntKind.u32.wrap (IntKind.u32.wrap (b.toNat : Int) * 65536)))
    (IntKind.u32.wrap (IntKind.u32.wrap (c.toNat : Int) * 256))) (IntKind.u32.wrap (d.toNat : Int)) = ((word a b c d).toNat : Int) := by
  have ha : a.toNat < 256 := a.toNat_lt
  have hb : b.toNat < 256 := b.toNat_lt
  have hc : c.toNat < 256 := c.toNat_lt
  have hd : d.toNat < 256 := d.toNat_lt
  rw [wrap32, wrap32, wrap32, wrap32, wrap32, wrap32, wrap32]
  rw [show ((a.toNat : Int) % 4294967296 * 16777216 % 4294967296) = ((a.toNat * 16777216 : Nat) : Int) by omega,
    show ((b.toNat : Int) % 4294967296 * 65536 % 4294967296) = ((b.toNat * 65536 : Nat) : Int) by omega,
    show ((c.toNat : Int) % 4294967296 * 256 % 4294967296) = ((c.toNat * 256 : Nat) : Int) by omega,
    show ((d.toNat : Int) % 4294967296) = ((d.toNat : Nat) : Int) by omega]
  rw [u32_or_nat _ _ (by omega) (by omega), nat_join 24 _ _ (by omega) (by omega)]
  rw [u32_or_nat _ _ (by omega) (by omega), nat_join 16 _ _ (by omega) (by omega)]
  rw [u32_or_nat _ _ (by omega) (by omega), nat_join 8 _ _ (by omega) (by omega)]
  unfold word
  rw [ofNat32 (by omega)]
theorem words_length (l : List UInt8) (off : Nat) : (words l off).length = 16 := by simp [words]
theorem words_take (l : List UInt8) (off k : Nat) (h : k < 16) : (words l off).take (k + 1) = (words l off).take k ++ [word l[off + 4 * k]! l[off + 4 * k + 1]! l[off + 4 * k + 2]! l[off + 4 * k + 3]!] := by
  rw [List.take_succ_eq_append_getElem (by rw [words_length]; exact h)]
  congr 2
  simp [words]
theorem words_cut (l : List UInt8) (off : Nat) (h : off + 64 ≤ l.length) : words ((l.drop off).take 64) 0 = words l off := by
  unfold words
  apply List.map_congr_left
  intro i hi
  have hi' : i < 16 := by simpa using hi
  have e : ∀ j, j < 64 → ((l.drop off).take 64)[0 + j]! = l[off + j]! := by
    intro j hj
    rw [Nat.zero_add, getElem!_pos _ j (by simp; omega), getElem!_pos l (off + j) (by omega)]
    simp
  rw [e (4 * i) (by omega), Nat.zero_add, Nat.add_assoc off, Nat.add_assoc off, Nat.add_assoc off, ← Nat.zero_add (4 * i + 1), e (4 * i + 1) (by omega), ← Nat.zero_add (4 * i + 2), e (4 * i + 2) (by omega), ← Nat.zero_add (4 * i + 3), e (4 * i + 3) (by omega)]
  simp
theorem flat_take (l : List UInt32) (k : Nat) (h : k < l.length) : (l.take (k + 1)).flatMap bytes4 = (l.take k).flatMap bytes4 ++ bytes4 l[k]! := by
  rw [List.take_succ_eq_append_getElem h, List.flatMap_append, getElem!_pos l k h]
  simp
theorem flat_length (l : List UInt32) : (l.flatMap bytes4).length = 4 * l.length := by
  induction l with
  | nil => rfl
  | cons x l ih => rw [List.flatMap_cons, List.length_append, ih]; show 4 + _ = _; simp; omega
theorem r_addw (x y : UInt32) : IntKind.u32.wrap ((x.toNat : Int) + (y.toNat : Int)) = ((add32 x y).toNat : Int) := by rw [wrap32]; exact r_add x y
theorem r_add4 (a b c d : UInt32) : ((a.toNat : Int) + (b.toNat : Int) + (c.toNat : Int) + (d.toNat : Int)) % 4294967296 = ((add32 (add32 (add32 a b) c) d).toNat : Int) := by
  have h1 := r_add a b
  have h2 := r_add (add32 a b) c
  have h3 := r_add (add32 (add32 a b) c) d
  omega
theorem bytes8_take (n p : Nat) (h : p < 8) : (bytes8 n).take (8 - p) = (bytes8 n).take (8 - (p + 1)) ++ [UInt8.ofNat (n / 2 ^ (8 * p) % 256)] := by
  match p, h with
  | 0, _ => simp [bytes8]
  | 1, _ => rfl
  | 2, _ => rfl
  | 3, _ => rfl
  | 4, _ => rfl
  | 5, _ => rfl
  | 6, _ => rfl
  | 7, _ => rfl
theorem pad_length (n : Nat) : (pad n).length = 9 + noughts n := by simp [pad, bytes8]; omega
theorem padded_whole (l : List UInt8) : (padded l).length % 64 = 0 := by
  unfold padded
  rw [List.length_append, pad_length, noughts]
  omega
theorem sched_length (k : Nat) (l : List UInt32) : (sched k l).length = l.length + k := by
  induction k with
  | zero => rfl
  | succ k ih => show (sched k l ++ [nextW (sched k l)]).length = _; rw [List.length_append, ih]; rfl
theorem turn_length (k w : UInt32) (s : List UInt32) : (turn k w s).length = 8 := rfl
theorem turns_length (ws s : List UInt32) (h : s.length = 8) (t : Nat) : (turns ws s t).length = 8 := by
  cases t with
  | zero => exact h
  | succ t => rfl
theorem behindBlock_length (r ws : List UInt32) (h : r.length = 8) : (behindBlock r ws).length = 8 := by
  unfold behindBlock
  rw [List.length_zipWith, turns_length _ _ h, h]
  rfl
theorem regs_length (all : List UInt8) (k : Nat) : (regs all k).length = 8 := by
  induction k with
  | zero => rfl
  | succ k ih => exact behindBlock_length _ _ ih
theorem shown_none : digest [] = [0xe3, 0xb0, 0xc4, 0x42, 0x98, 0xfc, 0x1c, 0x14, 0x9a, 0xfb, 0xf4, 0xc8, 0x99, 0x6f, 0xb9, 0x24, 0x27, 0xae, 0x41, 0xe4, 0x64, 0x9b, 0x93, 0x4c, 0xa4, 0x95, 0x99, 0x1b, 0x78, 0x52, 0xb8, 0x55] := by decide +kernel
theorem shown_abc : digest [97, 98, 99] = [186, 120, 22, 191, 143, 1, 207, 234, 65, 65, 64, 222, 93, 174, 34, 35, 176, 3, 97, 163, 150, 23, 122, 156, 180, 16, 255, 97, 242, 0, 21, 173] := by decide +kernel
end Go.Proofs.YthfiebdpoleeeaaDoor
