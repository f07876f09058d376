/-
  Package sha: the pad.
-/
import Derived.Test.YthfiebdpoleeeaaDoorShaB
import Derived.Test.YthfiebdpoleeeaaDoorShelf
namespace Go.Proofs.YthfiebdpoleeeaaDoor
open Go.RowKit
set_option linter.unusedVariables false

theorem repeat_nought (k : Nat) : Lib.repeatL [0] k = List.replicate k (0 : UInt8) := by
  induction k with
  | zero => rfl
  | succ k ih => show [0] ++ Lib.repeatL [0] k = _; rw [ih]; rfl
theorem two_words (n : Nat) (h : n ≤ 1099511627776) : ∃ x y : UInt32, bytes8 (8 * n) = bytes4 x ++ bytes4 y ∧ ((8 * n / 4294967296 : Nat) : Int) = (x.toNat : Int) ∧ ((8 * n % 4294967296 : Nat) : Int) = (y.toNat : Int) := by
  refine ⟨UInt32.ofNat (8 * n / 4294967296), UInt32.ofNat (8 * n % 4294967296), ?_, ?_, ?_⟩
  · unfold bytes4 bytes8
    rw [ofNat32 (by omega), ofNat32 (by omega)]
    simp only [List.cons_append, List.nil_append, List.cons.injEq, and_true]
    refine ⟨?_, ?_, ?_, ?_, ?_, ?_, ?_, ?_⟩ <;> first | exact congrArg UInt8.ofNat (by omega) | trivial
  · rw [ofNat32 (by omega)]
  · rw [ofNat32 (by omega)]
theorem pad_neg (n : Int) (h : n < 0) (w : World) : Calls Tryd.prog 74 #[.int .i64 n] w fun e w' => e = .returned (.string ⟨#[]⟩) ∧ Below w.heap.size w w' := by
  go_enter Tryd.func74, Tryd.ntmps74
  go_wp2_with fail
  go_ret
  exact ⟨rfl, Below.refl _ _⟩
set_option maxHeartbeats 1000000 in
theorem pad_any (n : Nat) (h : n ≤ 1099511627776) (w : World) : Calls Tryd.prog 74 #[.int .i64 (n : Int)] w fun e w' => e = .returned (.string ⟨(pad n).toArray⟩) ∧ Below w.heap.size w w' := by
  obtain ⟨x, y, hxy, hx, hy⟩ := two_words n h
  have hno : ((119 : Int) - (n : Int) % 64) % 64 = ((noughts n : Nat) : Int) := by unfold noughts; omega
  have hn63 : noughts n ≤ 63 := by unfold noughts; omega
  have hnn : noughts n = noughts n := rfl
  have HXY := Lib.hid hxy
  have hx1 : (n : Int) * 8 / 4294967296 = (x.toNat : Int) := by omega
  have hy1 : (n : Int) * 8 % 4294967296 = (y.toNat : Int) := by omega
  have hxl := lt32 x
  clear hxy hx hy hnn
  go_enter Tryd.func74, Tryd.ntmps74
  go_wp2_with fail
  refine (Tryd.strings_Repeat ⟨#[0]⟩ (noughts n) w (by omega) (by show 1 * noughts n ≤ _; omega)).mono ?_
  rintro e w1 ⟨rfl, hb1⟩
  have hrp : (⟨(Lib.repeatL (⟨#[0]⟩ : ByteArray).data.toList (noughts n)).toArray⟩ : ByteArray) = ⟨Array.replicate (noughts n) (0 : UInt8)⟩ := by
    rw [show (⟨#[0]⟩ : ByteArray).data.toList = [0] from rfl, repeat_nought]
    simp
  rw [hrp]
  clear hrp
  obtain ⟨z, hz⟩ : ∃ z : ByteArray, z = (⟨#[128]⟩ : ByteArray) ++ ⟨Array.replicate (noughts n) (0 : UInt8)⟩ := ⟨_, rfl⟩
  have hzl : z.data.toList = 128 :: List.replicate (noughts n) 0 := by rw [hz]; simp
  have hzs : z.size ≤ 64 := by
    have e : z.size = z.data.toList.length := by simp
    rw [e, hzl]
    simp
    omega
  have HB1 := Lib.hid hb1
  have hs1 := hb1.size
  have hcv := bytes_of w1 z
  have HO1 := Lib.hid (bytes_own (w := w1) (B := w.heap.size) hs1 z (by unfold maxLen; omega))
  have HB2 := Lib.hid (bytes_below HB1.out hs1 5 z)
  have hs2 := HB2.out.size
  have HZL := Lib.hid hzl
  clear hb1 hzl
  generalize grownCap w1 z.size 0 5 = cp at *
  generalize Lib.bytesWorld w1 5 z = w2 at *
  rw [show Value.string z = Value.string ((⟨#[128]⟩ : ByteArray) ++ ⟨Array.replicate (noughts n) (0 : UInt8)⟩) by rw [hz]] at hcv
  have hzl2 : z.data.toList.length = z.size := by simp
  have HZS := Lib.hid hzl2
  clear hz hzl2
  go_wp2_with fail
  refine (aword_any x _ _ w.heap.size w2 HO1.out hs2 (by have := HZS.out; omega)).mono ?_
  rintro e w3 ⟨v3, rfl, ho3, hg3, hb3⟩
  have HO3 := Lib.hid ho3
  have HB3 := Lib.hid (HB2.out.trans hb3)
  have hs3 := HB3.out.size
  clear ho3 hg3 hb3
  go_wp2_with fail
  refine (aword_any y _ _ w.heap.size w3 HO3.out hs3 (by have := HZS.out; simp [bytes4]; omega)).mono ?_
  rintro e w4 ⟨v4, rfl, ho4, hg4, hb4⟩
  have ht := ho4.text
  have hp : (⟨(z.data.toList ++ bytes4 x ++ bytes4 y).toArray⟩ : ByteArray) = ⟨(pad n).toArray⟩ := by
    rw [HZL.out, List.append_assoc, ← HXY.out]
    rfl
  rw [hp] at ht
  have HB4 := Lib.hid (HB3.out.trans hb4)
  clear hp ho4 hg4 hb4
  go_wp2_with fail
  go_ret
  exact ⟨rfl, HB4.out⟩
end Go.Proofs.YthfiebdpoleeeaaDoor
