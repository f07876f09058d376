/-
  The chapter's examples of layer 3: the program answers them as the document says.
-/
import Derived.Test.YtgmlkgageblfgaaDoorSpec
namespace Go.Proofs.YtgmlkgageblfgaaDoor
open Go.RowKit
set_option linter.unusedVariables false

theorem eqB_true {a b : ByteArray} (h : a = b) : (a.toList == b.toList) = true := by subst h; simp
theorem eqB_false {a b : ByteArray} (h : a ≠ b) : (a.toList == b.toList) = false := by
  rw [ByteArray.toList_eq, ByteArray.toList_eq]
  exact beq_eq_false_iff_ne.2 fun e => h (ByteArray.ext (Array.toList_inj.1 e))
/-- The digests of nothing, and of the three bytes 97, 98, 99. -/
def noneDigest : ByteArray := ⟨#[0xe3, 0xb0, 0xc4, 0x42, 0x98, 0xfc, 0x1c, 0x14, 0x9a, 0xfb, 0xf4, 0xc8, 0x99, 0x6f, 0xb9, 0x24, 0x27, 0xae, 0x41, 0xe4, 0x64, 0x9b, 0x93, 0x4c, 0xa4, 0x95, 0x99, 0x1b, 0x78, 0x52, 0xb8, 0x55]⟩
def abcDigest : ByteArray := ⟨#[0xba, 0x78, 0x16, 0xbf, 0x8f, 0x01, 0xcf, 0xea, 0x41, 0x41, 0x40, 0xde, 0x5d, 0xae, 0x22, 0x23, 0xb0, 0x03, 0x61, 0xa3, 0x96, 0x17, 0x7a, 0x9c, 0xb4, 0x10, 0xff, 0x61, 0xf2, 0x00, 0x15, 0xad]⟩
theorem digest_none : digestOf ⟨#[]⟩ = noneDigest := by
  unfold digestOf noneDigest
  rw [show (⟨#[]⟩ : ByteArray).data.toList = [] from rfl, shown_none]
theorem digest_abc : digestOf ⟨#[97, 98, 99]⟩ = abcDigest := by
  unfold digestOf abcDigest
  rw [show (⟨#[97, 98, 99]⟩ : ByteArray).data.toList = [97, 98, 99] from rfl, shown_abc]
theorem sum_none (w : World) (hK : Kub w) : Calls Tryd.prog 9 #[.string ⟨#[]⟩] w fun e w' => e = .returned (.string noneDigest) ∧ Below w.heap.size w w' := by
  have h := sum_any ⟨#[]⟩ (by decide) w hK
  rw [digest_none] at h
  exact h
theorem sum_abc (w : World) (hK : Kub w) : Calls Tryd.prog 9 #[.string ⟨#[97, 98, 99]⟩] w fun e w' => e = .returned (.string abcDigest) ∧ Below w.heap.size w w' := by
  have h := sum_any ⟨#[97, 98, 99]⟩ (by decide) w hK
  rw [digest_abc] at h
  exact h
set_option maxHeartbeats 1000000 in
set_option maxRecDepth 100000 in
theorem shown_any (w : World) (hK : Kub w) : Calls Tryd.prog 8 #[] w fun e w' => e = .returned (.bool true) ∧ Below w.heap.size w w' := by
  have HB := Lib.hid (Below.refl w.heap.size w)
  have HK := Lib.hid hK
  clear hK
  have h1 : noneDigest.toList = [227, 176, 196, 66, 152, 252, 28, 20, 154, 251, 244, 200, 153, 111, 185, 36, 39, 174, 65, 228, 100, 155, 147, 76, 164, 149, 153, 27, 120, 82, 184, 85] := by rw [ByteArray.toList_eq]; rfl
  have h2 : abcDigest.toList = [186, 120, 22, 191, 143, 1, 207, 234, 65, 65, 64, 222, 93, 174, 34, 35, 176, 3, 97, 163, 150, 23, 122, 156, 180, 16, 255, 97, 242, 0, 21, 173] := by rw [ByteArray.toList_eq]; rfl
  go_enter Tryd.func8, Tryd.ntmps8
  go_wp2_with (first
    | (go_at_call 9; ((with_reducible refine (sum_none _ (HK.out.later HB.out)).mono ?_); rintro e w1 ⟨rfl, hb1⟩); replace HB := Lib.hid (HB.out.trans (hb1.mono HB.out.size)); clear hb1)
    | (go_at_call 9; ((with_reducible refine (sum_abc _ (HK.out.later HB.out)).mono ?_); rintro e w1 ⟨rfl, hb1⟩); replace HB := Lib.hid (HB.out.trans (hb1.mono HB.out.size)); clear hb1))
  go_ret
  exact ⟨rfl, HB.out⟩
end Go.Proofs.YtgmlkgageblfgaaDoor
