/-
  The chapter's examples of layer 2: the program answers them as the document says.
-/
import Derived.Test.YtfancmomihdkbaaPlain
namespace Go.Proofs.Ytfancmomihdkbaa
open Go.RowKit
set_option linter.unusedVariables false

theorem shown_sum : sumOf ⟨#[49, 50, 51, 52, 53, 54, 55, 56, 57]⟩ = 3808858755 := by unfold sumOf; decide +kernel
theorem shown_none : sumOf ⟨#[]⟩ = 0 := by unfold sumOf; decide +kernel
theorem sum_one (w : World) : Calls Try.prog 12 #[.string ⟨#[49, 50, 51, 52, 53, 54, 55, 56, 57]⟩] w fun e w' => e = .returned (.int .u32 3808858755) ∧ Below w.heap.size w w' := by
  have h := sum_any ⟨#[49, 50, 51, 52, 53, 54, 55, 56, 57]⟩ (by decide) w
  rw [shown_sum] at h
  exact h
theorem sum_none (w : World) : Calls Try.prog 12 #[.string ⟨#[]⟩] w fun e w' => e = .returned (.int .u32 0) ∧ Below w.heap.size w w' := by
  have h := sum_any ⟨#[]⟩ (by decide) w
  rw [shown_none] at h
  exact h
/-- Twelve noughts. -/
def zeros : ByteArray := ⟨#[0, 0, 0, 0, 0, 0, 0, 0, 0, 0, 0, 0]⟩
def sealedZeros : ByteArray := sealed zeros
theorem seal_zeros (w : World) : Calls Try.prog 14 #[.string ⟨#[0, 0, 0, 0, 0, 0, 0, 0, 0, 0, 0, 0]⟩] w fun e w' => e = .returned (.tuple #[.string sealedZeros, .int .i64 0]) ∧ Below w.heap.size w w' :=
  seal_any zeros (by decide) (by decide) w
theorem check_zeros (w : World) : Calls Try.prog 16 #[.string sealedZeros] w fun e w' => e = .returned (.int .i64 0) ∧ Below w.heap.size w w' := by
  have h := check_any sealedZeros (by unfold sealedZeros; rw [sealed_size zeros (by decide)]; decide) w
  unfold sealedZeros at h
  rw [checked_sealed zeros (by decide)] at h
  exact h
theorem check_eleven (w : World) : Calls Try.prog 16 #[.string ⟨#[49, 50, 51, 52, 53, 54, 55, 56, 57, 48, 49]⟩] w fun e w' => e = .returned (.int .i64 3) ∧ Below w.heap.size w w' := by
  have h := check_any ⟨#[49, 50, 51, 52, 53, 54, 55, 56, 57, 48, 49]⟩ (by decide) w
  rw [show checked ⟨#[49, 50, 51, 52, 53, 54, 55, 56, 57, 48, 49]⟩ = 3 by unfold checked; rw [if_pos (by decide)]] at h
  exact h
set_option maxHeartbeats 1000000 in
set_option maxRecDepth 100000 in
theorem shown_any (w : World) : Calls Try.prog 9 #[] w fun e w' => e = .returned (.bool true) ∧ Below w.heap.size w w' := by
  have HB := Lib.hid (Below.refl w.heap.size w)
  go_enter Try.func9, Try.ntmps9
  go_wp2_with (first
    | (go_at_call 14; refine (seal_zeros _).mono ?_; rintro e w1 ⟨rfl, hb1⟩; replace HB := Lib.hid (HB.out.trans (hb1.mono HB.out.size)); clear hb1)
    | (go_at_call 12; ((with_reducible refine (sum_one _).mono ?_); rintro e w1 ⟨rfl, hb1⟩); replace HB := Lib.hid (HB.out.trans (hb1.mono HB.out.size)); clear hb1)
    | (go_at_call 12; ((with_reducible refine (sum_none _).mono ?_); rintro e w1 ⟨rfl, hb1⟩); replace HB := Lib.hid (HB.out.trans (hb1.mono HB.out.size)); clear hb1)
    | (go_at_call 16; ((with_reducible refine (check_zeros _).mono ?_); rintro e w1 ⟨rfl, hb1⟩); replace HB := Lib.hid (HB.out.trans (hb1.mono HB.out.size)); clear hb1)
    | (go_at_call 16; ((with_reducible refine (check_eleven _).mono ?_); rintro e w1 ⟨rfl, hb1⟩); replace HB := Lib.hid (HB.out.trans (hb1.mono HB.out.size)); clear hb1))
  go_ret
  exact ⟨rfl, HB.out⟩
end Go.Proofs.Ytfancmomihdkbaa
