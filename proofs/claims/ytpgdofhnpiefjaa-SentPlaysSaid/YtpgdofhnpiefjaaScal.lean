/-
  The functions of package serial, and of the document's answer to it, that take numbers alone: what each returns, at every number.
-/
import Derived.Test.YtpgdofhnpiefjaaProg
import Derived.Test.YtpgdofhnpiefjaaSm
import Derived.WalkKit
import Derived.Lib.Hide
namespace Go.Proofs.Ytpgdofhnpiefjaa
open Go.RowKit
set_option linter.unusedVariables false

theorem ret_i64 {a b : Int} (h : a = b) : Ending.returned (.int .i64 a) = .returned (.int .i64 b) := by rw [h]
theorem ret_u32 {a b : Int} (h : a = b) : Ending.returned (.int .u32 a) = .returned (.int .u32 b) := by rw [h]
theorem ret_bool {a b : Bool} (h : a = b) : Ending.returned (.bool a) = .returned (.bool b) := by rw [h]

/-! ### Package serial -/
theorem dist_any (a b : Int) (ha : 0 ≤ a) (ha' : a ≤ 4294967295) (hb : 0 ≤ b) (hb' : b ≤ 4294967295) (w : World) :
    Calls Try.prog 20 #[.int .u32 a, .int .u32 b] w fun e w' => e = .returned (.int .i64 (dist32 a b)) ∧ w = w' := by
  go_enter Try.func20, Try.ntmps20
  go_wp2
  go_ret
  have h := wrap32_up a b
  have h1 := dist32_lo a b
  have h2 := dist32_hi a b
  exact ⟨ret_i64 (by rw [h]; exact IntWalk.wrap64_in _ (by omega)), rfl⟩
theorem within_any (x f t : Int) (hx : 0 ≤ x) (hx' : x ≤ 4294967295) (hf : 0 ≤ f) (hf' : f ≤ 4294967295) (ht : 0 ≤ t) (ht' : t ≤ 4294967295) (w : World) :
    Calls Try.prog 28 #[.int .u32 x, .int .u32 f, .int .u32 t] w fun e w' => e = .returned (.bool (within32 x f t)) ∧ w = w' := by
  go_enter Try.func28, Try.ntmps28
  go_wp2
  go_ret
  exact ⟨rfl, rfl⟩
end Go.Proofs.Ytpgdofhnpiefjaa
