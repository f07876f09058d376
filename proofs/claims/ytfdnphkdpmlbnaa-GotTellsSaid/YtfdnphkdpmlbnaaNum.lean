/-
  How many bits numbers of each size have: contracts.
-/
import Derived.Lib.Hide
import Derived.Test.YtfdnphkdpmlbnaaWrite
import Derived.Deep.RegionHeld3
namespace Go.Proofs.Ytfdnphkdpmlbnaa
open Go.RowKit
set_option linter.unusedVariables false

set_option maxRecDepth 100000 in
theorem len_8 (w : World) : Calls Try.prog 87 #[.int .u32 255] w fun e w' => e = .returned (.int .i64 8) ∧ w' = w := by
  go_enter Try.func87, Try.ntmps87
  go_wp2
  go_ret
  exact ⟨congrArg Ending.returned (congrArg (Value.int IntKind.i64) (by decide +kernel)), rfl⟩
set_option maxRecDepth 100000 in
theorem len_16 (w : World) : Calls Try.prog 87 #[.int .u32 65535] w fun e w' => e = .returned (.int .i64 16) ∧ w' = w := by
  go_enter Try.func87, Try.ntmps87
  go_wp2
  go_ret
  exact ⟨congrArg Ending.returned (congrArg (Value.int IntKind.i64) (by decide +kernel)), rfl⟩
set_option maxRecDepth 100000 in
theorem len_32 (w : World) : Calls Try.prog 87 #[.int .u32 4294967295] w fun e w' => e = .returned (.int .i64 32) ∧ w' = w := by
  go_enter Try.func87, Try.ntmps87
  go_wp2
  go_ret
  exact ⟨congrArg Ending.returned (congrArg (Value.int IntKind.i64) (by decide +kernel)), rfl⟩
set_option maxRecDepth 100000 in
theorem bits_8 (w : World) : Calls Try.prog 69 #[] w fun e w' => e = .returned (.int .i64 8) ∧ w' = w := by
  have H := Lib.hid (fun W => len_8 W)
  have hs : IntKind.u8.signed = false := rfl
  have hx : bits BinOp.xor IntKind.u8 IntKind.u8.max 0 = 255 := by decide +kernel
  go_enter Try.func69, Try.ntmps69
  go_wp2_with (go_at_call 87; ((with_reducible refine (H.out _).mono ?_); rintro e w1 ⟨rfl, rfl⟩))
  go_ret
  exact ⟨rfl, rfl⟩
set_option maxRecDepth 100000 in
theorem bits_16 (w : World) : Calls Try.prog 71 #[] w fun e w' => e = .returned (.int .i64 16) ∧ w' = w := by
  have H := Lib.hid (fun W => len_16 W)
  have hs : IntKind.u16.signed = false := rfl
  have hx : bits BinOp.xor IntKind.u16 IntKind.u16.max 0 = 65535 := by decide +kernel
  go_enter Try.func71, Try.ntmps71
  go_wp2_with (go_at_call 87; ((with_reducible refine (H.out _).mono ?_); rintro e w1 ⟨rfl, rfl⟩))
  go_ret
  exact ⟨rfl, rfl⟩
set_option maxRecDepth 100000 in
theorem bits_32 (w : World) : Calls Try.prog 92 #[] w fun e w' => e = .returned (.int .i64 32) ∧ w' = w := by
  have H := Lib.hid (fun W => len_32 W)
  have hs : IntKind.u32.signed = false := rfl
  have hx : bits BinOp.xor IntKind.u32 IntKind.u32.max 0 = 4294967295 := by decide +kernel
  go_enter Try.func92, Try.ntmps92
  go_wp2_with (go_at_call 87; ((with_reducible refine (H.out _).mono ?_); rintro e w1 ⟨rfl, rfl⟩))
  go_ret
  exact ⟨rfl, rfl⟩

end Go.Proofs.Ytfdnphkdpmlbnaa
