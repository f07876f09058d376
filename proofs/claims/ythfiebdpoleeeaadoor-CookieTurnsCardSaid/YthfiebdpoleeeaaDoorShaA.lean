/-
  Package sha's small functions: a turned word, the four mixtures, a word of four bytes, a word put behind, the first registers.
-/
import Derived.Test.YthfiebdpoleeeaaDoorRefD
namespace Go.Proofs.YthfiebdpoleeeaaDoor
open Go.RowKit
set_option linter.unusedVariables false

theorem or32_comm (x y : UInt32) : or32 x y = or32 y x := by unfold or32; exact UInt32.or_comm _ _
theorem turn_mask : ∀ n : Nat, n < 32 → 1 ≤ n → bits .and .u64 (IntKind.u64.wrap (-(n : Int))) 31 = ((32 - n : Nat) : Int) := by decide +kernel
theorem rotl_any (n : Nat) (h1 : 1 ≤ n) (h2 : n < 32) (x : UInt32) (w : World) :
    Calls Tryd.prog 90 #[.int .u32 (x.toNat : Int), .int .i64 (-(n : Int))] w fun e w' => e = .returned (.int .u32 ((rot32 n x).toNat : Int)) ∧ w = w' := by
  have hm := turn_mask n h2 h1
  have hr1 := r_shr (32 - (32 - n)) x
  have hr2 := r_shl (32 - n) x
  have hr3 := r_or (shl32 (32 - n) x) (shr32 (32 - (32 - n)) x)
  have H := Lib.hid (show or32 (shl32 (32 - n) x) (shr32 (32 - (32 - n)) x) = rot32 n x by rw [or32_comm, show 32 - (32 - n) = n by omega]; rfl)
  go_enter Tryd.func90, Tryd.ntmps90
  go_wp2_with fail
  go_ret
  exact ⟨by rw [← H.out]; rfl, rfl⟩
theorem sright_any (n : Nat) (h1 : 1 ≤ n) (h2 : n < 32) (x : UInt32) (w : World) :
    Calls Tryd.prog 89 #[.int .u32 (x.toNat : Int), .int .i64 (n : Int)] w fun e w' => e = .returned (.int .u32 ((rot32 n x).toNat : Int)) ∧ w = w' := by
  go_enter Tryd.func89, Tryd.ntmps89
  go_wp2_with (go_at_call 90; ((with_reducible refine (rotl_any _ h1 h2 _ _).mono ?_); rintro e w' ⟨rfl, rfl⟩))
  go_ret
  exact ⟨rfl, rfl⟩
theorem sright_z (z : Int) (h1 : 1 ≤ z) (h2 : z < 32) (x : UInt32) (w : World) :
    Calls Tryd.prog 89 #[.int .u32 (x.toNat : Int), .int .i64 z] w fun e w' => e = .returned (.int .u32 ((rot32 z.toNat x).toNat : Int)) ∧ w = w' := by
  obtain ⟨n, rfl⟩ : ∃ n : Nat, z = (n : Int) := ⟨z.toNat, by omega⟩
  exact sright_any n (by omega) (by omega) x w
theorem sg0_any (x : UInt32) (w : World) : Calls Tryd.prog 88 #[.int .u32 (x.toNat : Int)] w fun e w' => e = .returned (.int .u32 ((sg0 x).toNat : Int)) ∧ w = w' := by
  have rx := r_xor
  have rs : (x.toNat : Int) / 8 = ((shr32 3 x).toNat : Int) := r_shr 3 x
  go_enter Tryd.func88, Tryd.ntmps88
  go_wp2_with (go_at_call 89; ((with_reducible refine (sright_z _ (by omega) (by omega) _ _).mono ?_); rintro e w' ⟨rfl, rfl⟩))
  go_ret
  exact ⟨rfl, rfl⟩
theorem sg1_any (x : UInt32) (w : World) : Calls Tryd.prog 87 #[.int .u32 (x.toNat : Int)] w fun e w' => e = .returned (.int .u32 ((sg1 x).toNat : Int)) ∧ w = w' := by
  have rx := r_xor
  have rs : (x.toNat : Int) / 1024 = ((shr32 10 x).toNat : Int) := r_shr 10 x
  go_enter Tryd.func87, Tryd.ntmps87
  go_wp2_with (go_at_call 89; ((with_reducible refine (sright_z _ (by omega) (by omega) _ _).mono ?_); rintro e w' ⟨rfl, rfl⟩))
  go_ret
  exact ⟨rfl, rfl⟩
theorem lg0_any (x : UInt32) (w : World) : Calls Tryd.prog 84 #[.int .u32 (x.toNat : Int)] w fun e w' => e = .returned (.int .u32 ((lg0 x).toNat : Int)) ∧ w = w' := by
  have rx := r_xor
  go_enter Tryd.func84, Tryd.ntmps84
  go_wp2_with (go_at_call 89; ((with_reducible refine (sright_z _ (by omega) (by omega) _ _).mono ?_); rintro e w' ⟨rfl, rfl⟩))
  go_ret
  exact ⟨rfl, rfl⟩
theorem lg1_any (x : UInt32) (w : World) : Calls Tryd.prog 83 #[.int .u32 (x.toNat : Int)] w fun e w' => e = .returned (.int .u32 ((lg1 x).toNat : Int)) ∧ w = w' := by
  have rx := r_xor
  go_enter Tryd.func83, Tryd.ntmps83
  go_wp2_with (go_at_call 89; ((with_reducible refine (sright_z _ (by omega) (by omega) _ _).mono ?_); rintro e w' ⟨rfl, rfl⟩))
  go_ret
  exact ⟨rfl, rfl⟩

/-- Four bytes of a row, as a word. -/
theorem word_any (b off : Nat) (n cap : Nat) (hn : 4 ≤ n) (b0 b1 b2 b3 : UInt8) (w : World) (c0 : w.cell? ⟨b, off, none⟩ = some (.int .u8 (b0.toNat : Int))) (c1 : w.cell? ⟨b, off + 1, none⟩ = some (.int .u8 (b1.toNat : Int)))
    (c2 : w.cell? ⟨b, off + 2, none⟩ = some (.int .u8 (b2.toNat : Int))) (c3 : w.cell? ⟨b, off + 3, none⟩ = some (.int .u8 (b3.toNat : Int))) :
    Calls Tryd.prog 86 #[.slice (some ⟨b, off, none⟩) n cap] w fun e w' => e = .returned (.int .u32 ((word b0 b1 b2 b3).toNat : Int)) ∧ ∃ k, w' = w.drewN k := by
  have hw := word_rule b0 b1 b2 b3
  have z0 : (0 : Int) < (n : Int) := by omega
  have z1 : (1 : Int) < (n : Int) := by omega
  have z2 : (2 : Int) < (n : Int) := by omega
  have z3 : (3 : Int) < (n : Int) := by omega
  go_enter Tryd.func86, Tryd.ntmps86
  go_wp2_with fail
  go_quiet (fail)
  go_wp2_with fail
  go_ret
  exact ⟨by first | rfl | exact ret_u32 hw, _, rfl⟩
end Go.Proofs.YthfiebdpoleeeaaDoor
