/-
  The functions of package serial, and of the document's answer to it, that take numbers alone: what each returns, at every number.
-/
import Derived.Test.YtgahpfoejecihaaProg
import Derived.Test.YtgahpfoejecihaaMath
import Derived.WalkKit
import Derived.Lib.Hide
namespace Go.Proofs.Ytgahpfoejecihaa
open Go.RowKit
set_option linter.unusedVariables false

theorem ret_i64 {a b : Int} (h : a = b) : Ending.returned (.int .i64 a) = .returned (.int .i64 b) := by rw [h]
theorem ret_u32 {a b : Int} (h : a = b) : Ending.returned (.int .u32 a) = .returned (.int .u32 b) := by rw [h]
theorem ret_bool {a b : Bool} (h : a = b) : Ending.returned (.bool a) = .returned (.bool b) := by rw [h]

/-! ### Package serial -/
theorem dist_any (a b : Int) (ha : 0 ≤ a) (ha' : a ≤ 4294967295) (hb : 0 ≤ b) (hb' : b ≤ 4294967295) (w : World) :
    Calls Try.prog 14 #[.int .u32 a, .int .u32 b] w fun e w' => e = .returned (.int .i64 (dist32 a b)) ∧ w = w' := by
  go_enter Try.func14, Try.ntmps14
  go_wp2
  go_ret
  have h := wrap32_up a b
  have h1 := dist32_lo a b
  have h2 := dist32_hi a b
  exact ⟨ret_i64 (by rw [h]; exact IntWalk.wrap64_in _ (by omega)), rfl⟩
theorem dist16_any (a b : Int) (ha : 0 ≤ a) (ha' : a ≤ 65535) (hb : 0 ≤ b) (hb' : b ≤ 65535) (w : World) :
    Calls Try.prog 20 #[.int .u16 a, .int .u16 b] w fun e w' => e = .returned (.int .i64 (dist16 a b)) ∧ w = w' := by
  go_enter Try.func20, Try.ntmps20
  go_wp2
  go_ret
  refine ⟨ret_i64 ?_, rfl⟩
  simp [IntKind.wrap, IntKind.bits, IntKind.signed, dist16, wrap64]
  omega
theorem before_any (a b : Int) (ha : 0 ≤ a) (ha' : a ≤ 4294967295) (hb : 0 ≤ b) (hb' : b ≤ 4294967295) (w : World) :
    Calls Try.prog 12 #[.int .u32 a, .int .u32 b] w fun e w' => e = .returned (.bool (before32 a b)) ∧ w = w' := by
  go_enter Try.func12, Try.ntmps12
  go_wp2_with (go_at_call 14; refine (dist_any _ _ (by omega) (by omega) (by omega) (by omega) _).mono ?_; rintro e w' ⟨rfl, rfl⟩)
  go_ret
  exact ⟨rfl, rfl⟩
theorem before16_any (a b : Int) (ha : 0 ≤ a) (ha' : a ≤ 65535) (hb : 0 ≤ b) (hb' : b ≤ 65535) (w : World) :
    Calls Try.prog 18 #[.int .u16 a, .int .u16 b] w fun e w' => e = .returned (.bool (before16 a b)) ∧ w = w' := by
  go_enter Try.func18, Try.ntmps18
  go_wp2_with (go_at_call 20; refine (dist16_any _ _ (by omega) (by omega) (by omega) (by omega) _).mono ?_; rintro e w' ⟨rfl, rfl⟩)
  go_ret
  exact ⟨rfl, rfl⟩
theorem later_any (a b : Int) (ha : 0 ≤ a) (ha' : a ≤ 4294967295) (hb : 0 ≤ b) (hb' : b ≤ 4294967295) (w : World) :
    Calls Try.prog 16 #[.int .u32 a, .int .u32 b] w fun e w' => e = .returned (.int .u32 (later32 a b)) ∧ w = w' := by
  cases hc : before32 a b
  · have hq : later32 a b = a := by unfold later32; rw [if_neg]; intro h; rw [(before32_iff a b).2 h] at hc; cases hc
    go_enter Try.func16, Try.ntmps16
    go_wp2_with (go_at_call 12; refine (before_any _ _ (by omega) (by omega) (by omega) (by omega) _).mono ?_; rintro e w' ⟨rfl, rfl⟩)
    go_ret
    exact ⟨ret_u32 (by rw [hq]), rfl⟩
  · have hq : later32 a b = b := by unfold later32; rw [if_pos ((before32_iff a b).1 hc)]
    go_enter Try.func16, Try.ntmps16
    go_wp2_with (go_at_call 12; refine (before_any _ _ (by omega) (by omega) (by omega) (by omega) _).mono ?_; rintro e w' ⟨rfl, rfl⟩)
    go_ret
    exact ⟨ret_u32 (by rw [hq]), rfl⟩
theorem within_any (x f t : Int) (hx : 0 ≤ x) (hx' : x ≤ 4294967295) (hf : 0 ≤ f) (hf' : f ≤ 4294967295) (ht : 0 ≤ t) (ht' : t ≤ 4294967295) (w : World) :
    Calls Try.prog 25 #[.int .u32 x, .int .u32 f, .int .u32 t] w fun e w' => e = .returned (.bool (within32 x f t)) ∧ w = w' := by
  go_enter Try.func25, Try.ntmps25
  go_wp2
  go_ret
  exact ⟨rfl, rfl⟩
/-! ### The document's answer -/
theorem above_any (a b : Int) (ha : 0 ≤ a) (ha' : a ≤ 4294967295) (hb : 0 ≤ b) (hb' : b ≤ 4294967295) (w : World) :
    Calls Try.prog 30 #[.int .i64 a, .int .i64 b, .int .i64 4294967296] w fun e w' => e = .returned (.int .i64 (up32 a b)) ∧ w = w' := by
  go_enter Try.func30, Try.ntmps30
  go_wp2
  go_ret
  exact ⟨ret_i64 (by unfold up32; omega), rfl⟩
theorem above16_any (a b : Int) (ha : 0 ≤ a) (ha' : a ≤ 65535) (hb : 0 ≤ b) (hb' : b ≤ 65535) (w : World) :
    Calls Try.prog 30 #[.int .i64 a, .int .i64 b, .int .i64 65536] w fun e w' => e = .returned (.int .i64 (up16 a b)) ∧ w = w' := by
  go_enter Try.func30, Try.ntmps30
  go_wp2
  go_ret
  exact ⟨ret_i64 (by unfold up16; omega), rfl⟩
theorem rbefore_any (a b : Int) (ha : 0 ≤ a) (ha' : a ≤ 4294967295) (hb : 0 ≤ b) (hb' : b ≤ 4294967295) (w : World) :
    Calls Try.prog 13 #[.int .i64 a, .int .i64 b] w fun e w' => e = .returned (.bool (before32 a b)) ∧ w = w' := by
  rcases (by omega : up32 b a < 1 ∨ (1 ≤ up32 b a ∧ up32 b a < 2147483648) ∨ (1 ≤ up32 b a ∧ 2147483648 ≤ up32 b a)) with h1 | ⟨h1, h2⟩ | ⟨h1, h2⟩
  · have hq := Lib.hid (before32_lo a b h1)
    go_enter Try.func13, Try.ntmps13
    go_wp2_with (go_at_call 30; refine (above_any _ _ (by omega) (by omega) (by omega) (by omega) _).mono ?_; rintro e w' ⟨rfl, rfl⟩)
    go_ret
    rw [hq.out]
    exact ⟨ret_bool (by first | rfl | exact decide_eq_false (by omega)), rfl⟩
  · have hq := Lib.hid (before32_mid a b h1 h2)
    go_enter Try.func13, Try.ntmps13
    go_wp2_with (go_at_call 30; refine (above_any _ _ (by omega) (by omega) (by omega) (by omega) _).mono ?_; rintro e w' ⟨rfl, rfl⟩)
    go_ret
    rw [hq.out]
    exact ⟨ret_bool (by first | rfl | exact decide_eq_true h2), rfl⟩
  · have hq := Lib.hid (before32_hi a b h2)
    go_enter Try.func13, Try.ntmps13
    go_wp2_with (go_at_call 30; refine (above_any _ _ (by omega) (by omega) (by omega) (by omega) _).mono ?_; rintro e w' ⟨rfl, rfl⟩)
    go_ret
    rw [hq.out]
    exact ⟨ret_bool (by first | rfl | exact decide_eq_false (by omega)), rfl⟩
theorem rbefore16_any (a b : Int) (ha : 0 ≤ a) (ha' : a ≤ 65535) (hb : 0 ≤ b) (hb' : b ≤ 65535) (w : World) :
    Calls Try.prog 19 #[.int .i64 a, .int .i64 b] w fun e w' => e = .returned (.bool (before16 a b)) ∧ w = w' := by
  rcases (by omega : up16 b a < 1 ∨ (1 ≤ up16 b a ∧ up16 b a < 32768) ∨ (1 ≤ up16 b a ∧ 32768 ≤ up16 b a)) with h1 | ⟨h1, h2⟩ | ⟨h1, h2⟩
  · have hq := Lib.hid (before16_lo a b h1)
    go_enter Try.func19, Try.ntmps19
    go_wp2_with (go_at_call 30; refine (above16_any _ _ (by omega) (by omega) (by omega) (by omega) _).mono ?_; rintro e w' ⟨rfl, rfl⟩)
    go_ret
    rw [hq.out]
    exact ⟨ret_bool (by first | rfl | exact decide_eq_false (by omega)), rfl⟩
  · have hq := Lib.hid (before16_mid a b h1 h2)
    go_enter Try.func19, Try.ntmps19
    go_wp2_with (go_at_call 30; refine (above16_any _ _ (by omega) (by omega) (by omega) (by omega) _).mono ?_; rintro e w' ⟨rfl, rfl⟩)
    go_ret
    rw [hq.out]
    exact ⟨ret_bool (by first | rfl | exact decide_eq_true h2), rfl⟩
  · have hq := Lib.hid (before16_hi a b h2)
    go_enter Try.func19, Try.ntmps19
    go_wp2_with (go_at_call 30; refine (above16_any _ _ (by omega) (by omega) (by omega) (by omega) _).mono ?_; rintro e w' ⟨rfl, rfl⟩)
    go_ret
    rw [hq.out]
    exact ⟨ret_bool (by first | rfl | exact decide_eq_false (by omega)), rfl⟩
theorem rdist_any (a b : Int) (ha : 0 ≤ a) (ha' : a ≤ 4294967295) (hb : 0 ≤ b) (hb' : b ≤ 4294967295) (w : World) :
    Calls Try.prog 31 #[.int .i64 a, .int .i64 b, .int .i64 4294967296] w fun e w' => e = .returned (.int .i64 (dist32 a b)) ∧ w = w' := by
  have l0 : 0 ≤ up32 b a := by unfold up32; omega
  have l1 : up32 b a < 4294967296 := by unfold up32; omega
  by_cases h1 : 2147483648 ≤ up32 b a
  all_goals
    go_enter Try.func31, Try.ntmps31
    go_wp2_with (go_at_call 30; refine (above_any _ _ (by omega) (by omega) (by omega) (by omega) _).mono ?_; rintro e w' ⟨rfl, rfl⟩)
    go_ret
    exact ⟨ret_i64 (by unfold up32 at h1; unfold dist32 up32; omega), rfl⟩
theorem rdist16_any (a b : Int) (ha : 0 ≤ a) (ha' : a ≤ 65535) (hb : 0 ≤ b) (hb' : b ≤ 65535) (w : World) :
    Calls Try.prog 31 #[.int .i64 a, .int .i64 b, .int .i64 65536] w fun e w' => e = .returned (.int .i64 (dist16 a b)) ∧ w = w' := by
  have l0 : 0 ≤ up16 b a := by unfold up16; omega
  have l1 : up16 b a < 65536 := by unfold up16; omega
  by_cases h1 : 32768 ≤ up16 b a
  all_goals
    go_enter Try.func31, Try.ntmps31
    go_wp2_with (go_at_call 30; refine (above16_any _ _ (by omega) (by omega) (by omega) (by omega) _).mono ?_; rintro e w' ⟨rfl, rfl⟩)
    go_ret
    exact ⟨ret_i64 (by unfold up16 at h1; unfold dist16 up16; omega), rfl⟩
theorem rDist_any (a b : Int) (ha : 0 ≤ a) (ha' : a ≤ 4294967295) (hb : 0 ≤ b) (hb' : b ≤ 4294967295) (w : World) :
    Calls Try.prog 15 #[.int .i64 a, .int .i64 b] w fun e w' => e = .returned (.int .i64 (dist32 a b)) ∧ w = w' := by
  go_enter Try.func15, Try.ntmps15
  go_wp2_with (go_at_call 31; refine (rdist_any _ _ (by omega) (by omega) (by omega) (by omega) _).mono ?_; rintro e w' ⟨rfl, rfl⟩)
  go_ret
  exact ⟨rfl, rfl⟩
theorem rDist16_any (a b : Int) (ha : 0 ≤ a) (ha' : a ≤ 65535) (hb : 0 ≤ b) (hb' : b ≤ 65535) (w : World) :
    Calls Try.prog 21 #[.int .i64 a, .int .i64 b] w fun e w' => e = .returned (.int .i64 (dist16 a b)) ∧ w = w' := by
  go_enter Try.func21, Try.ntmps21
  go_wp2_with (go_at_call 31; refine (rdist16_any _ _ (by omega) (by omega) (by omega) (by omega) _).mono ?_; rintro e w' ⟨rfl, rfl⟩)
  go_ret
  exact ⟨rfl, rfl⟩
theorem rLater_any (a b : Int) (ha : 0 ≤ a) (ha' : a ≤ 4294967295) (hb : 0 ≤ b) (hb' : b ≤ 4294967295) (w : World) :
    Calls Try.prog 17 #[.int .i64 a, .int .i64 b] w fun e w' => e = .returned (.int .i64 (later32 a b)) ∧ w = w' := by
  cases hc : before32 a b
  · have hq : later32 a b = a := by unfold later32; rw [if_neg]; intro h; rw [(before32_iff a b).2 h] at hc; cases hc
    go_enter Try.func17, Try.ntmps17
    go_wp2_with (go_at_call 13; refine (rbefore_any _ _ (by omega) (by omega) (by omega) (by omega) _).mono ?_; rintro e w' ⟨rfl, rfl⟩)
    go_ret
    exact ⟨ret_i64 (by rw [hq]), rfl⟩
  · have hq : later32 a b = b := by unfold later32; rw [if_pos ((before32_iff a b).1 hc)]
    go_enter Try.func17, Try.ntmps17
    go_wp2_with (go_at_call 13; refine (rbefore_any _ _ (by omega) (by omega) (by omega) (by omega) _).mono ?_; rintro e w' ⟨rfl, rfl⟩)
    go_ret
    exact ⟨ret_i64 (by rw [hq]), rfl⟩
theorem rWithin_any (x f t : Int) (hx : 0 ≤ x) (hx' : x ≤ 4294967295) (hf : 0 ≤ f) (hf' : f ≤ 4294967295) (ht : 0 ≤ t) (ht' : t ≤ 4294967295) (w : World) :
    Calls Try.prog 26 #[.int .i64 x, .int .i64 f, .int .i64 t] w fun e w' => e = .returned (.bool (within32 x f t)) ∧ w = w' := by
  go_enter Try.func26, Try.ntmps26
  go_wp2_with fail
  refine (above_any _ _ (by omega) (by omega) (by omega) (by omega) _).mono ?_
  rintro e w' ⟨rfl, rfl⟩
  go_wp2_with fail
  refine (above_any _ _ (by omega) (by omega) (by omega) (by omega) _).mono ?_
  rintro e w' ⟨rfl, rfl⟩
  go_wp2
  go_ret
  exact ⟨rfl, rfl⟩
end Go.Proofs.Ytgahpfoejecihaa
