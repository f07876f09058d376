/-
  Of two unlike numbers of 32 bits one is ahead of the other one, unless they are 2^31 apart; distances turn round with their numbers, and lead from the one to the other one; likewise with 16 bits: at any numbers.
-/
import Derived.Test.YtgahpfoejecihaaLift
import Derived.Test.YtgahpfoejecihaaScal
import Derived.Test.YtgahpfoejecihaaShown
namespace Go.Proofs.Ytgahpfoejecihaa.serialTurns
open Go.ChangeShapes Go.WideShapes Go.ChangeAt Go.RowKit
set_option linter.unusedVariables false

theorem same_b (b : Int) : before32 b b = false := by unfold before32 dist32; simp
theorem up_mod (b : Int) (hb : 0 ≤ b) (hb' : b ≤ 4294967295) : (b % 4294967296 == b) = true := by rw [beq_iff_eq]; omega
set_option maxHeartbeats 2000000 in
set_option maxRecDepth 100000 in
theorem walk_same (b : Int) (hb : 0 ≤ b) (hb' : b ≤ 4294967295) (c : Int) (hc : 0 ≤ c) (hc' : c ≤ 65535) (d : Int) (hd : 0 ≤ d) (hd' : d ≤ 65535) (w : World) :
    Calls Try.prog 5 #[.int .u32 b, .int .u32 b, .int .u16 c, .int .u16 d] w fun e w' => e = .returned (.bool true) ∧ Below w.heap.size w w' := by
  have k0 := dist16_lo c d
  have k1 := dist16_hi c d
  have k2 : before16 c d = decide (0 < dist16 c d) := rfl
  have k3 : (IntKind.u16.wrap (c + IntKind.u16.wrap (dist16 c d)) == d) = true := by
    rw [beq_iff_eq]; simp [IntKind.wrap, IntKind.bits, IntKind.signed, dist16]; omega
  have k4 : decide (dist16 c d < 32768) = true := decide_eq_true (by omega)
  have k5 : decide (-32768 ≤ dist16 c d) = true := decide_eq_true (by omega)
  have e1 : dist32 b b = 0 := by unfold dist32; simp
  have e2 := same_b b
  have e3 : later32 b b = b := by unfold later32; split <;> rfl
  have e4 := up_mod b hb hb'
  go_enter Try.func5, Try.ntmps5
  go_wp2_with (first
    | (go_at_call 11; refine (shown_any _).mono ?_; rintro e w1 ⟨rfl, hb⟩; have HB := Lib.hid hb; clear hb)
    | (go_at_call 12; refine (before_any _ _ (by omega) (by omega) (by omega) (by omega) _).mono ?_; rintro e w' ⟨rfl, rfl⟩)
    | (go_at_call 14; refine (dist_any _ _ (by omega) (by omega) (by omega) (by omega) _).mono ?_; rintro e w' ⟨rfl, rfl⟩)
    | (go_at_call 16; refine (later_any _ _ (by omega) (by omega) (by omega) (by omega) _).mono ?_; rintro e w' ⟨rfl, rfl⟩)
    | (go_at_call 18; refine (before16_any _ _ (by omega) (by omega) (by omega) (by omega) _).mono ?_; rintro e w' ⟨rfl, rfl⟩)
    | (go_at_call 20; refine (dist16_any _ _ (by omega) (by omega) (by omega) (by omega) _).mono ?_; rintro e w' ⟨rfl, rfl⟩))
  all_goals (go_ret; exact ⟨rfl, HB.out⟩)

set_option maxHeartbeats 2000000 in
set_option maxRecDepth 100000 in
theorem walk_far (a : Int) (ha : 0 ≤ a) (ha' : a ≤ 4294967295) (b : Int) (hb : 0 ≤ b) (hb' : b ≤ 4294967295) (c : Int) (hc : 0 ≤ c) (hc' : c ≤ 65535) (d : Int) (hd : 0 ≤ d) (hd' : d ≤ 65535) (hn : dist32 a b = -2147483648) (w : World) :
    Calls Try.prog 5 #[.int .u32 a, .int .u32 b, .int .u16 c, .int .u16 d] w fun e w' => e = .returned (.bool true) ∧ Below w.heap.size w w' := by
  have k0 := dist16_lo c d
  have k1 := dist16_hi c d
  have k2 : before16 c d = decide (0 < dist16 c d) := rfl
  have k3 : (IntKind.u16.wrap (c + IntKind.u16.wrap (dist16 c d)) == d) = true := by
    rw [beq_iff_eq]; simp [IntKind.wrap, IntKind.bits, IntKind.signed, dist16]; omega
  have k4 : decide (dist16 c d < 32768) = true := decide_eq_true (by omega)
  have k5 : decide (-32768 ≤ dist16 c d) = true := decide_eq_true (by omega)
  have e0 : (a == b) = false := by rw [beq_eq_false_iff_ne]; rintro rfl; unfold dist32 at hn; simp at hn
  have e1 : dist32 b a = -2147483648 := by unfold dist32 at *; omega
  have e2 : before32 a b = false := by unfold before32; rw [hn]; rfl
  have e3 : before32 b a = false := by unfold before32; rw [e1]; rfl
  have e4 : later32 a b = a := by unfold later32; rw [hn]; rfl
  have e5 := same_b a
  have e6 : ((a + 2147483648) % 4294967296 == b) = true := by rw [beq_iff_eq]; unfold dist32 at hn; omega
  go_enter Try.func5, Try.ntmps5
  go_wp2_with (first
    | (go_at_call 11; refine (shown_any _).mono ?_; rintro e w1 ⟨rfl, hb⟩; have HB := Lib.hid hb; clear hb)
    | (go_at_call 12; refine (before_any _ _ (by omega) (by omega) (by omega) (by omega) _).mono ?_; rintro e w' ⟨rfl, rfl⟩)
    | (go_at_call 14; refine (dist_any _ _ (by omega) (by omega) (by omega) (by omega) _).mono ?_; rintro e w' ⟨rfl, rfl⟩)
    | (go_at_call 16; refine (later_any _ _ (by omega) (by omega) (by omega) (by omega) _).mono ?_; rintro e w' ⟨rfl, rfl⟩)
    | (go_at_call 18; refine (before16_any _ _ (by omega) (by omega) (by omega) (by omega) _).mono ?_; rintro e w' ⟨rfl, rfl⟩)
    | (go_at_call 20; refine (dist16_any _ _ (by omega) (by omega) (by omega) (by omega) _).mono ?_; rintro e w' ⟨rfl, rfl⟩))
  all_goals (go_ret; exact ⟨rfl, HB.out⟩)

set_option maxHeartbeats 2000000 in
set_option maxRecDepth 100000 in
theorem walk_ahead (a : Int) (ha : 0 ≤ a) (ha' : a ≤ 4294967295) (b : Int) (hb : 0 ≤ b) (hb' : b ≤ 4294967295) (c : Int) (hc : 0 ≤ c) (hc' : c ≤ 65535) (d : Int) (hd : 0 ≤ d) (hd' : d ≤ 65535) (hn : 0 < dist32 a b) (w : World) :
    Calls Try.prog 5 #[.int .u32 a, .int .u32 b, .int .u16 c, .int .u16 d] w fun e w' => e = .returned (.bool true) ∧ Below w.heap.size w w' := by
  have k0 := dist16_lo c d
  have k1 := dist16_hi c d
  have k2 : before16 c d = decide (0 < dist16 c d) := rfl
  have k3 : (IntKind.u16.wrap (c + IntKind.u16.wrap (dist16 c d)) == d) = true := by
    rw [beq_iff_eq]; simp [IntKind.wrap, IntKind.bits, IntKind.signed, dist16]; omega
  have k4 : decide (dist16 c d < 32768) = true := decide_eq_true (by omega)
  have k5 : decide (-32768 ≤ dist16 c d) = true := decide_eq_true (by omega)
  have n0 := dist32_lo a b
  have n1 := dist32_hi a b
  have e0 : (a == b) = false := by rw [beq_eq_false_iff_ne]; rintro rfl; unfold dist32 at hn; simp at hn
  have e00 : (b == a) = false := by rw [beq_eq_false_iff_ne]; rintro rfl; unfold dist32 at hn; simp at hn
  have e1 : dist32 b a = -dist32 a b := by unfold dist32 at *; omega
  have e2 : before32 a b = true := by unfold before32; simp; omega
  have e3 : before32 b a = false := by unfold before32; rw [e1]; simp; omega
  have e4 : later32 a b = b := by unfold later32; rw [if_pos hn]
  have e5 := same_b b
  have e6 : ((a + dist32 a b) % 4294967296 == b) = true := by rw [beq_iff_eq]; unfold dist32; omega
  have e9 : decide (0 < dist32 a b) = true := decide_eq_true hn
  have e10 : decide (dist32 a b < 0) = false := decide_eq_false (by omega)
  have e7 : (dist32 a b == 0) = false := by rw [beq_eq_false_iff_ne]; omega
  have e8 : (dist32 a b == -2147483648) = false := by rw [beq_eq_false_iff_ne]; omega
  go_enter Try.func5, Try.ntmps5
  go_wp2_with (first
    | (go_at_call 11; refine (shown_any _).mono ?_; rintro e w1 ⟨rfl, hb⟩; have HB := Lib.hid hb; clear hb)
    | (go_at_call 12; refine (before_any _ _ (by omega) (by omega) (by omega) (by omega) _).mono ?_; rintro e w' ⟨rfl, rfl⟩)
    | (go_at_call 14; refine (dist_any _ _ (by omega) (by omega) (by omega) (by omega) _).mono ?_; rintro e w' ⟨rfl, rfl⟩)
    | (go_at_call 16; refine (later_any _ _ (by omega) (by omega) (by omega) (by omega) _).mono ?_; rintro e w' ⟨rfl, rfl⟩)
    | (go_at_call 18; refine (before16_any _ _ (by omega) (by omega) (by omega) (by omega) _).mono ?_; rintro e w' ⟨rfl, rfl⟩)
    | (go_at_call 20; refine (dist16_any _ _ (by omega) (by omega) (by omega) (by omega) _).mono ?_; rintro e w' ⟨rfl, rfl⟩))
  all_goals (go_ret; exact ⟨rfl, HB.out⟩)

set_option maxHeartbeats 2000000 in
set_option maxRecDepth 100000 in
theorem walk_behind (a : Int) (ha : 0 ≤ a) (ha' : a ≤ 4294967295) (b : Int) (hb : 0 ≤ b) (hb' : b ≤ 4294967295) (c : Int) (hc : 0 ≤ c) (hc' : c ≤ 65535) (d : Int) (hd : 0 ≤ d) (hd' : d ≤ 65535) (hn : dist32 a b < 0) (hm : -2147483648 < dist32 a b) (w : World) :
    Calls Try.prog 5 #[.int .u32 a, .int .u32 b, .int .u16 c, .int .u16 d] w fun e w' => e = .returned (.bool true) ∧ Below w.heap.size w w' := by
  have k0 := dist16_lo c d
  have k1 := dist16_hi c d
  have k2 : before16 c d = decide (0 < dist16 c d) := rfl
  have k3 : (IntKind.u16.wrap (c + IntKind.u16.wrap (dist16 c d)) == d) = true := by
    rw [beq_iff_eq]; simp [IntKind.wrap, IntKind.bits, IntKind.signed, dist16]; omega
  have k4 : decide (dist16 c d < 32768) = true := decide_eq_true (by omega)
  have k5 : decide (-32768 ≤ dist16 c d) = true := decide_eq_true (by omega)
  have n0 := dist32_lo a b
  have n1 := dist32_hi a b
  have e0 : (a == b) = false := by rw [beq_eq_false_iff_ne]; rintro rfl; unfold dist32 at hn; simp at hn
  have e00 : (b == a) = false := by rw [beq_eq_false_iff_ne]; rintro rfl; unfold dist32 at hn; simp at hn
  have e1 : dist32 b a = -dist32 a b := by unfold dist32 at *; omega
  have e2 : before32 a b = false := by unfold before32; simp; omega
  have e3 : before32 b a = true := by unfold before32; rw [e1]; simp; omega
  have e4 : later32 a b = a := by unfold later32; rw [if_neg (by omega)]
  have e5 := same_b a
  have e6 : ((a + dist32 a b) % 4294967296 == b) = true := by rw [beq_iff_eq]; unfold dist32; omega
  have e9 : decide (0 < dist32 a b) = false := decide_eq_false (by omega)
  have e10 : decide (dist32 a b < 0) = true := decide_eq_true hn
  have e7 : (dist32 a b == 0) = false := by rw [beq_eq_false_iff_ne]; omega
  have e8 : (dist32 a b == -2147483648) = false := by rw [beq_eq_false_iff_ne]; omega
  go_enter Try.func5, Try.ntmps5
  go_wp2_with (first
    | (go_at_call 11; refine (shown_any _).mono ?_; rintro e w1 ⟨rfl, hb⟩; have HB := Lib.hid hb; clear hb)
    | (go_at_call 12; refine (before_any _ _ (by omega) (by omega) (by omega) (by omega) _).mono ?_; rintro e w' ⟨rfl, rfl⟩)
    | (go_at_call 14; refine (dist_any _ _ (by omega) (by omega) (by omega) (by omega) _).mono ?_; rintro e w' ⟨rfl, rfl⟩)
    | (go_at_call 16; refine (later_any _ _ (by omega) (by omega) (by omega) (by omega) _).mono ?_; rintro e w' ⟨rfl, rfl⟩)
    | (go_at_call 18; refine (before16_any _ _ (by omega) (by omega) (by omega) (by omega) _).mono ?_; rintro e w' ⟨rfl, rfl⟩)
    | (go_at_call 20; refine (dist16_any _ _ (by omega) (by omega) (by omega) (by omega) _).mono ?_; rintro e w' ⟨rfl, rfl⟩))
  all_goals (go_ret; exact ⟨rfl, HB.out⟩)

theorem walk (a : Int) (ha : 0 ≤ a) (ha' : a ≤ 4294967295) (b : Int) (hb : 0 ≤ b) (hb' : b ≤ 4294967295) (c : Int) (hc : 0 ≤ c) (hc' : c ≤ 65535) (d : Int) (hd : 0 ≤ d) (hd' : d ≤ 65535) (w : World) :
    Calls Try.prog 5 #[.int .u32 a, .int .u32 b, .int .u16 c, .int .u16 d] w fun e w' => e = .returned (.bool true) ∧ Below w.heap.size w w' := by
  have n0 := dist32_lo a b
  by_cases h1 : 0 < dist32 a b
  · exact walk_ahead a ha ha' b hb hb' c hc hc' d hd hd' h1 w
  · by_cases h2 : dist32 a b = -2147483648
    · exact walk_far a ha ha' b hb hb' c hc hc' d hd hd' h2 w
    · by_cases h3 : dist32 a b < 0
      · exact walk_behind a ha ha' b hb hb' c hc hc' d hd hd' h3 (by omega) w
      · obtain rfl : a = b := by unfold dist32 at *; omega
        exact walk_same a hb hb' c hc hc' d hd hd' w

set_option maxRecDepth 100000 in
theorem lifted (os : Os) (started : os.Started) (H : Type) (enc : TypeId × Value → H) :
    ReturnsInHanded {} Try.checked os 5 .any (Rows.serialTurnsSpec.pre6 enc Try.prog Try.f5 Rows.serialTurnsRow.domain false) (Rows.serialTurnsSpec.post enc Try.prog Try.f5 false true false false) := by
  refine returnsInHanded_of_change_sized (C := Try.checked) own started (by kernel_rfl) Try.func5
    (ChangeSpec.witness6 (enc := enc) (C := Try.checked) false ⟨#[], #[.int .u32 0, .int .u32 0, .int .u16 0, .int .u16 0], []⟩ 8 (by kernel_rfl) (by kernel_rfl) (by kernel_rfl) (by kernel_rfl)) ?_
  intro W base args ds gs before hval0 hW _ _ _
  have hval : ∀ (j : Nat) t v, Try.f5.params[j]? = some t → args[j]? = some v → Value.okWide Try.prog W .any base t v := hval0
  obtain ⟨p, q, hA0, _, _, _, _⟩ := id hW
  have hA : DataW.TrodAll enc Try.prog W 0 (fun _ => true) true Try.f5.params.toList args.toList ds p := hA0
  rw [Try.params5] at hA hval
  obtain ⟨v0, vs0, d0, ds0, p0, q0, hargs, rfl, rfl, h0, r0⟩ := trodAll_cons hA
  obtain ⟨v1, vs1, d1, ds1, p1, q1, rfl, rfl, rfl, h1, r1⟩ := trodAll_cons r0
  obtain ⟨v2, vs2, d2, ds2, p2, q2, rfl, rfl, rfl, h2, r2⟩ := trodAll_cons r1
  obtain ⟨v3, vs3, d3, ds3, p3, q3, rfl, rfl, rfl, h3, r3⟩ := trodAll_cons r2
  obtain ⟨rfl, rfl, rfl⟩ := trodAll_nil r3
  obtain rfl : args = #[v0, v1, v2, v3] := by cases args; simp_all
  obtain ⟨a0, rfl, rfl, rfl, w0⟩ := open_int Try.underlying22 (hval 0 22 v0 rfl rfl) h0
  obtain ⟨a1, rfl, rfl, rfl, w1⟩ := open_int Try.underlying22 (hval 1 22 v1 rfl rfl) h1
  obtain ⟨a2, rfl, rfl, rfl, w2⟩ := open_int Try.underlying23 (hval 2 23 v2 rfl rfl) h2
  obtain ⟨a3, rfl, rfl, rfl, w3⟩ := open_int Try.underlying23 (hval 3 23 v3 rfl rfl) h3
  refine (walk a0 (bounds_u32 w0).1 (bounds_u32 w0).2 a1 (bounds_u32 w1).1 (bounds_u32 w1).2 a2 (bounds_u16 w2).1 (bounds_u16 w2).2 a3 (bounds_u16 w3).1 (bounds_u16 w3).2 W).mono fun e W' ⟨he, hg⟩ => ?_
  subst he
  exact ⟨_, rfl, law_post laidOut Try.underlying4 (by kernel_rfl) (by kernel_rfl) rfl hW (by simp [Rows.serialTurnsSpec]) hg⟩

theorem proved : Rows.SerialTurnsSaid :=
  OpenClaim.holds_of_wide 5 Try.f5 rfl rfl rfl rfl rfl rfl rfl ⟨rfl, rfl, rfl, rfl, rfl⟩ rfl rfl rfl rfl rfl (by kernel_rfl) Try.func5 (by kernel_rfl)
    (of_decide_eq_true (by kernel_rfl)) (by unfold Func.isWrapper; first | (rw [if_pos (by decide +kernel)]; kernel_rfl) | (rw [if_neg (by decide +kernel)]; exact ⟨rfl, rfl⟩))
    (fun os started H enc _ => lifted os started H enc)
#print axioms proved
end Go.Proofs.Ytgahpfoejecihaa.serialTurns
