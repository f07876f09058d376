/-
  What is ahead of one that is ahead of a third one is ahead of that, if the two ways together are less than 2^31; distances add up: at any number and any two ways.
-/
import Derived.Test.YtgahpfoejecihaaLift
import Derived.Test.YtgahpfoejecihaaScal
import Derived.Test.YtgahpfoejecihaaShown
namespace Go.Proofs.Ytgahpfoejecihaa.serialChains
open Go.ChangeShapes Go.WideShapes Go.ChangeAt Go.RowKit
set_option linter.unusedVariables false

set_option maxHeartbeats 2000000 in
set_option maxRecDepth 100000 in
theorem walk_none (a : Int) (ha : 0 ≤ a) (ha' : a ≤ 4294967295) (x : Int) (hx : 0 ≤ x) (hx' : x ≤ 4294967295) (y : Int) (hy : 0 ≤ y) (hy' : y ≤ 4294967295) (h1 : x % 2147483648 = 0) (w : World) :
    Calls Try.prog 8 #[.int .u32 a, .int .u32 x, .int .u32 y] w fun e w' => e = .returned (.bool true) ∧ Below w.heap.size w w' := by
  have e1 : (x % 2147483648 == 0) = true := by rw [beq_iff_eq]; exact h1
  clear h1
  go_enter Try.func8, Try.ntmps8
  go_wp2_with (first
    | (go_at_call 11; refine (shown_any _).mono ?_; rintro e w1 ⟨rfl, hb⟩; have HB := Lib.hid hb; clear hb)
    | (go_at_call 12; refine (before_any _ _ (by omega) (by omega) (by omega) (by omega) _).mono ?_; rintro e w' ⟨rfl, rfl⟩)
    | (go_at_call 14; refine (dist_any _ _ (by omega) (by omega) (by omega) (by omega) _).mono ?_; rintro e w' ⟨rfl, rfl⟩)
    | (go_at_call 16; refine (later_any _ _ (by omega) (by omega) (by omega) (by omega) _).mono ?_; rintro e w' ⟨rfl, rfl⟩)
    | (go_at_call 25; refine (within_any _ _ _ (by omega) (by omega) (by omega) (by omega) (by omega) (by omega) _).mono ?_; rintro e w' ⟨rfl, rfl⟩))
  all_goals (go_ret; exact ⟨rfl, HB.out⟩)
set_option maxHeartbeats 2000000 in
set_option maxRecDepth 100000 in
theorem walk_one (a : Int) (ha : 0 ≤ a) (ha' : a ≤ 4294967295) (x : Int) (hx : 0 ≤ x) (hx' : x ≤ 4294967295) (y : Int) (hy : 0 ≤ y) (hy' : y ≤ 4294967295) (h1 : ¬ x % 2147483648 = 0) (h2 : y % 2147483648 = 0) (w : World) :
    Calls Try.prog 8 #[.int .u32 a, .int .u32 x, .int .u32 y] w fun e w' => e = .returned (.bool true) ∧ Below w.heap.size w w' := by
  have e1 : (x % 2147483648 == 0) = false := by rw [beq_eq_false_iff_ne]; exact h1
  have e2 : (y % 2147483648 == 0) = true := by rw [beq_iff_eq]; exact h2
  have b0 : before32 a ((a + x % 2147483648) % 4294967296) = true := by unfold before32 dist32; exact decide_eq_true (by omega)
  clear h1 h2
  go_enter Try.func8, Try.ntmps8
  go_wp2_with (first
    | (go_at_call 11; refine (shown_any _).mono ?_; rintro e w1 ⟨rfl, hb⟩; have HB := Lib.hid hb; clear hb)
    | (go_at_call 12; refine (before_any _ _ (by omega) (by omega) (by omega) (by omega) _).mono ?_; rintro e w' ⟨rfl, rfl⟩)
    | (go_at_call 14; refine (dist_any _ _ (by omega) (by omega) (by omega) (by omega) _).mono ?_; rintro e w' ⟨rfl, rfl⟩)
    | (go_at_call 16; refine (later_any _ _ (by omega) (by omega) (by omega) (by omega) _).mono ?_; rintro e w' ⟨rfl, rfl⟩)
    | (go_at_call 25; refine (within_any _ _ _ (by omega) (by omega) (by omega) (by omega) (by omega) (by omega) _).mono ?_; rintro e w' ⟨rfl, rfl⟩))
  all_goals (go_ret; exact ⟨rfl, HB.out⟩)
set_option maxHeartbeats 2000000 in
set_option maxRecDepth 100000 in
theorem walk_far (a : Int) (ha : 0 ≤ a) (ha' : a ≤ 4294967295) (x : Int) (hx : 0 ≤ x) (hx' : x ≤ 4294967295) (y : Int) (hy : 0 ≤ y) (hy' : y ≤ 4294967295) (h1 : ¬ x % 2147483648 = 0) (h2 : ¬ y % 2147483648 = 0) (h3 : 2147483648 ≤ x % 2147483648 + y % 2147483648) (w : World) :
    Calls Try.prog 8 #[.int .u32 a, .int .u32 x, .int .u32 y] w fun e w' => e = .returned (.bool true) ∧ Below w.heap.size w w' := by
  have e1 : (x % 2147483648 == 0) = false := by rw [beq_eq_false_iff_ne]; exact h1
  have e2 : (y % 2147483648 == 0) = false := by rw [beq_eq_false_iff_ne]; exact h2
  have e3 : decide (2147483648 ≤ x % 2147483648 + y % 2147483648) = true := decide_eq_true h3
  have b0 : before32 a ((a + x % 2147483648) % 4294967296) = true := by unfold before32 dist32; exact decide_eq_true (by omega)
  clear h1 h2
  go_enter Try.func8, Try.ntmps8
  go_wp2_with (first
    | (go_at_call 11; refine (shown_any _).mono ?_; rintro e w1 ⟨rfl, hb⟩; have HB := Lib.hid hb; clear hb)
    | (go_at_call 12; refine (before_any _ _ (by omega) (by omega) (by omega) (by omega) _).mono ?_; rintro e w' ⟨rfl, rfl⟩)
    | (go_at_call 14; refine (dist_any _ _ (by omega) (by omega) (by omega) (by omega) _).mono ?_; rintro e w' ⟨rfl, rfl⟩)
    | (go_at_call 16; refine (later_any _ _ (by omega) (by omega) (by omega) (by omega) _).mono ?_; rintro e w' ⟨rfl, rfl⟩)
    | (go_at_call 25; refine (within_any _ _ _ (by omega) (by omega) (by omega) (by omega) (by omega) (by omega) _).mono ?_; rintro e w' ⟨rfl, rfl⟩))
  all_goals (go_ret; exact ⟨rfl, HB.out⟩)
set_option maxHeartbeats 2000000 in
set_option maxRecDepth 100000 in
theorem walk_near (a : Int) (ha : 0 ≤ a) (ha' : a ≤ 4294967295) (x : Int) (hx : 0 ≤ x) (hx' : x ≤ 4294967295) (y : Int) (hy : 0 ≤ y) (hy' : y ≤ 4294967295) (h1 : ¬ x % 2147483648 = 0) (h2 : ¬ y % 2147483648 = 0) (h3 : x % 2147483648 + y % 2147483648 < 2147483648) (w : World) :
    Calls Try.prog 8 #[.int .u32 a, .int .u32 x, .int .u32 y] w fun e w' => e = .returned (.bool true) ∧ Below w.heap.size w w' := by
  have e1 : (x % 2147483648 == 0) = false := by rw [beq_eq_false_iff_ne]; exact h1
  have e2 : (y % 2147483648 == 0) = false := by rw [beq_eq_false_iff_ne]; exact h2
  have e3 : decide (2147483648 ≤ x % 2147483648 + y % 2147483648) = false := decide_eq_false (by omega)
  have m1 : 0 ≤ x % 2147483648 ∧ x % 2147483648 < 2147483648 := by omega
  have m2 : 0 ≤ y % 2147483648 ∧ y % 2147483648 < 2147483648 := by omega
  have b0 : before32 a ((a + x % 2147483648) % 4294967296) = true := by unfold before32 dist32; exact decide_eq_true (by omega)
  have b1 : before32 ((a + x % 2147483648) % 4294967296) ((a + x % 2147483648 + y % 2147483648) % 4294967296) = true := by unfold before32 dist32; exact decide_eq_true (by omega)
  have b2 : before32 a ((a + x % 2147483648 + y % 2147483648) % 4294967296) = true := by unfold before32 dist32; exact decide_eq_true (by omega)
  have d0 : dist32 a ((a + x % 2147483648) % 4294967296) = x % 2147483648 := by unfold dist32; omega
  have d1 : dist32 ((a + x % 2147483648) % 4294967296) ((a + x % 2147483648 + y % 2147483648) % 4294967296) = y % 2147483648 := by unfold dist32; omega
  have d2 : dist32 a ((a + x % 2147483648 + y % 2147483648) % 4294967296) = x % 2147483648 + y % 2147483648 := by unfold dist32; omega
  have l0 : later32 a ((a + x % 2147483648) % 4294967296) = ((a + x % 2147483648) % 4294967296) := by unfold later32; rw [if_pos (of_decide_eq_true b0)]
  have l1 : later32 ((a + x % 2147483648) % 4294967296) ((a + x % 2147483648 + y % 2147483648) % 4294967296) = ((a + x % 2147483648 + y % 2147483648) % 4294967296) := by unfold later32; rw [if_pos (of_decide_eq_true b1)]
  have i0 : within32 ((a + x % 2147483648) % 4294967296) a ((a + x % 2147483648 + y % 2147483648) % 4294967296) = true := by unfold within32 up32; exact decide_eq_true (by omega)
  have i1 : within32 ((a + x % 2147483648 + y % 2147483648) % 4294967296) a ((a + x % 2147483648) % 4294967296) = false := by unfold within32 up32; exact decide_eq_false (by omega)
  clear h1 h2 m1 m2
  go_enter Try.func8, Try.ntmps8
  go_wp2_with (first
    | (go_at_call 11; refine (shown_any _).mono ?_; rintro e w1 ⟨rfl, hb⟩; have HB := Lib.hid hb; clear hb)
    | (go_at_call 12; refine (before_any _ _ (by omega) (by omega) (by omega) (by omega) _).mono ?_; rintro e w' ⟨rfl, rfl⟩)
    | (go_at_call 14; refine (dist_any _ _ (by omega) (by omega) (by omega) (by omega) _).mono ?_; rintro e w' ⟨rfl, rfl⟩)
    | (go_at_call 16; refine (later_any _ _ (by omega) (by omega) (by omega) (by omega) _).mono ?_; rintro e w' ⟨rfl, rfl⟩)
    | (go_at_call 25; refine (within_any _ _ _ (by omega) (by omega) (by omega) (by omega) (by omega) (by omega) _).mono ?_; rintro e w' ⟨rfl, rfl⟩))
  all_goals (go_ret; exact ⟨rfl, HB.out⟩)
theorem walk (a : Int) (ha : 0 ≤ a) (ha' : a ≤ 4294967295) (x : Int) (hx : 0 ≤ x) (hx' : x ≤ 4294967295) (y : Int) (hy : 0 ≤ y) (hy' : y ≤ 4294967295) (w : World) :
    Calls Try.prog 8 #[.int .u32 a, .int .u32 x, .int .u32 y] w fun e w' => e = .returned (.bool true) ∧ Below w.heap.size w w' := by
  by_cases h1 : x % 2147483648 = 0
  · exact walk_none a ha ha' x hx hx' y hy hy' h1 w
  · by_cases h2 : y % 2147483648 = 0
    · exact walk_one a ha ha' x hx hx' y hy hy' h1 h2 w
    · by_cases h3 : 2147483648 ≤ x % 2147483648 + y % 2147483648
      · exact walk_far a ha ha' x hx hx' y hy hy' h1 h2 h3 w
      · exact walk_near a ha ha' x hx hx' y hy hy' h1 h2 (by omega) w

set_option maxRecDepth 100000 in
theorem lifted (os : Os) (started : os.Started) (H : Type) (enc : TypeId × Value → H) :
    ReturnsInHanded {} Try.checked os 8 .any (Rows.serialChainsSpec.pre6 enc Try.prog Try.f8 Rows.serialChainsRow.domain false) (Rows.serialChainsSpec.post enc Try.prog Try.f8 false true false false) := by
  refine returnsInHanded_of_change_sized (C := Try.checked) own started (by kernel_rfl) Try.func8
    (ChangeSpec.witness6 (enc := enc) (C := Try.checked) false ⟨#[], #[.int .u32 0, .int .u32 0, .int .u32 0], []⟩ 8 (by kernel_rfl) (by kernel_rfl) (by kernel_rfl) (by kernel_rfl)) ?_
  intro W base args ds gs before hval0 hW _ _ _
  have hval : ∀ (j : Nat) t v, Try.f8.params[j]? = some t → args[j]? = some v → Value.okWide Try.prog W .any base t v := hval0
  obtain ⟨p, q, hA0, _, _, _, _⟩ := id hW
  have hA : DataW.TrodAll enc Try.prog W 0 (fun _ => true) true Try.f8.params.toList args.toList ds p := hA0
  rw [Try.params8] at hA hval
  obtain ⟨v0, vs0, d0, ds0, p0, q0, hargs, rfl, rfl, h0, r0⟩ := trodAll_cons hA
  obtain ⟨v1, vs1, d1, ds1, p1, q1, rfl, rfl, rfl, h1, r1⟩ := trodAll_cons r0
  obtain ⟨v2, vs2, d2, ds2, p2, q2, rfl, rfl, rfl, h2, r2⟩ := trodAll_cons r1
  obtain ⟨rfl, rfl, rfl⟩ := trodAll_nil r2
  obtain rfl : args = #[v0, v1, v2] := by cases args; simp_all
  obtain ⟨a0, rfl, rfl, rfl, w0⟩ := open_int Try.underlying22 (hval 0 22 v0 rfl rfl) h0
  obtain ⟨a1, rfl, rfl, rfl, w1⟩ := open_int Try.underlying22 (hval 1 22 v1 rfl rfl) h1
  obtain ⟨a2, rfl, rfl, rfl, w2⟩ := open_int Try.underlying22 (hval 2 22 v2 rfl rfl) h2
  refine (walk a0 (bounds_u32 w0).1 (bounds_u32 w0).2 a1 (bounds_u32 w1).1 (bounds_u32 w1).2 a2 (bounds_u32 w2).1 (bounds_u32 w2).2 W).mono fun e W' ⟨he, hg⟩ => ?_
  subst he
  exact ⟨_, rfl, law_post laidOut Try.underlying4 (by kernel_rfl) (by kernel_rfl) rfl hW (by simp [Rows.serialChainsSpec]) hg⟩

theorem proved : Rows.SerialChainsSaid :=
  OpenClaim.holds_of_wide 8 Try.f8 rfl rfl rfl rfl rfl rfl rfl ⟨rfl, rfl, rfl, rfl, rfl⟩ rfl rfl rfl rfl rfl (by kernel_rfl) Try.func8 (by kernel_rfl)
    (of_decide_eq_true (by kernel_rfl)) (by unfold Func.isWrapper; first | (rw [if_pos (by decide +kernel)]; kernel_rfl) | (rw [if_neg (by decide +kernel)]; exact ⟨rfl, rfl⟩))
    (fun os started H enc _ => lifted os started H enc)
#print axioms proved
end Go.Proofs.Ytgahpfoejecihaa.serialChains
