/-
  All that is told of numbers of 16 bits is told of them with the same number added to each; of three, of which each is ahead of the next one by less than 2^14, the first is ahead of the last: at any numbers.
-/
import Derived.Test.YtgahpfoejecihaaLift
import Derived.Test.YtgahpfoejecihaaScal
import Derived.Test.YtgahpfoejecihaaShown
namespace Go.Proofs.Ytgahpfoejecihaa.serialNarrow
open Go.ChangeShapes Go.WideShapes Go.ChangeAt Go.RowKit
set_option linter.unusedVariables false

theorem w16 (n : Int) : IntKind.u16.wrap n = n % 65536 := by simp [IntKind.wrap, IntKind.bits, IntKind.signed]
theorem w16_lo (n : Int) : 0 ≤ IntKind.u16.wrap n := by rw [w16]; omega
theorem w16_hi (n : Int) : IntKind.u16.wrap n ≤ 65535 := by rw [w16]; omega
theorem moved (a b z : Int) : dist16 (IntKind.u16.wrap (a + z)) (IntKind.u16.wrap (b + z)) = dist16 a b := by rw [w16, w16]; unfold dist16; omega
theorem moved_b (a b z : Int) : before16 (IntKind.u16.wrap (a + z)) (IntKind.u16.wrap (b + z)) = before16 a b := by unfold before16; rw [moved]
set_option maxHeartbeats 2000000 in
set_option maxRecDepth 100000 in
theorem walk_none (a : Int) (ha : 0 ≤ a) (ha' : a ≤ 65535) (b : Int) (hb : 0 ≤ b) (hb' : b ≤ 65535) (z : Int) (hz : 0 ≤ z) (hz' : z ≤ 65535) (h1 : a % 16384 = 0) (w : World) :
    Calls Try.prog 10 #[.int .u16 a, .int .u16 b, .int .u16 z] w fun e w' => e = .returned (.bool true) ∧ Below w.heap.size w w' := by
  have m0 := moved a b z
  have m1 := moved_b a b z
  have b0 := w16_lo (a + z)
  have b1 := w16_hi (a + z)
  have b2 := w16_lo (b + z)
  have b3 := w16_hi (b + z)
  have e1 : (a % 16384 == 0) = true := by rw [beq_iff_eq]; exact h1
  clear h1
  go_enter Try.func10, Try.ntmps10
  go_wp2_with (first
    | (go_at_call 11; refine (shown_any _).mono ?_; rintro e w1 ⟨rfl, hb⟩; have HB := Lib.hid hb; clear hb)
    | (go_at_call 18; refine (before16_any _ _ (by omega) (by omega) (by omega) (by omega) _).mono ?_; rintro e w' ⟨rfl, rfl⟩)
    | (go_at_call 20; refine (dist16_any _ _ (by omega) (by omega) (by omega) (by omega) _).mono ?_; rintro e w' ⟨rfl, rfl⟩))
  all_goals (go_ret; exact ⟨rfl, HB.out⟩)
set_option maxHeartbeats 2000000 in
set_option maxRecDepth 100000 in
theorem walk_one (a : Int) (ha : 0 ≤ a) (ha' : a ≤ 65535) (b : Int) (hb : 0 ≤ b) (hb' : b ≤ 65535) (z : Int) (hz : 0 ≤ z) (hz' : z ≤ 65535) (h1 : ¬ a % 16384 = 0) (h2 : b % 16384 = 0) (w : World) :
    Calls Try.prog 10 #[.int .u16 a, .int .u16 b, .int .u16 z] w fun e w' => e = .returned (.bool true) ∧ Below w.heap.size w w' := by
  have m0 := moved a b z
  have m1 := moved_b a b z
  have b0 := w16_lo (a + z)
  have b1 := w16_hi (a + z)
  have b2 := w16_lo (b + z)
  have b3 := w16_hi (b + z)
  have e1 : (a % 16384 == 0) = false := by rw [beq_eq_false_iff_ne]; exact h1
  have e2 : (b % 16384 == 0) = true := by rw [beq_iff_eq]; exact h2
  clear h1 h2
  go_enter Try.func10, Try.ntmps10
  go_wp2_with (first
    | (go_at_call 11; refine (shown_any _).mono ?_; rintro e w1 ⟨rfl, hb⟩; have HB := Lib.hid hb; clear hb)
    | (go_at_call 18; refine (before16_any _ _ (by omega) (by omega) (by omega) (by omega) _).mono ?_; rintro e w' ⟨rfl, rfl⟩)
    | (go_at_call 20; refine (dist16_any _ _ (by omega) (by omega) (by omega) (by omega) _).mono ?_; rintro e w' ⟨rfl, rfl⟩))
  all_goals (go_ret; exact ⟨rfl, HB.out⟩)
set_option maxHeartbeats 2000000 in
set_option maxRecDepth 100000 in
theorem walk_two (a : Int) (ha : 0 ≤ a) (ha' : a ≤ 65535) (b : Int) (hb : 0 ≤ b) (hb' : b ≤ 65535) (z : Int) (hz : 0 ≤ z) (hz' : z ≤ 65535) (h1 : ¬ a % 16384 = 0) (h2 : ¬ b % 16384 = 0) (w : World) :
    Calls Try.prog 10 #[.int .u16 a, .int .u16 b, .int .u16 z] w fun e w' => e = .returned (.bool true) ∧ Below w.heap.size w w' := by
  have m0 := moved a b z
  have m1 := moved_b a b z
  have b0 := w16_lo (a + z)
  have b1 := w16_hi (a + z)
  have b2 := w16_lo (b + z)
  have b3 := w16_hi (b + z)
  have e1 : (a % 16384 == 0) = false := by rw [beq_eq_false_iff_ne]; exact h1
  have e2 : (b % 16384 == 0) = false := by rw [beq_eq_false_iff_ne]; exact h2
  have m2 : 0 ≤ a % 16384 ∧ a % 16384 < 16384 := by omega
  have m3 : 0 ≤ b % 16384 ∧ b % 16384 < 16384 := by omega
  have f0 : before16 z (IntKind.u16.wrap (z + a % 16384)) = true := by rw [w16]; unfold before16 dist16; exact decide_eq_true (by omega)
  have f1 : before16 (IntKind.u16.wrap (z + a % 16384)) (IntKind.u16.wrap ((IntKind.u16.wrap (z + a % 16384)) + b % 16384)) = true := by rw [w16, w16]; unfold before16 dist16; exact decide_eq_true (by omega)
  have f2 : before16 z (IntKind.u16.wrap ((IntKind.u16.wrap (z + a % 16384)) + b % 16384)) = true := by rw [w16, w16]; unfold before16 dist16; exact decide_eq_true (by omega)
  have b4 := w16_lo (z + a % 16384)
  have b5 := w16_hi (z + a % 16384)
  have b6 := w16_lo ((IntKind.u16.wrap (z + a % 16384)) + b % 16384)
  have b7 := w16_hi ((IntKind.u16.wrap (z + a % 16384)) + b % 16384)
  clear h1 h2 m2 m3
  go_enter Try.func10, Try.ntmps10
  go_wp2_with (first
    | (go_at_call 11; refine (shown_any _).mono ?_; rintro e w1 ⟨rfl, hb⟩; have HB := Lib.hid hb; clear hb)
    | (go_at_call 18; refine (before16_any _ _ (by omega) (by omega) (by omega) (by omega) _).mono ?_; rintro e w' ⟨rfl, rfl⟩)
    | (go_at_call 20; refine (dist16_any _ _ (by omega) (by omega) (by omega) (by omega) _).mono ?_; rintro e w' ⟨rfl, rfl⟩))
  all_goals (go_ret; exact ⟨rfl, HB.out⟩)
theorem walk (a : Int) (ha : 0 ≤ a) (ha' : a ≤ 65535) (b : Int) (hb : 0 ≤ b) (hb' : b ≤ 65535) (z : Int) (hz : 0 ≤ z) (hz' : z ≤ 65535) (w : World) :
    Calls Try.prog 10 #[.int .u16 a, .int .u16 b, .int .u16 z] w fun e w' => e = .returned (.bool true) ∧ Below w.heap.size w w' := by
  by_cases h1 : a % 16384 = 0
  · exact walk_none a ha ha' b hb hb' z hz hz' h1 w
  · by_cases h2 : b % 16384 = 0
    · exact walk_one a ha ha' b hb hb' z hz hz' h1 h2 w
    · exact walk_two a ha ha' b hb hb' z hz hz' h1 h2 w

set_option maxRecDepth 100000 in
theorem lifted (os : Os) (started : os.Started) (H : Type) (enc : TypeId × Value → H) :
    ReturnsInHanded {} Try.checked os 10 .any (Rows.serialNarrowSpec.pre6 enc Try.prog Try.f10 Rows.serialNarrowRow.domain false) (Rows.serialNarrowSpec.post enc Try.prog Try.f10 false true false false) := by
  refine returnsInHanded_of_change_sized (C := Try.checked) own started (by kernel_rfl) Try.func10
    (ChangeSpec.witness6 (enc := enc) (C := Try.checked) false ⟨#[], #[.int .u16 0, .int .u16 0, .int .u16 0], []⟩ 8 (by kernel_rfl) (by kernel_rfl) (by kernel_rfl) (by kernel_rfl)) ?_
  intro W base args ds gs before hval0 hW _ _ _
  have hval : ∀ (j : Nat) t v, Try.f10.params[j]? = some t → args[j]? = some v → Value.okWide Try.prog W .any base t v := hval0
  obtain ⟨p, q, hA0, _, _, _, _⟩ := id hW
  have hA : DataW.TrodAll enc Try.prog W 0 (fun _ => true) true Try.f10.params.toList args.toList ds p := hA0
  rw [Try.params10] at hA hval
  obtain ⟨v0, vs0, d0, ds0, p0, q0, hargs, rfl, rfl, h0, r0⟩ := trodAll_cons hA
  obtain ⟨v1, vs1, d1, ds1, p1, q1, rfl, rfl, rfl, h1, r1⟩ := trodAll_cons r0
  obtain ⟨v2, vs2, d2, ds2, p2, q2, rfl, rfl, rfl, h2, r2⟩ := trodAll_cons r1
  obtain ⟨rfl, rfl, rfl⟩ := trodAll_nil r2
  obtain rfl : args = #[v0, v1, v2] := by cases args; simp_all
  obtain ⟨a0, rfl, rfl, rfl, w0⟩ := open_int Try.underlying23 (hval 0 23 v0 rfl rfl) h0
  obtain ⟨a1, rfl, rfl, rfl, w1⟩ := open_int Try.underlying23 (hval 1 23 v1 rfl rfl) h1
  obtain ⟨a2, rfl, rfl, rfl, w2⟩ := open_int Try.underlying23 (hval 2 23 v2 rfl rfl) h2
  refine (walk a0 (bounds_u16 w0).1 (bounds_u16 w0).2 a1 (bounds_u16 w1).1 (bounds_u16 w1).2 a2 (bounds_u16 w2).1 (bounds_u16 w2).2 W).mono fun e W' ⟨he, hg⟩ => ?_
  subst he
  exact ⟨_, rfl, law_post laidOut Try.underlying4 (by kernel_rfl) (by kernel_rfl) rfl hW (by simp [Rows.serialNarrowSpec]) hg⟩

theorem proved : Rows.SerialNarrowSaid :=
  OpenClaim.holds_of_wide 10 Try.f10 rfl rfl rfl rfl rfl rfl rfl ⟨rfl, rfl, rfl, rfl, rfl⟩ rfl rfl rfl rfl rfl (by kernel_rfl) Try.func10 (by kernel_rfl)
    (of_decide_eq_true (by kernel_rfl)) (by unfold Func.isWrapper; first | (rw [if_pos (by decide +kernel)]; kernel_rfl) | (rw [if_neg (by decide +kernel)]; exact ⟨rfl, rfl⟩))
    (fun os started H enc _ => lifted os started H enc)
#print axioms proved
end Go.Proofs.Ytgahpfoejecihaa.serialNarrow
