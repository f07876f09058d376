/-
  What is done with a type that is not known hangs on its two highest bits alone: any number (one that is no type is not asked of).
-/
import Derived.Test.YtkganhpfagnmjaaLift
import Derived.Test.YtkganhpfagnmjaaShown
import Derived.Test.YtkganhpfagnmjaaArgs
import Derived.Test.YtkganhpfagnmjaaConv
namespace Go.Proofs.Ytkganhpfagnmjaa.tlvActs
open Go.ChangeShapes Go.WideShapes Go.ChangeAt Go.RowKit
set_option linter.unusedVariables false

theorem act_of (k : Int) (h0 : 0 ≤ k) (h1 : k ≤ 65535) : actB k = (decide (32768 ≤ k), decide (k / 16384 % 2 = 1)) := by unfold actB; rw [if_pos (isType_true h0 h1)]
theorem act_low (k : Int) (h0 : 0 ≤ k) (h1 : k ≤ 65535) : actB (k / 16384 * 16384) = actB k := by
  rw [act_of k h0 h1, act_of _ (by omega) (by omega)]
  have e1 : decide ((32768 : Int) ≤ k / 16384 * 16384) = decide ((32768 : Int) ≤ k) := decide_eq_decide.2 (by omega)
  have e2 : decide (k / 16384 * 16384 / 16384 % 2 = 1) = decide (k / 16384 % 2 = 1) := decide_eq_decide.2 (by omega)
  rw [e1, e2]
theorem act_other (k : Int) (h0 : 0 ≤ k) (h1 : k ≤ 65535) : actB (65535 - k) = (!(actB k).1, !(actB k).2) := by
  rw [act_of k h0 h1, act_of _ (by omega) (by omega), ← decide_not, ← decide_not]
  have e1 : decide ((32768 : Int) ≤ 65535 - k) = decide (¬ (32768 : Int) ≤ k) := decide_eq_decide.2 (by omega)
  have e2 : decide ((65535 - k) / 16384 % 2 = 1) = decide (¬ k / 16384 % 2 = 1) := decide_eq_decide.2 (by omega)
  rw [e1, e2]
set_option maxHeartbeats 1000000 in
set_option maxRecDepth 100000 in
theorem walk (n : Int) (hn : -9223372036854775808 ≤ n ∧ n ≤ 9223372036854775807) (w : World) :
    Calls Try.prog 8 #[.int .i64 n] w fun e w' => e = .returned (.bool true) ∧ Below w.heap.size w w' := by
  have HB := Lib.hid (Below.refl w.heap.size w)
  by_cases c0 : n < 0
  · go_enter Try.func8, Try.ntmps8
    go_wp2_with (go_at_call 9; ((with_reducible refine (shown_any _).mono ?_); rintro e w1 ⟨rfl, hb1⟩); replace HB := Lib.hid (HB.out.trans (hb1.mono HB.out.size)); clear hb1)
    go_ret
    exact ⟨rfl, HB.out⟩
  have c0' : ¬ n < 0 := c0
  by_cases c1 : 65535 < n
  · go_enter Try.func8, Try.ntmps8
    go_wp2_with (go_at_call 9; ((with_reducible refine (shown_any _).mono ?_); rintro e w1 ⟨rfl, hb1⟩); replace HB := Lib.hid (HB.out.trans (hb1.mono HB.out.size)); clear hb1)
    go_ret
    exact ⟨rfl, HB.out⟩
  have h1 := fun W => act_any n W
  have h2 := fun W => act_any (n / 16384 * 16384) W
  have h3 := fun W => act_any (65535 - n) W
  rw [act_low n (by omega) (by omega)] at h2
  rw [act_other n (by omega) (by omega)] at h3
  have H1 := Lib.hid h1
  have H2 := Lib.hid h2
  have H3 := Lib.hid h3
  clear h1 h2 h3
  generalize actB n = q at *
  obtain ⟨x, y⟩ := q
  dsimp only at H1 H2 H3
  have k0 : (0 : Int) ≤ n := by omega
  have k1 : (0 : Int) ≤ n / 16384 := by omega
  cases x <;> cases y
  all_goals
    go_enter Try.func8, Try.ntmps8
    go_wp2_with (first
    | (go_at_call 9; ((with_reducible refine (shown_any _).mono ?_); rintro e w1 ⟨rfl, hb1⟩); replace HB := Lib.hid (HB.out.trans (hb1.mono HB.out.size)); clear hb1)
    | (go_at_call 16; ((with_reducible refine (H1.out _).mono ?_); rintro e w1 ⟨rfl, rfl⟩))
    | (go_at_call 16; ((with_reducible refine (H2.out _).mono ?_); rintro e w1 ⟨rfl, rfl⟩))
    | (go_at_call 16; ((with_reducible refine (H3.out _).mono ?_); rintro e w1 ⟨rfl, rfl⟩)))
    go_ret
    exact ⟨rfl, HB.out⟩

set_option maxRecDepth 100000 in
theorem lifted (os : Os) (started : os.Started) (H : Type) (enc : TypeId × Value → H) :
    ReturnsInHanded {} Try.checked os 8 .any (Rows.tlvActsSpec.pre6 enc Try.prog Try.f8 Rows.tlvActsRow.domain false) (Rows.tlvActsSpec.post enc Try.prog Try.f8 false true false false) := by
  refine returnsInHanded_of_change_sized (C := Try.checked) own started (by kernel_rfl) Try.func8
    (ChangeSpec.witness6 (enc := enc) (C := Try.checked) false ⟨#[], #[.int .i64 0], []⟩ 8 (by kernel_rfl) (by kernel_rfl) (by kernel_rfl) (by kernel_rfl)) ?_
  intro W base args ds gs before hval0 hW _ hreach _
  have hval : ∀ (j : Nat) t v, Try.f8.params[j]? = some t → args[j]? = some v → Value.okWide Try.prog W .any base t v := hval0
  obtain ⟨p, q, hA0, _, _, _, _⟩ := id hW
  have hA : DataW.TrodAll enc Try.prog W 0 (fun _ => true) true Try.f8.params.toList args.toList ds p := hA0
  rw [Try.params8] at hA hval
  obtain ⟨v0, vs0, d0, ds0, p0, q0, hargs, rfl, rfl, h0, r0⟩ := trodAll_cons hA
  obtain ⟨rfl, rfl, rfl⟩ := trodAll_nil r0
  obtain rfl : args = #[v0] := by cases args; simp_all
  obtain ⟨a0, rfl, rfl, rfl, w0⟩ := open_int Try.underlying3 (hval 0 3 v0 rfl rfl) h0
  refine (walk a0 (by have := bounds_i64 w0; omega) W).mono fun e W' ⟨he, hg⟩ => ?_
  subst he
  exact ⟨_, rfl, law_post laidOut Try.underlying4 (by kernel_rfl) (by kernel_rfl) rfl hW (by simp [Rows.tlvActsSpec]) hg⟩

theorem proved : Rows.TlvActsSaid :=
  OpenClaim.holds_of_wide 8 Try.f8 rfl rfl rfl rfl rfl rfl rfl ⟨rfl, rfl, rfl, rfl, rfl⟩ rfl rfl rfl rfl rfl (by kernel_rfl) Try.func8 (by kernel_rfl)
    (of_decide_eq_true (by kernel_rfl)) (by unfold Func.isWrapper; first | (rw [if_pos (by decide +kernel)]; kernel_rfl) | (rw [if_neg (by decide +kernel)]; exact ⟨rfl, rfl⟩))
    (fun os started H enc _ => lifted os started H enc)
#print axioms proved
end Go.Proofs.Ytkganhpfagnmjaa.tlvActs
