/-
  The bytes of items, how many noughts stand behind a value, the first of a type, and what is done with one that is not known, is as the chapter says: any items (of at most 60, of at most 2000 bytes each; others are not asked of), any number.
-/
import Derived.Test.YtkganhpfagnmjaaLift
import Derived.Test.YtkganhpfagnmjaaShown
import Derived.Test.YtkganhpfagnmjaaArgs
import Derived.Test.YtkganhpfagnmjaaConv
import Derived.Test.YtkganhpfagnmjaaRefBuild
import Derived.Test.YtkganhpfagnmjaaFind
namespace Go.Proofs.Ytkganhpfagnmjaa.tlvBuilds
open Go.ChangeShapes Go.WideShapes Go.ChangeAt Go.RowKit
set_option linter.unusedVariables false

set_option maxHeartbeats 1000000 in
set_option maxRecDepth 100000 in
theorem walk (l : List Item) (v : Value) (n : Int) (hm : l.length ≤ maxLen) (hn : -9223372036854775808 ≤ n ∧ n ≤ 9223372036854775807) (w : World) (hv : RowI w v l) :
    Calls Try.prog 3 #[v, .int .i64 n] w fun e w' => e = .returned (.bool true) ∧ Below w.heap.size w w' := by
  have HB := Lib.hid (Below.refl w.heap.size w)
  have RV := Lib.hid hv
  have HSM := Lib.hid (fun W h => small_any l hm v W h)
  clear hv
  cases hsb : smallB l with
  | false =>
    rw [hsb] at HSM
    clear hsb
    go_enter Try.func3, Try.ntmps3
    go_wp2_with (first
    | (go_at_call 9; ((with_reducible refine (shown_any _).mono ?_); rintro e w1 ⟨rfl, hb1⟩); replace HB := Lib.hid (HB.out.trans (hb1.mono HB.out.size)); replace RV := Lib.hid (RV.out.below hb1); clear hb1)
    | (go_at_call 10; ((with_reducible refine (HSM.out _ RV.out).mono ?_); rintro e w1 ⟨rfl, rfl⟩)))
    go_ret
    exact ⟨rfl, HB.out⟩
  | true =>
    rw [hsb] at HSM
    obtain ⟨hl, hs⟩ := small_gives hsb
    clear hsb
    have hs2 : ∀ x ∈ l, x.2.size ≤ 1000000 := fun x hx => Nat.le_trans (hs x hx) (by omega)
    have H1 := Lib.hid (fun W h => build_any l (by omega) hs2 v W h)
    have HA := Lib.hid (fun W h => as_any l (by omega) v W h)
    have H2 := Lib.hid (fun u W h => rbuild_any l (by omega) hs2 u W h)
    have H3 := Lib.hid (fun W h => find_any l (by omega) hs2 n v W h)
    have H4 := Lib.hid (fun u W h => rfind_any l (by omega) hs2 n u W h)
    have H5 := Lib.hid (fun W => pad_any n (by omega) (by omega) W)
    have H6 := Lib.hid (fun W => rpad_any n (by omega) (by omega) W)
    generalize buildB l = r1 at *
    generalize findB l n = r2 at *
    generalize hac : actB n = r3 at *
    have H7 := Lib.hid (fun W => act_any n W)
    have H8 := Lib.hid (fun W => ract_any n W)
    rw [hac] at H7 H8
    generalize padI n = r5 at *
    clear hs hs2 hac
    obtain ⟨b1, b2⟩ := r1
    obtain ⟨f1, f2⟩ := r2
    obtain ⟨a1, a2⟩ := r3
    dsimp only at H1 H2 H3 H4 H7 H8
    go_enter Try.func3, Try.ntmps3
    go_wp2_with (first
    | (go_at_call 9; ((with_reducible refine (shown_any _).mono ?_); rintro e w1 ⟨rfl, hb1⟩); replace HB := Lib.hid (HB.out.trans (hb1.mono HB.out.size)); replace RV := Lib.hid (RV.out.below hb1); clear hb1)
    | (go_at_call 10; ((with_reducible refine (HSM.out _ RV.out).mono ?_); rintro e w1 ⟨rfl, rfl⟩))
    | (go_at_call 11; ((with_reducible refine (H1.out _ RV.out).mono ?_); rintro e w1 ⟨rfl, hb1⟩); replace HB := Lib.hid (HB.out.trans (hb1.mono HB.out.size)); replace RV := Lib.hid (RV.out.below hb1); clear hb1)
    | (go_at_call 13; ((with_reducible refine (HA.out _ RV.out).mono ?_); rintro e w1 ⟨rav, rfl, ho1, hb1⟩); have RA := Lib.hid (rowI_of_own ho1); replace HB := Lib.hid (HB.out.trans (hb1.mono HB.out.size)); replace RV := Lib.hid (RV.out.below hb1); clear hb1 ho1)
    | (go_at_call 12; ((with_reducible refine (H2.out _ _ RA.out).mono ?_); rintro e w1 ⟨rfl, hb1⟩); replace HB := Lib.hid (HB.out.trans (hb1.mono HB.out.size)); replace RV := Lib.hid (RV.out.below hb1); clear hb1)
    | (go_at_call 14; ((with_reducible refine (H3.out _ RV.out).mono ?_); rintro e w1 ⟨rfl, hb1⟩); replace HB := Lib.hid (HB.out.trans (hb1.mono HB.out.size)); replace RV := Lib.hid (RV.out.below hb1); clear hb1)
    | (go_at_call 15; ((with_reducible refine (H4.out _ _ RA.out).mono ?_); rintro e w1 ⟨rfl, hb1⟩); replace HB := Lib.hid (HB.out.trans (hb1.mono HB.out.size)); replace RV := Lib.hid (RV.out.below hb1); clear hb1)
    | (go_at_call 16; ((with_reducible refine (H7.out _).mono ?_); rintro e w1 ⟨rfl, rfl⟩))
    | (go_at_call 17; ((with_reducible refine (H8.out _).mono ?_); rintro e w1 ⟨rfl, rfl⟩))
    | (go_at_call 18; ((with_reducible refine (H5.out _).mono ?_); rintro e w1 ⟨rfl, rfl⟩))
    | (go_at_call 19; ((with_reducible refine (H6.out _).mono ?_); rintro e w1 ⟨rfl, rfl⟩)))
    go_ret
    exact ⟨rfl, HB.out⟩

set_option maxRecDepth 100000 in
theorem lifted (os : Os) (started : os.Started) (H : Type) (enc : TypeId × Value → H) :
    ReturnsInHanded {} Try.checked os 3 .any (Rows.tlvBuildsSpec.pre6 enc Try.prog Try.f3 Rows.tlvBuildsRow.domain false) (Rows.tlvBuildsSpec.post enc Try.prog Try.f3 false true false false) := by
  refine returnsInHanded_of_change_sized (C := Try.checked) own started (by kernel_rfl) Try.func3
    (ChangeSpec.witness6 (enc := enc) (C := Try.checked) false ⟨#[], #[.slice none 0 0, .int .i64 0], []⟩ 8 (by kernel_rfl) (by kernel_rfl) (by kernel_rfl) (by kernel_rfl)) ?_
  intro W base args ds gs before hval0 hW _ hreach _
  have hval : ∀ (j : Nat) t v, Try.f3.params[j]? = some t → args[j]? = some v → Value.okWide Try.prog W .any base t v := hval0
  obtain ⟨p, q, hA0, _, _, _, _⟩ := id hW
  have hA : DataW.TrodAll enc Try.prog W 0 (fun _ => true) true Try.f3.params.toList args.toList ds p := hA0
  rw [Try.params3] at hA hval
  obtain ⟨v0, vs0, d0, ds0, p0, q0, hargs, rfl, rfl, h0, r0⟩ := trodAll_cons hA
  obtain ⟨v1, vs1, d1, ds1, p1, q1, rfl, rfl, rfl, h1, r1⟩ := trodAll_cons r0
  obtain ⟨rfl, rfl, rfl⟩ := trodAll_nil r1
  obtain rfl : args = #[v0, v1] := by cases args; simp_all
  obtain ⟨l0, w0, m0, s0⟩ := items_in (hval 0 22 v0 rfl rfl) h0
  obtain ⟨a1, rfl, rfl, rfl, w1⟩ := open_int Try.underlying3 (hval 1 3 v1 rfl rfl) h1
  refine (walk l0 v0 a1 m0 (by have := bounds_i64 w1; omega) W w0).mono fun e W' ⟨he, hg⟩ => ?_
  subst he
  exact ⟨_, rfl, law_post laidOut Try.underlying4 (by kernel_rfl) (by kernel_rfl) rfl hW (by simp [Rows.tlvBuildsSpec]) hg⟩

theorem proved : Rows.TlvBuildsSaid :=
  OpenClaim.holds_of_wide 3 Try.f3 rfl rfl rfl rfl rfl rfl rfl ⟨rfl, rfl, rfl, rfl, rfl⟩ rfl rfl rfl rfl rfl (by kernel_rfl) Try.func3 (by kernel_rfl)
    (of_decide_eq_true (by kernel_rfl)) (by unfold Func.isWrapper; first | (rw [if_pos (by decide +kernel)]; kernel_rfl) | (rw [if_neg (by decide +kernel)]; exact ⟨rfl, rfl⟩))
    (fun os started H enc _ => lifted os started H enc)
#print axioms proved
end Go.Proofs.Ytkganhpfagnmjaa.tlvBuilds
