/-
  What stands where the sum goes does not matter to it, and a sealed packet has nothing else turned: any two texts (a packet of 12 to 2000 bytes and four bytes; others are not asked of).
-/
import Derived.Test.YtfancmomihdkbaaLift
import Derived.Test.YtfancmomihdkbaaShown
import Derived.Test.YtfancmomihdkbaaText
import Derived.RegionCalls
import Derived.Deep.RegionHeld3
namespace Go.Proofs.Ytfancmomihdkbaa.crcHeads
open Go.ChangeShapes Go.WideShapes Go.ChangeAt Go.RowKit
set_option linter.unusedVariables false

theorem seal_put (s f : ByteArray) (h12 : 12 ≤ s.size) (hs : s.size ≤ 1000000) (hf : f.size = 4) (w : World) :
    Calls Try.prog 14 #[.string (s.extract 0 8 ++ f ++ s.extract 12 s.size)] w fun e w' => e = .returned (.tuple #[.string (sealed s), .int .i64 0]) ∧ Below w.heap.size w w' := by
  have hb := blank_size s f h12 hf
  have h := seal_any (s.extract 0 8 ++ f ++ s.extract 12 s.size) (by omega) (by omega) w
  rw [sealed_put s f h12 hf] at h
  exact h

set_option maxHeartbeats 1000000 in
set_option maxRecDepth 100000 in
theorem walk (s : ByteArray) (hs : s.size ≤ maxLen) (f : ByteArray) (hf : f.size ≤ maxLen) (w : World) :
    Calls Try.prog 8 #[.string s, .string f] w fun e w' => e = .returned (.bool true) ∧ Below w.heap.size w w' := by
  have HB := Lib.hid (Below.refl w.heap.size w)
  unfold maxLen at hs hf
  by_cases hl : 2000 < s.size
  · go_enter Try.func8, Try.ntmps8
    go_wp2_with (go_at_call 9; ((with_reducible refine (shown_any _).mono ?_); rintro e w1 ⟨rfl, hb1⟩); replace HB := Lib.hid (HB.out.trans (hb1.mono HB.out.size)); clear hb1)
    go_ret
    exact ⟨rfl, HB.out⟩
  · by_cases hk : s.size < 12
    · go_enter Try.func8, Try.ntmps8
      go_wp2_with (go_at_call 9; ((with_reducible refine (shown_any _).mono ?_); rintro e w1 ⟨rfl, hb1⟩); replace HB := Lib.hid (HB.out.trans (hb1.mono HB.out.size)); clear hb1)
      go_ret
      exact ⟨rfl, HB.out⟩
    · by_cases h4 : f.size = 4
      · have hm8 : min 8 s.size = 8 := by omega
        go_enter Try.func8, Try.ntmps8
        go_wp2_with (first
    | (go_at_call 9; ((with_reducible refine (shown_any _).mono ?_); rintro e w1 ⟨rfl, hb1⟩); replace HB := Lib.hid (HB.out.trans (hb1.mono HB.out.size)); clear hb1)
    | (go_at_call 14; ((with_reducible refine (seal_any _ (by omega) (by omega) _).mono ?_); rintro e w1 ⟨rfl, hb1⟩); replace HB := Lib.hid (HB.out.trans (hb1.mono HB.out.size)); clear hb1))
        go_region_with (go_at_call 14; refine (seal_put s f (by omega) (by omega) h4 _).mono ?_; rintro e w1 ⟨rfl, hb1⟩)
        have HB2 := Lib.hid ((HB.out.drew).trans (hb1.mono HB.out.drew.size))
        clear HB hb1
        have ha1 := sealed_size s (by omega)
        have ha2 := sealed_head s (by omega)
        have ha3 := sealed_tail s (by omega)
        generalize sealed s = a at *
        go_simp
        go_wp2_with fail
        go_quiet (fail)
        go_wp2_with fail
        go_ret
        exact ⟨rfl, below_drewN HB2.out _⟩
      · have h4' : ((f.size : Int) != 4) = true := by simp; omega
        go_enter Try.func8, Try.ntmps8
        go_wp2_with (go_at_call 9; ((with_reducible refine (shown_any _).mono ?_); rintro e w1 ⟨rfl, hb1⟩); replace HB := Lib.hid (HB.out.trans (hb1.mono HB.out.size)); clear hb1)
        go_ret
        exact ⟨rfl, HB.out⟩

set_option maxRecDepth 100000 in
theorem lifted (os : Os) (started : os.Started) (H : Type) (enc : TypeId × Value → H) :
    ReturnsInHanded {} Try.checked os 8 .any (Rows.crcHeadsSpec.pre6 enc Try.prog Try.f8 Rows.crcHeadsRow.domain false) (Rows.crcHeadsSpec.post enc Try.prog Try.f8 false true false false) := by
  refine returnsInHanded_of_change_sized (C := Try.checked) own started (by kernel_rfl) Try.func8
    (ChangeSpec.witness6 (enc := enc) (C := Try.checked) false ⟨#[], #[.string ⟨#[]⟩, .string ⟨#[]⟩], []⟩ 8 (by kernel_rfl) (by kernel_rfl) (by kernel_rfl) (by kernel_rfl)) ?_
  intro W base args ds gs before hval0 hW _ _ _
  have hval : ∀ (j : Nat) t v, Try.f8.params[j]? = some t → args[j]? = some v → Value.okWide Try.prog W .any base t v := hval0
  obtain ⟨p, q, hA0, _, _, _, _⟩ := id hW
  have hA : DataW.TrodAll enc Try.prog W 0 (fun _ => true) true Try.f8.params.toList args.toList ds p := hA0
  rw [Try.params8] at hA hval
  obtain ⟨v0, vs0, d0, ds0, p0, q0, hargs, rfl, rfl, h0, r0⟩ := trodAll_cons hA
  obtain ⟨v1, vs1, d1, ds1, p1, q1, rfl, rfl, rfl, h1, r1⟩ := trodAll_cons r0
  obtain ⟨rfl, rfl, rfl⟩ := trodAll_nil r1
  obtain rfl : args = #[v0, v1] := by cases args; simp_all
  obtain ⟨a0, rfl, rfl, rfl, w0⟩ := Go.ChangeMaps.open_string Try.underlying9 (hval 0 9 v0 rfl rfl) h0
  obtain ⟨a1, rfl, rfl, rfl, w1⟩ := Go.ChangeMaps.open_string Try.underlying9 (hval 1 9 v1 rfl rfl) h1
  refine (walk a0 w0 a1 w1 W).mono fun e W' ⟨he, hg⟩ => ?_
  subst he
  exact ⟨_, rfl, law_post laidOut Try.underlying4 (by kernel_rfl) (by kernel_rfl) rfl hW (by simp [Rows.crcHeadsSpec]) hg⟩

theorem proved : Rows.CrcHeadsSaid :=
  OpenClaim.holds_of_wide 8 Try.f8 rfl rfl rfl rfl rfl rfl rfl ⟨rfl, rfl, rfl, rfl, rfl⟩ rfl rfl rfl rfl rfl (by kernel_rfl) Try.func8 (by kernel_rfl)
    (of_decide_eq_true (by kernel_rfl)) (by unfold Func.isWrapper; first | (rw [if_pos (by decide +kernel)]; kernel_rfl) | (rw [if_neg (by decide +kernel)]; exact ⟨rfl, rfl⟩))
    (fun os started H enc _ => lifted os started H enc)
#print axioms proved
end Go.Proofs.Ytfancmomihdkbaa.crcHeads
