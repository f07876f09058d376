/-
  Two texts are told to be the same just if they are: both ways, and of three as of two: any three texts (of at most 500 bytes each; longer ones are not asked of).
-/
import Derived.Test.YtjfambmdkinkiaaDoorLift
import Derived.Test.YtjfambmdkinkiaaDoorShown
import Derived.Test.YtjfambmdkinkiaaDoorLaid
import Derived.Test.YtjfambmdkinkiaaDoorCards
import Derived.Test.YtjfambmdkinkiaaDoorTie
import Derived.SevenTiedAt
import Derived.Test.YtjfambmdkinkiaaDoorText
import Derived.RegionCalls
import Derived.Deep.RegionHeld3
import Derived.Maps.AppendAt
namespace Go.Proofs.YtjfambmdkinkiaaDoor.hmacSames
open Go.ChangeShapes Go.WideShapes Go.ChangeAt Go.RowKit
set_option linter.unusedVariables false

theorem append_left_same (a b c : ByteArray) : sameB (a ++ b) (a ++ c) = sameB b c := by
  by_cases h : b = c
  · subst h; rw [sameB_true rfl, sameB_true rfl]
  · rw [sameB_false h, sameB_false]
    intro e
    apply h
    apply bytes_ext
    have := congrArg (fun t => t.data.toList) e
    simp only [ByteArray.data_append, Array.toList_append] at this
    exact List.append_cancel_left this
theorem append_right_same (a b c : ByteArray) : sameB (b ++ a) (c ++ a) = sameB b c := by
  by_cases h : b = c
  · subst h; rw [sameB_true rfl, sameB_true rfl]
  · rw [sameB_false h, sameB_false]
    intro e
    apply h
    apply bytes_ext
    have := congrArg (fun t => t.data.toList) e
    simp only [ByteArray.data_append, Array.toList_append] at this
    exact List.append_cancel_right this
theorem sameB_comm (a b : ByteArray) : sameB a b = sameB b a := by unfold sameB; exact decide_eq_decide.2 eq_comm

set_option maxHeartbeats 1000000 in
set_option maxRecDepth 100000 in
theorem walk (a : ByteArray) (ha : a.size ≤ maxLen) (b : ByteArray) (hb : b.size ≤ maxLen) (c : ByteArray) (hc : c.size ≤ maxLen) (w : World) (hK : Kub w) :
    Calls Tryd.prog 6 #[.string a, .string b, .string c] w fun e w' => e = .returned (.bool true) ∧ Below w.heap.size w w' := by
  have HB := Lib.hid (Below.refl w.heap.size w)
  have HK := Lib.hid hK
  clear hK
  unfold maxLen at ha hb hc
  by_cases hbig : 500 < a.size ∨ 500 < b.size ∨ 500 < c.size
  · rcases (by omega : 500 < a.size ∨ (a.size ≤ 500 ∧ 500 < b.size) ∨ (a.size ≤ 500 ∧ b.size ≤ 500 ∧ 500 < c.size)) with g1 | ⟨g1, g2⟩ | ⟨g1, g2, g3⟩
    all_goals
      clear hbig
      go_enter Tryd.func6, Tryd.ntmps6
      go_wp2_with (go_at_call 7; ((with_reducible refine (shown_any _ (HK.out.later HB.out)).mono ?_); rintro e w1 ⟨rfl, hb1⟩); replace HB := Lib.hid (HB.out.trans (hb1.mono HB.out.size)); clear hb1)
      go_ret
      exact ⟨rfl, HB.out⟩
  have l1 : a.size ≤ 500 := by omega
  have l2 : b.size ≤ 500 := by omega
  have l3 : c.size ≤ 500 := by omega
  clear hbig
  have E1 := Lib.hid (fun W => same_any a b (by omega) (by omega) W)
  have e2 := fun W => same_any b a (by omega) (by omega) W
  rw [sameB_comm b a] at e2
  have E2 := Lib.hid e2
  have E3 := Lib.hid (fun W => same_any b c (by omega) (by omega) W)
  have e4 := fun W => same_any (a ++ b) (a ++ c) (by rw [ByteArray.size_append]; omega) (by rw [ByteArray.size_append]; omega) W
  rw [append_left_same a b c] at e4
  have E4 := Lib.hid e4
  have e5 := fun W => same_any (b ++ a) (c ++ a) (by rw [ByteArray.size_append]; omega) (by rw [ByteArray.size_append]; omega) W
  rw [append_right_same a b c] at e5
  have E5 := Lib.hid e5
  have E6 := Lib.hid e5
  have q1 := eqB_same a b
  clear e2 e4 e5
  generalize sameB a b = b1 at *
  generalize sameB b c = b2 at *
  go_enter Tryd.func6, Tryd.ntmps6
  go_wp2_with (first
    | (go_at_call 7; ((with_reducible refine (shown_any _ (HK.out.later HB.out)).mono ?_); rintro e w1 ⟨rfl, hb1⟩); replace HB := Lib.hid (HB.out.trans (hb1.mono HB.out.size)); clear hb1)
    | (go_at_call 11; ((with_reducible refine (E1.out _).mono ?_); rintro e w1 ⟨rfl, hb1⟩); replace HB := Lib.hid (HB.out.trans (hb1.mono HB.out.size)); clear hb1)
    | (go_at_call 11; ((with_reducible refine (E2.out _).mono ?_); rintro e w1 ⟨rfl, hb1⟩); replace HB := Lib.hid (HB.out.trans (hb1.mono HB.out.size)); clear hb1)
    | (go_at_call 11; ((with_reducible refine (E3.out _).mono ?_); rintro e w1 ⟨rfl, hb1⟩); replace HB := Lib.hid (HB.out.trans (hb1.mono HB.out.size)); clear hb1)
    | (go_at_call 11; ((with_reducible refine (E4.out _).mono ?_); rintro e w1 ⟨rfl, hb1⟩); replace HB := Lib.hid (HB.out.trans (hb1.mono HB.out.size)); clear hb1)
    | (go_at_call 11; ((with_reducible refine (E5.out _).mono ?_); rintro e w1 ⟨rfl, hb1⟩); replace HB := Lib.hid (HB.out.trans (hb1.mono HB.out.size)); clear hb1)
    | (go_at_call 11; ((with_reducible refine (E6.out _).mono ?_); rintro e w1 ⟨rfl, hb1⟩); replace HB := Lib.hid (HB.out.trans (hb1.mono HB.out.size)); clear hb1))
  go_ret
  exact ⟨rfl, HB.out⟩

set_option maxRecDepth 100000 in
theorem lifted (os : Os) (started : os.Started) (H : Type) (enc : TypeId × Value → H) :
    ReturnsInHanded {} Tryd.checked os 6 .any (fun w args => (Rows.hmacSamesSpec.pre enc Tryd.prog Tryd.f6 [] false w args ∧ laidMetH Tryd.prog laidK w) ∧ sizedMet enc Tryd.prog Tryd.f6 (OpenSpec.ofChange Rows.hmacSamesSpec) false w args) (Rows.hmacSamesSpec.post enc Tryd.prog Tryd.f6 false true false false) := by
  refine returnsInHanded_of_change_and (C := Tryd.checked) (X := fun w _ => laidMetH Tryd.prog laidK w) (fun _ _ _ hh h => h.of_heap hh) own started (by kernel_rfl) Tryd.func6
    (ChangeSpec.witness_shaped (enc := enc) (C := Tryd.checked) (os := os) (X := fun w _ => laidMetH Tryd.prog laidK w) false (World.doorLaid Tryd.prog 14 os) #[.string ⟨#[]⟩, .string ⟨#[]⟩, .string ⟨#[]⟩] 8 rfl (World.shaped_of_RefB (by kernel_rfl) (by kernel_rfl)) (by kernel_rfl) (by kernel_rfl) (by kernel_rfl) (door_met os _)) ?_
  intro W base args ds gs before hval0 hW _ hreach hL _
  have hval : ∀ (j : Nat) t v, Tryd.f6.params[j]? = some t → args[j]? = some v → Value.okWide Tryd.prog W .any base t v := hval0
  obtain ⟨p, q, hA0, _, _, _, _⟩ := id hW
  have hA : DataW.TrodAll enc Tryd.prog W 0 (fun _ => true) true Tryd.f6.params.toList args.toList ds p := hA0
  rw [Tryd.params6] at hA hval
  obtain ⟨v0, vs0, d0, ds0, p0, q0, hargs, rfl, rfl, h0, r0⟩ := trodAll_cons hA
  obtain ⟨v1, vs1, d1, ds1, p1, q1, rfl, rfl, rfl, h1, r1⟩ := trodAll_cons r0
  obtain ⟨v2, vs2, d2, ds2, p2, q2, rfl, rfl, rfl, h2, r2⟩ := trodAll_cons r1
  obtain ⟨rfl, rfl, rfl⟩ := trodAll_nil r2
  obtain rfl : args = #[v0, v1, v2] := by cases args; simp_all
  obtain ⟨a0, rfl, rfl, rfl, w0⟩ := Go.ChangeMaps.open_string Tryd.underlying9 (hval 0 9 v0 rfl rfl) h0
  obtain ⟨a1, rfl, rfl, rfl, w1⟩ := Go.ChangeMaps.open_string Tryd.underlying9 (hval 1 9 v1 rfl rfl) h1
  obtain ⟨a2, rfl, rfl, rfl, w2⟩ := Go.ChangeMaps.open_string Tryd.underlying9 (hval 2 9 v2 rfl rfl) h2
  refine (walk a0 w0 a1 w1 a2 w2 W (kub_of_laid hL)).mono fun e W' ⟨he, hg⟩ => ?_
  subst he
  exact ⟨_, rfl, law_post laidOut Tryd.underlying4 (by kernel_rfl) (by kernel_rfl) rfl hW (by simp [Rows.hmacSamesSpec]) hg⟩

theorem row_proved : Rows.HmacSamesSaid :=
  OpenClaim.holds_of_wide 6 Tryd.f6 rfl rfl rfl rfl rfl rfl rfl ⟨rfl, rfl, rfl, rfl, rfl⟩ rfl rfl rfl rfl rfl (by kernel_rfl) Tryd.func6 (by kernel_rfl)
    (of_decide_eq_true (by kernel_rfl)) (by unfold Func.isWrapper; first | (rw [if_pos (by decide +kernel)]; kernel_rfl) | (rw [if_neg (by decide +kernel)]; exact ⟨rfl, rfl⟩))
    (fun os started H enc _ => lifted os started H enc)

theorem proved : Rows.HmacSamesCardSaid :=
  Claim7.holds_tied_plain_at .later [] [.data] true _ _
    row_proved (fun _ h => by cases h) (by kernel_rfl) (fun _ h => by cases h) hmacSames_row_tie rfl ⟨rfl, rfl⟩ (by kernel_rfl) rfl
    (fun f fn hf hfn => by
      obtain rfl : f = 6 := Option.some.inj ((show Tryd.prog.funcNamed "towline/towlinelaw4.HmacSames" = some 6 by kernel_rfl).symm.trans hf) |>.symm
      obtain rfl : fn = Tryd.f6 := (Option.some.inj (Tryd.func6.symm.trans hfn)).symm
      exact ⟨by kernel_rfl, fun j t ht => by
        rw [Tryd.params6] at ht
        have hm : t ∈ [9] := by have := Array.mem_of_getElem? ht; simp at this; simp; omega
        have hall : ([9].all fun u => !Tryd.prog.wantsStandIn u) = true := by kernel_rfl
        exact (show Tryd.prog.wantsStandIn t = false by simpa using List.all_eq_true.1 hall t hm)⟩)
    (by kernel_rfl)
#print axioms proved
end Go.Proofs.YtjfambmdkinkiaaDoor.hmacSames
