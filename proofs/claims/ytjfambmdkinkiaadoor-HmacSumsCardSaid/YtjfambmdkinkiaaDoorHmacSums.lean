/-
  The digest of a text under a key, whether two texts are the same, and whether a digest is that of a text, is what the document says: any texts (a key of at most 500 bytes, a text of at most 1000, a sum of at most 500; others are not asked of).
-/
import Derived.Test.YtjfambmdkinkiaaDoorLift
import Derived.Test.YtjfambmdkinkiaaDoorShown
import Derived.Test.YtjfambmdkinkiaaDoorLaid
import Derived.Test.YtjfambmdkinkiaaDoorCards
import Derived.Test.YtjfambmdkinkiaaDoorTie
import Derived.SevenTiedAt
import Derived.Test.YtjfambmdkinkiaaDoorText
import Derived.RegionCalls
import Derived.Deep.RegionHeld3
import Derived.Maps.AppendAt
namespace Go.Proofs.YtjfambmdkinkiaaDoor.hmacSums
open Go.ChangeShapes Go.WideShapes Go.ChangeAt Go.RowKit
set_option linter.unusedVariables false

set_option maxHeartbeats 1000000 in
set_option maxRecDepth 100000 in
theorem walk (key : ByteArray) (hk : key.size ≤ maxLen) (s : ByteArray) (hs : s.size ≤ maxLen) (m : ByteArray) (hm : m.size ≤ maxLen) (w : World) (hK : Kub w) :
    Calls Tryd.prog 3 #[.string key, .string s, .string m] w fun e w' => e = .returned (.bool true) ∧ Below w.heap.size w w' := by
  have HB := Lib.hid (Below.refl w.heap.size w)
  have HK := Lib.hid hK
  clear hK
  unfold maxLen at hk hs hm
  by_cases hbig : 500 < key.size ∨ 1000 < s.size ∨ 500 < m.size
  · rcases (by omega : 500 < key.size ∨ (key.size ≤ 500 ∧ 1000 < s.size) ∨ (key.size ≤ 500 ∧ s.size ≤ 1000 ∧ 500 < m.size)) with g1 | ⟨g1, g2⟩ | ⟨g1, g2, g3⟩
    all_goals
      clear hbig
      go_enter Tryd.func3, Tryd.ntmps3
      go_wp2_with (go_at_call 7; ((with_reducible refine (shown_any _ (HK.out.later HB.out)).mono ?_); rintro e w1 ⟨rfl, hb1⟩); replace HB := Lib.hid (HB.out.trans (hb1.mono HB.out.size)); clear hb1)
      go_ret
      exact ⟨rfl, HB.out⟩
  have l1 : key.size ≤ 500 := by omega
  have l2 : s.size ≤ 1000 := by omega
  have l3 : m.size ≤ 500 := by omega
  clear hbig
  have hsz := hmacOf_size key s
  have HS := Lib.hid (fun W (h : Kub W) => hsum_any key s (by omega) (by omega) W h)
  have HR := Lib.hid (fun W => rhmac_any key s (by omega) (by omega) W)
  have c1 := fun W (h : Kub W) => hcheck_any key s (hmacOf key s) (by omega) (by omega) (by omega) W h
  rw [sameB_true (rfl : hmacOf key s = hmacOf key s)] at c1
  have HC1 := Lib.hid c1
  have HC2 := Lib.hid (fun W (h : Kub W) => hcheck_any key s m (by omega) (by omega) (by omega) W h)
  have HE1 := Lib.hid (fun W => same_any s m (by omega) (by omega) W)
  have e2 := fun W => same_any s s (by omega) (by omega) W
  rw [sameB_true (rfl : s = s)] at e2
  have HE2 := Lib.hid e2
  have q1 := eqB_same m (hmacOf key s)
  have q2 := eqB_same s m
  have q3 : sameB m (hmacOf key s) = sameB (hmacOf key s) m := by unfold sameB; exact decide_eq_decide.2 eq_comm
  rw [q3] at q1
  clear c1 e2 q3 hsz
  generalize hmacOf key s = r at *
  generalize sameB r m = b1 at *
  generalize sameB s m = b2 at *
  go_enter Tryd.func3, Tryd.ntmps3
  go_wp2_with (first
    | (go_at_call 7; ((with_reducible refine (shown_any _ (HK.out.later HB.out)).mono ?_); rintro e w1 ⟨rfl, hb1⟩); replace HB := Lib.hid (HB.out.trans (hb1.mono HB.out.size)); clear hb1)
    | (go_at_call 9; ((with_reducible refine (HS.out _ (HK.out.later HB.out)).mono ?_); rintro e w1 ⟨rfl, hb1⟩); replace HB := Lib.hid (HB.out.trans (hb1.mono HB.out.size)); clear hb1)
    | (go_at_call 8; ((with_reducible refine (HR.out _).mono ?_); rintro e w1 ⟨rfl, hb1⟩); replace HB := Lib.hid (HB.out.trans (hb1.mono HB.out.size)); clear hb1)
    | (go_at_call 10; ((with_reducible refine (HC1.out _ (HK.out.later HB.out)).mono ?_); rintro e w1 ⟨rfl, hb1⟩); replace HB := Lib.hid (HB.out.trans (hb1.mono HB.out.size)); clear hb1)
    | (go_at_call 10; ((with_reducible refine (HC2.out _ (HK.out.later HB.out)).mono ?_); rintro e w1 ⟨rfl, hb1⟩); replace HB := Lib.hid (HB.out.trans (hb1.mono HB.out.size)); clear hb1)
    | (go_at_call 11; ((with_reducible refine (HE1.out _).mono ?_); rintro e w1 ⟨rfl, hb1⟩); replace HB := Lib.hid (HB.out.trans (hb1.mono HB.out.size)); clear hb1)
    | (go_at_call 11; ((with_reducible refine (HE2.out _).mono ?_); rintro e w1 ⟨rfl, hb1⟩); replace HB := Lib.hid (HB.out.trans (hb1.mono HB.out.size)); clear hb1))
  go_ret
  exact ⟨rfl, HB.out⟩

set_option maxRecDepth 100000 in
theorem lifted (os : Os) (started : os.Started) (H : Type) (enc : TypeId × Value → H) :
    ReturnsInHanded {} Tryd.checked os 3 .any (fun w args => (Rows.hmacSumsSpec.pre enc Tryd.prog Tryd.f3 [] false w args ∧ laidMetH Tryd.prog laidK w) ∧ sizedMet enc Tryd.prog Tryd.f3 (OpenSpec.ofChange Rows.hmacSumsSpec) false w args) (Rows.hmacSumsSpec.post enc Tryd.prog Tryd.f3 false true false false) := by
  refine returnsInHanded_of_change_and (C := Tryd.checked) (X := fun w _ => laidMetH Tryd.prog laidK w) (fun _ _ _ hh h => h.of_heap hh) own started (by kernel_rfl) Tryd.func3
    (ChangeSpec.witness_shaped (enc := enc) (C := Tryd.checked) (os := os) (X := fun w _ => laidMetH Tryd.prog laidK w) false (World.doorLaid Tryd.prog 14 os) #[.string ⟨#[]⟩, .string ⟨#[]⟩, .string ⟨#[]⟩] 8 rfl (World.shaped_of_RefB (by kernel_rfl) (by kernel_rfl)) (by kernel_rfl) (by kernel_rfl) (by kernel_rfl) (door_met os _)) ?_
  intro W base args ds gs before hval0 hW _ hreach hL _
  have hval : ∀ (j : Nat) t v, Tryd.f3.params[j]? = some t → args[j]? = some v → Value.okWide Tryd.prog W .any base t v := hval0
  obtain ⟨p, q, hA0, _, _, _, _⟩ := id hW
  have hA : DataW.TrodAll enc Tryd.prog W 0 (fun _ => true) true Tryd.f3.params.toList args.toList ds p := hA0
  rw [Tryd.params3] at hA hval
  obtain ⟨v0, vs0, d0, ds0, p0, q0, hargs, rfl, rfl, h0, r0⟩ := trodAll_cons hA
  obtain ⟨v1, vs1, d1, ds1, p1, q1, rfl, rfl, rfl, h1, r1⟩ := trodAll_cons r0
  obtain ⟨v2, vs2, d2, ds2, p2, q2, rfl, rfl, rfl, h2, r2⟩ := trodAll_cons r1
  obtain ⟨rfl, rfl, rfl⟩ := trodAll_nil r2
  obtain rfl : args = #[v0, v1, v2] := by cases args; simp_all
  obtain ⟨a0, rfl, rfl, rfl, w0⟩ := Go.ChangeMaps.open_string Tryd.underlying9 (hval 0 9 v0 rfl rfl) h0
  obtain ⟨a1, rfl, rfl, rfl, w1⟩ := Go.ChangeMaps.open_string Tryd.underlying9 (hval 1 9 v1 rfl rfl) h1
  obtain ⟨a2, rfl, rfl, rfl, w2⟩ := Go.ChangeMaps.open_string Tryd.underlying9 (hval 2 9 v2 rfl rfl) h2
  refine (walk a0 w0 a1 w1 a2 w2 W (kub_of_laid hL)).mono fun e W' ⟨he, hg⟩ => ?_
  subst he
  exact ⟨_, rfl, law_post laidOut Tryd.underlying4 (by kernel_rfl) (by kernel_rfl) rfl hW (by simp [Rows.hmacSumsSpec]) hg⟩

theorem row_proved : Rows.HmacSumsSaid :=
  OpenClaim.holds_of_wide 3 Tryd.f3 rfl rfl rfl rfl rfl rfl rfl ⟨rfl, rfl, rfl, rfl, rfl⟩ rfl rfl rfl rfl rfl (by kernel_rfl) Tryd.func3 (by kernel_rfl)
    (of_decide_eq_true (by kernel_rfl)) (by unfold Func.isWrapper; first | (rw [if_pos (by decide +kernel)]; kernel_rfl) | (rw [if_neg (by decide +kernel)]; exact ⟨rfl, rfl⟩))
    (fun os started H enc _ => lifted os started H enc)

theorem proved : Rows.HmacSumsCardSaid :=
  Claim7.holds_tied_plain_at .later [] [.data] true _ _
    row_proved (fun _ h => by cases h) (by kernel_rfl) (fun _ h => by cases h) hmacSums_row_tie rfl ⟨rfl, rfl⟩ (by kernel_rfl) rfl
    (fun f fn hf hfn => by
      obtain rfl : f = 3 := Option.some.inj ((show Tryd.prog.funcNamed "towline/towlinelaw4.HmacSums" = some 3 by kernel_rfl).symm.trans hf) |>.symm
      obtain rfl : fn = Tryd.f3 := (Option.some.inj (Tryd.func3.symm.trans hfn)).symm
      exact ⟨by kernel_rfl, fun j t ht => by
        rw [Tryd.params3] at ht
        have hm : t ∈ [9] := by have := Array.mem_of_getElem? ht; simp at this; simp; omega
        have hall : ([9].all fun u => !Tryd.prog.wantsStandIn u) = true := by kernel_rfl
        exact (show Tryd.prog.wantsStandIn t = false by simpa using List.all_eq_true.1 hall t hm)⟩)
    (by kernel_rfl)
#print axioms proved
end Go.Proofs.YtjfambmdkinkiaaDoor.hmacSums
