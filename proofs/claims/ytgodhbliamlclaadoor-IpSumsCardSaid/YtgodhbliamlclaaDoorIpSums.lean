/-
  A sum does not ask in which order pairs of bytes stand; with its own sum behind it a text of whole pairs has the sum 0: any two texts (of at most 1000 bytes each; longer ones are not asked of).
-/
import Derived.Test.YtgodhbliamlclaaDoorLift
import Derived.Test.YtgodhbliamlclaaDoorShown
import Derived.Test.YtgodhbliamlclaaDoorLaid
import Derived.Test.YtgodhbliamlclaaDoorCards
import Derived.Test.YtgodhbliamlclaaDoorTie
import Derived.SevenTiedAt
import Derived.Test.YtgodhbliamlclaaDoorText
import Derived.RegionCalls
import Derived.Deep.RegionHeld3
import Derived.Maps.AppendAt
namespace Go.Proofs.YtgodhbliamlclaaDoor.ipSums
open Go.ChangeShapes Go.WideShapes Go.ChangeAt Go.RowKit
set_option linter.unusedVariables false

theorem own_sum (l : List UInt8) (h : l.length % 2 = 0) : chk (l ++ be16 (chk l)) = 0 := by
  have h1 : psum (l ++ be16 (chk l)) = psum l + chk l := by rw [psum_append _ _ h, psum_be16 (chk_lt _)]
  rw [show chk (l ++ be16 (chk l)) = 65535 - fold16 (psum (l ++ be16 (chk l))) from rfl, h1, show chk l = 65535 - fold16 (psum l) from rfl]
  generalize psum l = p
  unfold fold16
  by_cases hp : p = 0
  · subst hp
    simp
  · rw [if_neg hp, if_neg (by omega)]
    omega
theorem own_text (u : ByteArray) (h : u.size % 2 = 0) : sumB (u ++ twoB (sumB u)) = 0 := by
  unfold sumB
  rw [ByteArray.data_append, Array.toList_append]
  exact own_sum _ (by rw [← size_list]; exact h)
theorem order_text (u t : ByteArray) (hu : u.size % 2 = 0) (ht : t.size % 2 = 0) : sumB (t ++ u) = sumB (u ++ t) := by
  unfold sumB chk
  rw [ByteArray.data_append, Array.toList_append, ByteArray.data_append, Array.toList_append, psum_append _ _ (by rw [← size_list]; exact ht), psum_append _ _ (by rw [← size_list]; exact hu), Nat.add_comm]

set_option maxHeartbeats 1000000 in
set_option maxRecDepth 100000 in
theorem walk (s : ByteArray) (hs : s.size ≤ maxLen) (t : ByteArray) (ht : t.size ≤ maxLen) (w : World) (hK : Kub w) :
    Calls Tryd.prog 5 #[.string s, .string t] w fun e w' => e = .returned (.bool true) ∧ Below w.heap.size w w' := by
  have HB := Lib.hid (Below.refl w.heap.size w)
  have HK := Lib.hid hK
  clear hK
  unfold maxLen at hs ht
  by_cases hbig : 1000 < s.size ∨ 1000 < t.size
  · rcases (by omega : 1000 < s.size ∨ (s.size ≤ 1000 ∧ 1000 < t.size)) with g1 | ⟨g1, g2⟩
    all_goals
      clear hbig
      go_enter Tryd.func5, Tryd.ntmps5
      go_wp2_with (go_at_call 7; ((with_reducible refine (shown_any _ (HK.out.later HB.out)).mono ?_); rintro e w1 ⟨rfl, hb1⟩); replace HB := Lib.hid (HB.out.trans (hb1.mono HB.out.size)); clear hb1)
      go_ret
      exact ⟨rfl, HB.out⟩
  have l1 : s.size ≤ 1000 := by omega
  have l2 : t.size ≤ 1000 := by omega
  clear hbig
  by_cases hodd : s.size % 2 = 1
  · have hso : ((s.size : Int) % 2 == 1) = true := by simp; omega
    have hs1 : (1 : Int) ≤ (s.size : Int) := by omega
    obtain ⟨u, hu⟩ : ∃ u, u = s.extract 1 s.size := ⟨_, rfl⟩
    have hus : u.size = s.size - 1 := by rw [hu, ByteArray.size_extract]; omega
    have hev : u.size % 2 = 0 := by omega
    have hul : u.size ≤ 1000 := by omega
    have hux : s.extract 1 s.size = u := hu.symm
    have hc := sumB_lt u
    have c1 := fun W => check16_any u (by omega) W
    have c2 := fun W => check16_any (u ++ twoB (sumB u)) (by rw [ByteArray.size_append, twoB_size]; omega) W
    rw [own_text u hev] at c2
    have C1 := Lib.hid c1
    have C2 := Lib.hid (show ∀ W, Calls Tryd.prog 14 #[.string (u ++ twoB (sumB u))] W fun e w' => e = .returned (.int .u16 0) ∧ Below W.heap.size W w' from c2)
    have hconv := twoB_text (sumB u) hc
    have C3 := Lib.hid (fun W => check16_any (u ++ t) (by rw [ByteArray.size_append]; omega) W)
    have h2 := Nat.le_of_eq (twoB_size (sumB u))
    have q1 : ¬ 9223372036854775807 < u.size + (twoB (sumB u)).size := by omega
    have q2 : ¬ 9223372036854775807 < u.size + t.size := by omega
    have q3 : ¬ 9223372036854775807 < t.size + u.size := by omega
    clear c1 c2 h2
    clear hu hus
    by_cases hte : t.size % 2 = 1
    · have hto : ((t.size : Int) % 2 == 1) = true := by simp; omega
      have C4 := C3
      generalize twoB (sumB u) = z at *
      generalize sumB u = c at *
      generalize sumB (u ++ t) = x at *
      go_enter Tryd.func5, Tryd.ntmps5
      go_wp2_with (first
      | (go_at_call 7; ((with_reducible refine (shown_any _ (HK.out.later HB.out)).mono ?_); rintro e w1 ⟨rfl, hb1⟩); replace HB := Lib.hid (HB.out.trans (hb1.mono HB.out.size)); clear hb1)
      | (go_at_call 14; ((with_reducible refine (C1.out _).mono ?_); rintro e w1 ⟨rfl, hb1⟩); replace HB := Lib.hid (HB.out.trans (hb1.mono HB.out.size)); clear hb1)
      | (go_at_call 14; ((with_reducible refine (C2.out _).mono ?_); rintro e w1 ⟨rfl, hb1⟩); replace HB := Lib.hid ((HB.out.alloc HB.out.size _).trans (hb1.mono (HB.out.alloc HB.out.size _).size)); clear hb1)
      | (go_at_call 14; ((with_reducible refine (C3.out _).mono ?_); rintro e w1 ⟨rfl, hb1⟩); replace HB := Lib.hid (HB.out.trans (hb1.mono HB.out.size)); clear hb1)
      | (go_at_call 14; ((with_reducible refine (C4.out _).mono ?_); rintro e w1 ⟨rfl, hb1⟩); replace HB := Lib.hid (HB.out.trans (hb1.mono HB.out.size)); clear hb1))
      go_ret
      exact ⟨rfl, HB.out⟩
    · have hto : ((t.size : Int) % 2 == 1) = false := by simp; omega
      have c4 := fun W => check16_any (t ++ u) (by rw [ByteArray.size_append]; omega) W
      rw [order_text u t hev (by omega)] at c4
      have C4 := Lib.hid c4
      clear c4
      generalize twoB (sumB u) = z at *
      generalize sumB u = c at *
      generalize sumB (u ++ t) = x at *
      go_enter Tryd.func5, Tryd.ntmps5
      go_wp2_with (first
      | (go_at_call 7; ((with_reducible refine (shown_any _ (HK.out.later HB.out)).mono ?_); rintro e w1 ⟨rfl, hb1⟩); replace HB := Lib.hid (HB.out.trans (hb1.mono HB.out.size)); clear hb1)
      | (go_at_call 14; ((with_reducible refine (C1.out _).mono ?_); rintro e w1 ⟨rfl, hb1⟩); replace HB := Lib.hid (HB.out.trans (hb1.mono HB.out.size)); clear hb1)
      | (go_at_call 14; ((with_reducible refine (C2.out _).mono ?_); rintro e w1 ⟨rfl, hb1⟩); replace HB := Lib.hid ((HB.out.alloc HB.out.size _).trans (hb1.mono (HB.out.alloc HB.out.size _).size)); clear hb1)
      | (go_at_call 14; ((with_reducible refine (C3.out _).mono ?_); rintro e w1 ⟨rfl, hb1⟩); replace HB := Lib.hid (HB.out.trans (hb1.mono HB.out.size)); clear hb1)
      | (go_at_call 14; ((with_reducible refine (C4.out _).mono ?_); rintro e w1 ⟨rfl, hb1⟩); replace HB := Lib.hid (HB.out.trans (hb1.mono HB.out.size)); clear hb1))
      go_ret
      exact ⟨rfl, HB.out⟩
  · have hso : ((s.size : Int) % 2 == 1) = false := by simp; omega
    have hev : s.size % 2 = 0 := by omega
    have hc := sumB_lt s
    have c1 := fun W => check16_any s (by omega) W
    have c2 := fun W => check16_any (s ++ twoB (sumB s)) (by rw [ByteArray.size_append, twoB_size]; omega) W
    rw [own_text s hev] at c2
    have C1 := Lib.hid c1
    have C2 := Lib.hid (show ∀ W, Calls Tryd.prog 14 #[.string (s ++ twoB (sumB s))] W fun e w' => e = .returned (.int .u16 0) ∧ Below W.heap.size W w' from c2)
    have hconv := twoB_text (sumB s) hc
    have C3 := Lib.hid (fun W => check16_any (s ++ t) (by rw [ByteArray.size_append]; omega) W)
    have h2 := Nat.le_of_eq (twoB_size (sumB s))
    have q1 : ¬ 9223372036854775807 < s.size + (twoB (sumB s)).size := by omega
    have q2 : ¬ 9223372036854775807 < s.size + t.size := by omega
    have q3 : ¬ 9223372036854775807 < t.size + s.size := by omega
    clear c1 c2 h2
    by_cases hte : t.size % 2 = 1
    · have hto : ((t.size : Int) % 2 == 1) = true := by simp; omega
      have C4 := C3
      generalize twoB (sumB s) = z at *
      generalize sumB s = c at *
      generalize sumB (s ++ t) = x at *
      go_enter Tryd.func5, Tryd.ntmps5
      go_wp2_with (first
      | (go_at_call 7; ((with_reducible refine (shown_any _ (HK.out.later HB.out)).mono ?_); rintro e w1 ⟨rfl, hb1⟩); replace HB := Lib.hid (HB.out.trans (hb1.mono HB.out.size)); clear hb1)
      | (go_at_call 14; ((with_reducible refine (C1.out _).mono ?_); rintro e w1 ⟨rfl, hb1⟩); replace HB := Lib.hid (HB.out.trans (hb1.mono HB.out.size)); clear hb1)
      | (go_at_call 14; ((with_reducible refine (C2.out _).mono ?_); rintro e w1 ⟨rfl, hb1⟩); replace HB := Lib.hid ((HB.out.alloc HB.out.size _).trans (hb1.mono (HB.out.alloc HB.out.size _).size)); clear hb1)
      | (go_at_call 14; ((with_reducible refine (C3.out _).mono ?_); rintro e w1 ⟨rfl, hb1⟩); replace HB := Lib.hid (HB.out.trans (hb1.mono HB.out.size)); clear hb1)
      | (go_at_call 14; ((with_reducible refine (C4.out _).mono ?_); rintro e w1 ⟨rfl, hb1⟩); replace HB := Lib.hid (HB.out.trans (hb1.mono HB.out.size)); clear hb1))
      go_ret
      exact ⟨rfl, HB.out⟩
    · have hto : ((t.size : Int) % 2 == 1) = false := by simp; omega
      have c4 := fun W => check16_any (t ++ s) (by rw [ByteArray.size_append]; omega) W
      rw [order_text s t hev (by omega)] at c4
      have C4 := Lib.hid c4
      clear c4
      generalize twoB (sumB s) = z at *
      generalize sumB s = c at *
      generalize sumB (s ++ t) = x at *
      go_enter Tryd.func5, Tryd.ntmps5
      go_wp2_with (first
      | (go_at_call 7; ((with_reducible refine (shown_any _ (HK.out.later HB.out)).mono ?_); rintro e w1 ⟨rfl, hb1⟩); replace HB := Lib.hid (HB.out.trans (hb1.mono HB.out.size)); clear hb1)
      | (go_at_call 14; ((with_reducible refine (C1.out _).mono ?_); rintro e w1 ⟨rfl, hb1⟩); replace HB := Lib.hid (HB.out.trans (hb1.mono HB.out.size)); clear hb1)
      | (go_at_call 14; ((with_reducible refine (C2.out _).mono ?_); rintro e w1 ⟨rfl, hb1⟩); replace HB := Lib.hid ((HB.out.alloc HB.out.size _).trans (hb1.mono (HB.out.alloc HB.out.size _).size)); clear hb1)
      | (go_at_call 14; ((with_reducible refine (C3.out _).mono ?_); rintro e w1 ⟨rfl, hb1⟩); replace HB := Lib.hid (HB.out.trans (hb1.mono HB.out.size)); clear hb1)
      | (go_at_call 14; ((with_reducible refine (C4.out _).mono ?_); rintro e w1 ⟨rfl, hb1⟩); replace HB := Lib.hid (HB.out.trans (hb1.mono HB.out.size)); clear hb1))
      go_ret
      exact ⟨rfl, HB.out⟩

set_option maxRecDepth 100000 in
theorem lifted (os : Os) (started : os.Started) (H : Type) (enc : TypeId × Value → H) :
    ReturnsInHanded {} Tryd.checked os 5 .any (fun w args => (Rows.ipSumsSpec.pre enc Tryd.prog Tryd.f5 [] false w args ∧ laidMetH Tryd.prog laidK w) ∧ sizedMet enc Tryd.prog Tryd.f5 (OpenSpec.ofChange Rows.ipSumsSpec) false w args) (Rows.ipSumsSpec.post enc Tryd.prog Tryd.f5 false true false false) := by
  refine returnsInHanded_of_change_and (C := Tryd.checked) (X := fun w _ => laidMetH Tryd.prog laidK w) (fun _ _ _ hh h => h.of_heap hh) own started (by kernel_rfl) Tryd.func5
    (ChangeSpec.witness_shaped (enc := enc) (C := Tryd.checked) (os := os) (X := fun w _ => laidMetH Tryd.prog laidK w) false (World.doorLaid Tryd.prog 65 os) #[.string ⟨#[]⟩, .string ⟨#[]⟩] 8 rfl (World.shaped_of_RefB (by kernel_rfl) (by kernel_rfl)) (by kernel_rfl) (by kernel_rfl) (by kernel_rfl) (door_met os _)) ?_
  intro W base args ds gs before hval0 hW _ hreach hL _
  have hval : ∀ (j : Nat) t v, Tryd.f5.params[j]? = some t → args[j]? = some v → Value.okWide Tryd.prog W .any base t v := hval0
  obtain ⟨p, q, hA0, _, _, _, _⟩ := id hW
  have hA : DataW.TrodAll enc Tryd.prog W 0 (fun _ => true) true Tryd.f5.params.toList args.toList ds p := hA0
  rw [Tryd.params5] at hA hval
  obtain ⟨v0, vs0, d0, ds0, p0, q0, hargs, rfl, rfl, h0, r0⟩ := trodAll_cons hA
  obtain ⟨v1, vs1, d1, ds1, p1, q1, rfl, rfl, rfl, h1, r1⟩ := trodAll_cons r0
  obtain ⟨rfl, rfl, rfl⟩ := trodAll_nil r1
  obtain rfl : args = #[v0, v1] := by cases args; simp_all
  obtain ⟨a0, rfl, rfl, rfl, w0⟩ := Go.ChangeMaps.open_string Tryd.underlying9 (hval 0 9 v0 rfl rfl) h0
  obtain ⟨a1, rfl, rfl, rfl, w1⟩ := Go.ChangeMaps.open_string Tryd.underlying9 (hval 1 9 v1 rfl rfl) h1
  refine (walk a0 w0 a1 w1 W (kub_of_laid hL)).mono fun e W' ⟨he, hg⟩ => ?_
  subst he
  exact ⟨_, rfl, law_post laidOut Tryd.underlying4 (by kernel_rfl) (by kernel_rfl) rfl hW (by simp [Rows.ipSumsSpec]) hg⟩

theorem row_proved : Rows.IpSumsSaid :=
  OpenClaim.holds_of_wide 5 Tryd.f5 rfl rfl rfl rfl rfl rfl rfl ⟨rfl, rfl, rfl, rfl, rfl⟩ rfl rfl rfl rfl rfl (by kernel_rfl) Tryd.func5 (by kernel_rfl)
    (of_decide_eq_true (by kernel_rfl)) (by unfold Func.isWrapper; first | (rw [if_pos (by decide +kernel)]; kernel_rfl) | (rw [if_neg (by decide +kernel)]; exact ⟨rfl, rfl⟩))
    (fun os started H enc _ => lifted os started H enc)

theorem proved : Rows.IpSumsCardSaid :=
  Claim7.holds_tied_plain_at .later [] [.data, .data, .data] true _ _
    row_proved (fun _ h => by cases h) (by kernel_rfl) (fun _ h => by cases h) ipSums_row_tie rfl ⟨rfl, rfl⟩ (by kernel_rfl) rfl
    (fun f fn hf hfn => by
      obtain rfl : f = 5 := Option.some.inj ((show Tryd.prog.funcNamed "towline/towlinelaw5.IpSums" = some 5 by kernel_rfl).symm.trans hf) |>.symm
      obtain rfl : fn = Tryd.f5 := (Option.some.inj (Tryd.func5.symm.trans hfn)).symm
      exact ⟨by kernel_rfl, fun j t ht => by
        rw [Tryd.params5] at ht
        have hm : t ∈ [9] := by have := Array.mem_of_getElem? ht; simp at this; simp; first | omega | (rcases this with h | h <;> simp [h]) | (rcases this with h | h | h <;> simp [h]) | (rcases this with h | h | h | h <;> simp [h])
        have hall : ([9].all fun u => !Tryd.prog.wantsStandIn u) = true := by kernel_rfl
        exact (show Tryd.prog.wantsStandIn t = false by simpa using List.all_eq_true.1 hall t hm)⟩)
    (by kernel_rfl)
#print axioms proved
end Go.Proofs.YtgodhbliamlclaaDoor.ipSums
