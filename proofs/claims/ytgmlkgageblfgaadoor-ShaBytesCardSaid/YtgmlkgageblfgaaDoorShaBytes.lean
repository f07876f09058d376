/-
  A text that is written byte by byte has the digest that it has at once; nothing that is written changes nothing: any text (of at most 300 bytes; a longer one is not asked of).
-/
import Derived.Test.YtgmlkgageblfgaaDoorLift
import Derived.Test.YtgmlkgageblfgaaDoorShown
import Derived.Test.YtgmlkgageblfgaaDoorLaid
import Derived.Test.YtgmlkgageblfgaaDoorCards
import Derived.Test.YtgmlkgageblfgaaDoorTie
import Derived.SevenTiedAt
import Derived.Test.YtgmlkgageblfgaaDoorText
import Derived.RegionCalls
import Derived.Deep.RegionHeld3
import Derived.Test.YtgmlkgageblfgaaDoorHashed
namespace Go.Proofs.YtgmlkgageblfgaaDoor.shaBytes
open Go.ChangeShapes Go.WideShapes Go.ChangeAt Go.RowKit
set_option linter.unusedVariables false

set_option maxHeartbeats 1000000 in
set_option maxRecDepth 100000 in
theorem walk (s : ByteArray) (hs : s.size ≤ maxLen) (w : World) (hK : Kub w) :
    Calls Tryd.prog 6 #[.string s] w fun e w' => e = .returned (.bool true) ∧ Below w.heap.size w w' := by
  have HB := Lib.hid (Below.refl w.heap.size w)
  have HK := Lib.hid hK
  clear hK
  by_cases hl : 300 < s.size
  · go_enter Tryd.func6, Tryd.ntmps6
    go_wp2_with (go_at_call 8; ((with_reducible refine (shown_any _ (HK.out.later HB.out)).mono ?_); rintro e w1 ⟨rfl, hb1⟩); replace HB := Lib.hid (HB.out.trans (hb1.mono HB.out.size)); clear hb1)
    go_ret
    exact ⟨rfl, HB.out⟩
  go_enter Tryd.func6, Tryd.ntmps6
  go_wp2_with fail
  refine (shown_any w HK.out).mono ?_
  rintro e w1 ⟨rfl, hb1⟩
  have HB1 := Lib.hid (HB.out.trans (hb1.mono HB.out.size))
  clear hb1 HB
  go_wp2_with fail
  have HS0 : Hid (Hs w w1.heap.size (s.data.toList.take 0) _) := Lib.hid (Hs.begun HB1.out)
  generalize w1.heap.size = a at *
  generalize World.alloc w1 _ = w2 at *
  clear HB1
  go_loopw [5] (fun i wr => ∃ k : Nat, k ≤ s.size ∧ i = .int .i64 k ∧ Hid (Hs w a (s.data.toList.take k) wr)) (fun i _ => s.size - (intOf i).toNat)
  case atStart => exact ⟨0, by omega, rfl, HS0⟩
  case round =>
    obtain ⟨k, hk, rfl, HS⟩ := hrel
    have hga : 0 < a := Nat.lt_of_lt_of_le HK.out.1 HS.out.2.2
    by_cases hlt : k < s.size
    · have hx : s.data.toList.take k ++ (s.extract k (k + 1)).data.toList = s.data.toList.take (k + 1) := by
        rw [extract_list, show k + 1 - k = 1 by omega, List.drop_eq_getElem_cons (by simpa using hlt), List.take_succ_cons, List.take_zero, List.take_succ_eq_append_getElem (by simpa using hlt)]
      have hxs : (s.extract k (k + 1)).size = 1 := by rw [ByteArray.size_extract]; omega
      have HX := Lib.hid hx
      have HXS := Lib.hid hxs
      clear hx hxs
      have z0 : (0 : Int) ≤ (k : Int) := by omega
      have z1 : (k : Int) + 1 ≤ (s.size : Int) := by omega
      have z2 : (k : Int) ≤ (k : Int) + 1 := by omega
      have z3 : ((k : Int) + 1).toNat = k + 1 := by omega
      have hls : (s.data.toList.take k).length ≤ 1000 := by simp; omega
      have HLS := Lib.hid hls
      clear hls
      go_wp2_with fail
      refine (hwrite_any a (s.data.toList.take k) (s.extract k (k + 1)) wr HS.out.1 (HK.out.later HS.out.below) hga (by have := HLS.out; have := HXS.out; omega)).mono ?_
      rintro e w3 ⟨rfl, hN, hg⟩
      rw [HX.out] at hN
      have HS3 := Lib.hid (HS.out.wrote hN hg)
      clear hN hg HX HXS HLS
      have hls : (s.data.toList.take (k + 1)).length ≤ 1000 := by simp; omega
      have HLS := Lib.hid hls
      clear hls
      go_wp2_with fail
      refine (hwrite_any a (s.data.toList.take (k + 1)) ⟨#[]⟩ w3 HS3.out.1 (HK.out.later HS3.out.2.1) hga (by have := HLS.out; show _ + 0 ≤ _; omega)).mono ?_
      rintro e w4 ⟨rfl, hN, hg⟩
      rw [show (⟨#[]⟩ : ByteArray).data.toList = [] from rfl, List.append_nil] at hN
      have HS4 := Lib.hid (HS3.out.wrote hN hg)
      clear hN hg HLS
      go_wp2_with fail
      go_roundw
      case rel => exact ⟨k + 1, by omega, by go_num, HS4⟩
      case measure => simp [intOf]; omega
    · obtain rfl : k = s.size := by omega
      rw [List.take_of_length_le (by simp)] at HS
      obtain ⟨D, hD⟩ : ∃ D : ByteArray, D = digestOf s := ⟨_, rfl⟩
      have h32 : D.size = 32 := by rw [hD]; exact digest_size _
      have hsl : s.data.toList.length ≤ 900000000 := by simp; omega
      have HSUM := Lib.hid (show ∀ W, Hs w a s.data.toList W → Calls Tryd.prog 14 #[.pointer (some ⟨a, 0, none⟩)] W fun e w' => e = .returned (.string D) ∧ Below W.heap.size W w' from fun W h => by rw [hD]; exact hsumM_any a s.data.toList W h.1 (HK.out.later h.2.1) hsl)
      have SUM := Lib.hid (show ∀ W, Kub W → Calls Tryd.prog 9 #[.string s] W fun e w' => e = .returned (.string D) ∧ Below W.heap.size W w' from fun W h => by rw [hD]; exact sum_any s (by omega) W h)
      have HLT := Lib.hid (show True from trivial)
      clear hD hsl HLT
      go_wp2_with (first
    | (go_at_call 14; ((with_reducible refine (HSUM.out _ HS.out).mono ?_); rintro e w1 ⟨rfl, hb1⟩); replace HS := Lib.hid (HS.out.later hb1); clear hb1)
    | (go_at_call 9; ((with_reducible refine (SUM.out _ (HK.out.later HS.out.below)).mono ?_); rintro e w1 ⟨rfl, hb1⟩); replace HS := Lib.hid (HS.out.later hb1); clear hb1))
      go_ret
      exact ⟨rfl, HS.out.2.1⟩

set_option maxRecDepth 100000 in
theorem lifted (os : Os) (started : os.Started) (H : Type) (enc : TypeId × Value → H) :
    ReturnsInHanded {} Tryd.checked os 6 .any (fun w args => (Rows.shaBytesSpec.pre enc Tryd.prog Tryd.f6 [] false w args ∧ laidMetH Tryd.prog laidK w) ∧ sizedMet enc Tryd.prog Tryd.f6 (OpenSpec.ofChange Rows.shaBytesSpec) false w args) (Rows.shaBytesSpec.post enc Tryd.prog Tryd.f6 false true false false) := by
  refine returnsInHanded_of_change_and (C := Tryd.checked) (X := fun w _ => laidMetH Tryd.prog laidK w) (fun _ _ _ hh h => h.of_heap hh) own started (by kernel_rfl) Tryd.func6
    (ChangeSpec.witness_shaped (enc := enc) (C := Tryd.checked) (os := os) (X := fun w _ => laidMetH Tryd.prog laidK w) false (World.doorLaid Tryd.prog 14 os) #[.string ⟨#[]⟩] 8 rfl (World.shaped_of_RefB (by kernel_rfl) (by kernel_rfl)) (by kernel_rfl) (by kernel_rfl) (by kernel_rfl) (door_met os _)) ?_
  intro W base args ds gs before hval0 hW _ hreach hL _
  have hval : ∀ (j : Nat) t v, Tryd.f6.params[j]? = some t → args[j]? = some v → Value.okWide Tryd.prog W .any base t v := hval0
  obtain ⟨p, q, hA0, _, _, _, _⟩ := id hW
  have hA : DataW.TrodAll enc Tryd.prog W 0 (fun _ => true) true Tryd.f6.params.toList args.toList ds p := hA0
  rw [Tryd.params6] at hA hval
  obtain ⟨v0, vs0, d0, ds0, p0, q0, hargs, rfl, rfl, h0, r0⟩ := trodAll_cons hA
  obtain ⟨rfl, rfl, rfl⟩ := trodAll_nil r0
  obtain rfl : args = #[v0] := by cases args; simp_all
  obtain ⟨a0, rfl, rfl, rfl, w0⟩ := Go.ChangeMaps.open_string Tryd.underlying9 (hval 0 9 v0 rfl rfl) h0
  refine (walk a0 w0 W (kub_of_laid hL)).mono fun e W' ⟨he, hg⟩ => ?_
  subst he
  exact ⟨_, rfl, law_post laidOut Tryd.underlying4 (by kernel_rfl) (by kernel_rfl) rfl hW (by simp [Rows.shaBytesSpec]) hg⟩

theorem row_proved : Rows.ShaBytesSaid :=
  OpenClaim.holds_of_wide 6 Tryd.f6 rfl rfl rfl rfl rfl rfl rfl ⟨rfl, rfl, rfl, rfl, rfl⟩ rfl rfl rfl rfl rfl (by kernel_rfl) Tryd.func6 (by kernel_rfl)
    (of_decide_eq_true (by kernel_rfl)) (by unfold Func.isWrapper; first | (rw [if_pos (by decide +kernel)]; kernel_rfl) | (rw [if_neg (by decide +kernel)]; exact ⟨rfl, rfl⟩))
    (fun os started H enc _ => lifted os started H enc)

theorem proved : Rows.ShaBytesCardSaid :=
  Claim7.holds_tied_plain_at .later [] [.data] true _ _
    row_proved (fun _ h => by cases h) (by kernel_rfl) (fun _ h => by cases h) shaBytes_row_tie rfl ⟨rfl, rfl⟩ (by kernel_rfl) rfl
    (fun f fn hf hfn => by
      obtain rfl : f = 6 := Option.some.inj ((show Tryd.prog.funcNamed "towline/towlinelaw3.ShaBytes" = some 6 by kernel_rfl).symm.trans hf) |>.symm
      obtain rfl : fn = Tryd.f6 := (Option.some.inj (Tryd.func6.symm.trans hfn)).symm
      exact ⟨by kernel_rfl, fun j t ht => by
        rw [Tryd.params6] at ht
        have hm : t ∈ [9] := by have := Array.mem_of_getElem? ht; simp at this; simp; omega
        have hall : ([9].all fun u => !Tryd.prog.wantsStandIn u) = true := by kernel_rfl
        exact (show Tryd.prog.wantsStandIn t = false by simpa using List.all_eq_true.1 hall t hm)⟩)
    (by kernel_rfl)
#print axioms proved
end Go.Proofs.YtgmlkgageblfgaaDoor.shaBytes
