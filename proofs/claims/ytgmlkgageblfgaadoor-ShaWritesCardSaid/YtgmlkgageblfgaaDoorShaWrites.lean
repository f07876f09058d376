/-
  It does not matter how a text is cut into what is written, nor whether a digest is asked for between: any texts (of at most 20, each of at most 500 bytes; others are not asked of).
-/
import Derived.Test.YtgmlkgageblfgaaDoorLift
import Derived.Test.YtgmlkgageblfgaaDoorShown
import Derived.Test.YtgmlkgageblfgaaDoorLaid
import Derived.Test.YtgmlkgageblfgaaDoorCards
import Derived.Test.YtgmlkgageblfgaaDoorTie
import Derived.SevenTiedAt
import Derived.Test.YtgmlkgageblfgaaDoorText
import Derived.RegionCalls
import Derived.Deep.RegionHeld3
import Derived.Test.YtgmlkgageblfgaaDoorHashed
import Derived.Test.YtgmlkgageblfgaaDoorOpen
namespace Go.Proofs.YtgmlkgageblfgaaDoor.shaWrites
open Go.ChangeShapes Go.WideShapes Go.ChangeAt Go.RowKit
set_option linter.unusedVariables false

set_option maxHeartbeats 1000000 in
set_option maxRecDepth 100000 in
theorem walk (v : Value) (l : List ByteArray) (w : World) (hv : RowE encS w v l) (hK : Kub w) :
    Calls Tryd.prog 5 #[v] w fun e w' => e = .returned (.bool true) ∧ Below w.heap.size w w' := by
  have HB := Lib.hid (Below.refl w.heap.size w)
  have HK := Lib.hid hK
  clear hK
  obtain ⟨A, cap, rfl, hcap, hmax, hcells⟩ := hv
  have HC := Lib.hid hcells
  clear hcells
  unfold maxLen at hmax
  generalize hn : l.length = n at *
  have HN := Lib.hid hn
  clear hn
  by_cases hl : 20 < n
  · go_enter Tryd.func5, Tryd.ntmps5
    go_wp2_with (go_at_call 8; ((with_reducible refine (shown_any _ (HK.out.later HB.out)).mono ?_); rintro e w1 ⟨rfl, hb1⟩); replace HB := Lib.hid (HB.out.trans (hb1.mono HB.out.size)); clear hb1)
    go_ret
    exact ⟨rfl, HB.out⟩
  go_enter Tryd.func5, Tryd.ntmps5
  go_wp2_with fail
  refine (shown_any w HK.out).mono ?_
  rintro e w1 ⟨rfl, hb1⟩
  have HB1 := Lib.hid (HB.out.trans (hb1.mono HB.out.size))
  clear hb1 HB
  go_wp2_with fail
  have HS0 : Hid (Hs w w1.heap.size (⟨#[]⟩ : ByteArray).data.toList _) := Lib.hid (Hs.begun HB1.out)
  generalize w1.heap.size = a at *
  generalize World.alloc w1 _ = w2 at *
  clear HB1
  go_loopw [5, 6] (fun sv i wr => ∃ (k : Nat) (x : ByteArray), k ≤ n ∧ i = .int .i64 k ∧ sv = .string x ∧ x.size ≤ 500 * k ∧ Hid (Hs w a x.data.toList wr)) (fun _ i _ => n - (intOf i).toNat)
  case atStart => exact ⟨0, ⟨#[]⟩, by omega, rfl, rfl, by decide, HS0⟩
  case round =>
    obtain ⟨k, x, hk, rfl, rfl, hx, HS⟩ := hrel
    have hga : 0 < a := Nat.lt_of_lt_of_le HK.out.1 HS.out.2.2
    by_cases hlt : k < n
    · obtain ⟨b, off, rfl, hbl, hcell⟩ := HC.out (by omega)
      have HCL := Lib.hid (show ∀ W, Below w.heap.size w W → W.cell? ⟨b, off + k, none⟩ = some (.string l[k]!) from fun W hW => (hW.cell (p := ⟨b, off + k, none⟩) hbl).trans (hcell k hlt))
      generalize l[k]! = y at *
      clear hcell
      have c0 := HCL.out wr HS.out.2.1
      have z0 : (0 : Int) ≤ (k : Int) := by omega
      have z1 : (k : Int) < (n : Int) := by omega
      by_cases hy : 500 < y.size
      · go_wp2_with fail
        go_ret
        exact ⟨rfl, HS.out.2.1⟩
      · have hxl : x.data.toList.length + y.size ≤ 1000000000 := by simp; omega
        have HXL := Lib.hid hxl
        clear hxl
        go_wp2_with fail
        refine (hwrite_any a x.data.toList y wr HS.out.1 (HK.out.later HS.out.below) hga HXL.out).mono ?_
        rintro e w3 ⟨rfl, hN, hg⟩
        have hxy : x.data.toList ++ y.data.toList = (x ++ y).data.toList := by simp
        rw [hxy] at hN
        have HS3 := Lib.hid (HS.out.wrote hN hg)
        clear hN hg HXL hxy c0 HS
        have c3 := HCL.out w3 HS3.out.2.1
        have hxyz : (x ++ y).size ≤ 500 * (k + 1) := by rw [ByteArray.size_append]; omega
        have HS := HS3
        clear HS3
        obtain ⟨D, hD⟩ : ∃ D : ByteArray, D = digestOf (x ++ y) := ⟨_, rfl⟩
        have h32 : D.size = 32 := by rw [hD]; exact digest_size _
        have hsl : (x ++ y).data.toList.length ≤ 900000000 := by simp; omega
        have HSUM := Lib.hid (show ∀ W, Hs w a (x ++ y).data.toList W → Calls Tryd.prog 14 #[.pointer (some ⟨a, 0, none⟩)] W fun e w' => e = .returned (.string D) ∧ Below W.heap.size W w' from fun W h => by rw [hD]; exact hsumM_any a (x ++ y).data.toList W h.1 (HK.out.later h.2.1) hsl)
        have SUM := Lib.hid (show ∀ W, Kub W → Calls Tryd.prog 9 #[.string (x ++ y)] W fun e w' => e = .returned (.string D) ∧ Below W.heap.size W w' from fun W h => by rw [hD]; exact sum_any (x ++ y) (by omega) W h)
        have REF := Lib.hid (show ∀ W, Calls Tryd.prog 10 #[.string (x ++ y)] W fun e w' => e = .returned (.string D) ∧ Below W.heap.size W w' from fun W => by rw [hD]; exact rsum_any (x ++ y) (by omega) W)
        clear hD hsl
        go_wp2_with (first
    | (go_at_call 14; ((with_reducible refine (HSUM.out _ HS.out).mono ?_); rintro e w1 ⟨rfl, hb1⟩); replace HS := Lib.hid (HS.out.later hb1); clear hb1)
    | (go_at_call 9; ((with_reducible refine (SUM.out _ (HK.out.later HS.out.below)).mono ?_); rintro e w1 ⟨rfl, hb1⟩); replace HS := Lib.hid (HS.out.later hb1); clear hb1))
        go_roundw
        case rel => exact ⟨k + 1, x ++ y, by omega, by go_num, rfl, hxyz, HS⟩
        case measure => simp [intOf]; omega
    · obtain rfl : k = n := by omega
      obtain ⟨D, hD⟩ : ∃ D : ByteArray, D = digestOf x := ⟨_, rfl⟩
      have h32 : D.size = 32 := by rw [hD]; exact digest_size _
      have hsl : x.data.toList.length ≤ 900000000 := by simp; omega
      have HSUM := Lib.hid (show ∀ W, Hs w a x.data.toList W → Calls Tryd.prog 14 #[.pointer (some ⟨a, 0, none⟩)] W fun e w' => e = .returned (.string D) ∧ Below W.heap.size W w' from fun W h => by rw [hD]; exact hsumM_any a x.data.toList W h.1 (HK.out.later h.2.1) hsl)
      have SUM := Lib.hid (show ∀ W, Kub W → Calls Tryd.prog 9 #[.string x] W fun e w' => e = .returned (.string D) ∧ Below W.heap.size W w' from fun W h => by rw [hD]; exact sum_any x (by omega) W h)
      have REF := Lib.hid (show ∀ W, Calls Tryd.prog 10 #[.string x] W fun e w' => e = .returned (.string D) ∧ Below W.heap.size W w' from fun W => by rw [hD]; exact rsum_any x (by omega) W)
      clear hD hsl
      go_wp2_with (first
    | (go_at_call 14; ((with_reducible refine (HSUM.out _ HS.out).mono ?_); rintro e w1 ⟨rfl, hb1⟩); replace HS := Lib.hid (HS.out.later hb1); clear hb1)
    | (go_at_call 9; ((with_reducible refine (SUM.out _ (HK.out.later HS.out.below)).mono ?_); rintro e w1 ⟨rfl, hb1⟩); replace HS := Lib.hid (HS.out.later hb1); clear hb1)
    | (go_at_call 10; ((with_reducible refine (REF.out _).mono ?_); rintro e w1 ⟨rfl, hb1⟩); replace HS := Lib.hid (HS.out.later hb1); clear hb1))
      go_ret
      exact ⟨rfl, HS.out.2.1⟩

set_option maxRecDepth 100000 in
theorem lifted (os : Os) (started : os.Started) (H : Type) (enc : TypeId × Value → H) :
    ReturnsInHanded {} Tryd.checked os 5 .any (fun w args => (Rows.shaWritesSpec.pre enc Tryd.prog Tryd.f5 [] false w args ∧ laidMetH Tryd.prog laidK w) ∧ sizedMet enc Tryd.prog Tryd.f5 (OpenSpec.ofChange Rows.shaWritesSpec) false w args) (Rows.shaWritesSpec.post enc Tryd.prog Tryd.f5 false true false false) := by
  refine returnsInHanded_of_change_and (C := Tryd.checked) (X := fun w _ => laidMetH Tryd.prog laidK w) (fun _ _ _ hh h => h.of_heap hh) own started (by kernel_rfl) Tryd.func5
    (ChangeSpec.witness_shaped (enc := enc) (C := Tryd.checked) (os := os) (X := fun w _ => laidMetH Tryd.prog laidK w) false (World.doorLaid Tryd.prog 14 os) #[.slice none 0 0] 8 rfl (World.shaped_of_RefB (by kernel_rfl) (by kernel_rfl)) (by kernel_rfl) (by kernel_rfl) (by kernel_rfl) (door_met os _)) ?_
  intro W base args ds gs before hval0 hW _ hreach hL _
  have hval : ∀ (j : Nat) t v, Tryd.f5.params[j]? = some t → args[j]? = some v → Value.okWide Tryd.prog W .any base t v := hval0
  obtain ⟨p, q, hA0, _, _, _, _⟩ := id hW
  have hA : DataW.TrodAll enc Tryd.prog W 0 (fun _ => true) true Tryd.f5.params.toList args.toList ds p := hA0
  rw [Tryd.params5] at hA hval
  obtain ⟨v0, vs0, d0, ds0, p0, q0, hargs, rfl, rfl, h0, r0⟩ := trodAll_cons hA
  obtain ⟨rfl, rfl, rfl⟩ := trodAll_nil r0
  obtain rfl : args = #[v0] := by cases args; simp_all
  obtain ⟨l0, w0, s0⟩ := strings_in (hval 0 27 v0 rfl rfl) h0
  refine (walk v0 l0 W w0 (kub_of_laid hL)).mono fun e W' ⟨he, hg⟩ => ?_
  subst he
  exact ⟨_, rfl, law_post laidOut Tryd.underlying4 (by kernel_rfl) (by kernel_rfl) rfl hW (by simp [Rows.shaWritesSpec]) hg⟩

theorem row_proved : Rows.ShaWritesSaid :=
  OpenClaim.holds_of_wide 5 Tryd.f5 rfl rfl rfl rfl rfl rfl rfl ⟨rfl, rfl, rfl, rfl, rfl⟩ rfl rfl rfl rfl rfl (by kernel_rfl) Tryd.func5 (by kernel_rfl)
    (of_decide_eq_true (by kernel_rfl)) (by unfold Func.isWrapper; first | (rw [if_pos (by decide +kernel)]; kernel_rfl) | (rw [if_neg (by decide +kernel)]; exact ⟨rfl, rfl⟩))
    (fun os started H enc _ => lifted os started H enc)

theorem proved : Rows.ShaWritesCardSaid :=
  Claim7.holds_tied_plain_at .later [] [.data] true _ _
    row_proved (fun _ h => by cases h) (by kernel_rfl) (fun _ h => by cases h) shaWrites_row_tie rfl ⟨rfl, rfl⟩ (by kernel_rfl) rfl
    (fun f fn hf hfn => by
      obtain rfl : f = 5 := Option.some.inj ((show Tryd.prog.funcNamed "towline/towlinelaw3.ShaWrites" = some 5 by kernel_rfl).symm.trans hf) |>.symm
      obtain rfl : fn = Tryd.f5 := (Option.some.inj (Tryd.func5.symm.trans hfn)).symm
      exact ⟨by kernel_rfl, fun j t ht => by
        rw [Tryd.params5] at ht
        have hm : t ∈ [27] := by have := Array.mem_of_getElem? ht; simp at this; simp; omega
        have hall : ([27].all fun u => !Tryd.prog.wantsStandIn u) = true := by kernel_rfl
        exact (show Tryd.prog.wantsStandIn t = false by simpa using List.all_eq_true.1 hall t hm)⟩)
    (by kernel_rfl)
#print axioms proved
end Go.Proofs.YtgmlkgageblfgaaDoor.shaWrites
