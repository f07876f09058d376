/-
  What is built is read as what was handed in, under its key; a cookie with a byte less, or that is empty, is none: any text as a key (of at most 300 bytes), any state (with a text of at most 300); others are not asked of.
-/
import Derived.Test.YthfiebdpoleeeaaDoorLift
import Derived.Test.YthfiebdpoleeeaaDoorSn9
import Derived.Test.YthfiebdpoleeeaaDoorLaid
import Derived.Test.YthfiebdpoleeeaaDoorCards
import Derived.Test.YthfiebdpoleeeaaDoorTie
import Derived.SevenTiedAt
import Derived.Test.YthfiebdpoleeeaaDoorAr9
namespace Go.Proofs.YthfiebdpoleeeaaDoor.cookieBack
open Go.ChangeShapes Go.WideShapes Go.ChangeAt Go.RowKit
set_option linter.unusedVariables false

set_option maxHeartbeats 1000000 in
set_option maxRecDepth 100000 in
theorem walk (key : ByteArray) (s : St) (hs : InS s) (w : World) (hK : Kub w) :
    Calls Tryd.prog 5 #[.string key, .agg (cellsS s)] w fun e w' => e = .returned (.bool true) ∧ Below w.heap.size w w' := by
  have HS := Lib.hid (StS.new 25 s w)
  have HI := Lib.hid (sizeS s)
  have HE := Lib.hid (cellsS_one s)
  have HIz := Lib.hid (sizeS zeroS)
  have HEz := Lib.hid (cellsS_one zeroS)
  have HK := Lib.hid hK
  have HSH := Lib.hid (fun W => short_any s W)
  clear hK
  cases hsh : shortB s with
  | false =>
    rw [hsh] at HSH
    clear hsh hs
    go_enter Tryd.func5, Tryd.ntmps5
    go_wp2_with fail
    refine (shown_any _ (HK.out.later HS.out.below)).mono ?_
    rintro e w1 ⟨rfl, hb1⟩
    replace HS := Lib.hid (HS.out.later hb1)
    clear hb1
    go_wp2_with (refine wpList_load_want (by rfl) 25 (.tmp 3) rfl w.heap.size rfl 25 (cellsS s) (0, 0) _ HS.out.own Tryd.underlying25 rfl HI.out ?_)
    refine (HSH.out _).mono ?_
    rintro e w2 ⟨rfl, hb1⟩
    replace HS := Lib.hid (HS.out.later hb1)
    clear hb1
    go_wp2_with fail
    go_ret
    exact ⟨rfl, HS.out.below⟩
  | true =>
  rw [hsh] at HSH
  by_cases hk : 300 < key.size
  · have hk' : (300 : Int) < (key.size : Int) := by omega
    clear hsh hs hk
    go_enter Tryd.func5, Tryd.ntmps5
    go_wp2_with fail
    refine (shown_any _ (HK.out.later HS.out.below)).mono ?_
    rintro e w1 ⟨rfl, hb1⟩
    replace HS := Lib.hid (HS.out.later hb1)
    clear hb1
    go_wp2_with (refine wpList_load_want (by rfl) 25 (.tmp 3) rfl w.heap.size rfl 25 (cellsS s) (0, 0) _ HS.out.own Tryd.underlying25 rfl HI.out ?_)
    refine (HSH.out _).mono ?_
    rintro e w2 ⟨rfl, hb1⟩
    replace HS := Lib.hid (HS.out.later hb1)
    clear hb1
    go_wp2_with fail
    go_ret
    exact ⟨rfl, HS.out.below⟩
  have hk' : ¬ (300 : Int) < (key.size : Int) := by omega
  have hp : (s.peer.size : Int) ≤ 300 := of_decide_eq_true hsh
  have hb := fun W (h : Kub W) => build_any9 key s hs.wf (by omega) W h
  cases hr : rightS s with
  | false =>
    rw [buildK_wrong key hr] at hb
    have HB := Lib.hid hb
    have hri := fun W => right_any9 s W
    rw [hr] at hri
    have HR := Lib.hid hri
    clear hsh hs hk hp hb hri hr
    go_enter Tryd.func5, Tryd.ntmps5
    go_wp2_with fail
    refine (shown_any _ (HK.out.later HS.out.below)).mono ?_
    rintro e w1 ⟨rfl, hb1⟩
    replace HS := Lib.hid (HS.out.later hb1)
    clear hb1
    go_wp2_with (refine wpList_load_want (by rfl) 25 (.tmp 3) rfl w.heap.size rfl 25 (cellsS s) (0, 0) _ HS.out.own Tryd.underlying25 rfl HI.out ?_)
    refine (HSH.out _).mono ?_
    rintro e w2 ⟨rfl, hb1⟩
    replace HS := Lib.hid (HS.out.later hb1)
    clear hb1
    go_wp2_with (refine wpList_load_want (by rfl) 25 (.tmp 3) rfl w.heap.size rfl 25 (cellsS s) (0, 0) _ HS.out.own Tryd.underlying25 rfl HI.out ?_)
    refine (HB.out _ (HK.out.later HS.out.below)).mono ?_
    rintro e w3 ⟨rfl, hb1⟩
    replace HS := Lib.hid (HS.out.later hb1)
    clear hb1
    go_wp2_with (refine wpList_load_want (by rfl) 25 (.tmp 3) rfl w.heap.size rfl 25 (cellsS s) (0, 0) _ HS.out.own Tryd.underlying25 rfl HI.out ?_)
    refine (HR.out _).mono ?_
    rintro e w4 ⟨rfl, hb1⟩
    replace HS := Lib.hid (HS.out.later hb1)
    clear hb1
    go_wp2_with fail
    go_ret
    exact ⟨rfl, HS.out.below⟩
  | true =>
  rw [buildK_right key hr] at hb
  have hcs := cookie_size key s
  have h1 := fun W (h : Kub W) => read_any9 key (cookieB key s) (by omega) (by omega) W h
  rw [read_back hs.wf hr] at h1
  have hz : ((cookieB key s).extract 0 31).size < 32 := by rw [ByteArray.size_extract]; omega
  have h2 := fun W (h : Kub W) => read_any9 key ((cookieB key s).extract 0 31) (by omega) (by omega) W h
  rw [readK_short key hz] at h2
  have HB := Lib.hid hb
  have HR1 := Lib.hid h1
  have HR2 := Lib.hid h2
  generalize cookieB key s = C at *
  have q1 : (31 : Int) ≤ (C.size : Int) := by omega
  have q2 : (C.size : Int) = 85 + (s.peer.size : Int) := by omega
  have hq := fun W => eql_same s W
  clear hsh hs hk hb h1 h2 hz hcs hr
  go_enter Tryd.func5, Tryd.ntmps5
  go_wp2_with fail
  refine (shown_any _ (HK.out.later HS.out.below)).mono ?_
  rintro e w1 ⟨rfl, hb1⟩
  replace HS := Lib.hid (HS.out.later hb1)
  clear hb1
  go_wp2_with (refine wpList_load_want (by rfl) 25 (.tmp 3) rfl w.heap.size rfl 25 (cellsS s) (0, 0) _ HS.out.own Tryd.underlying25 rfl HI.out ?_)
  refine (HSH.out _).mono ?_
  rintro e w2 ⟨rfl, hb1⟩
  replace HS := Lib.hid (HS.out.later hb1)
  clear hb1
  go_wp2_with (refine wpList_load_want (by rfl) 25 (.tmp 3) rfl w.heap.size rfl 25 (cellsS s) (0, 0) _ HS.out.own Tryd.underlying25 rfl HI.out ?_)
  refine (HB.out _ (HK.out.later HS.out.below)).mono ?_
  rintro e w3 ⟨rfl, hb1⟩
  replace HS := Lib.hid (HS.out.later hb1)
  clear hb1
  go_wp2_with fail
  refine (HR1.out _ (HK.out.later HS.out.below)).mono ?_
  rintro e w4 ⟨rfl, hb1⟩
  replace HS := Lib.hid ((HS.out.later hb1).later ((Below.refl _ _).alloc (Nat.le_refl _) (.cells (cellsS s) 25)))
  have HO := Lib.hid (heap_alloc_new w4 (.cells (cellsS s) 25))
  clear hb1
  go_wp2_with (refine wpList_store_row rfl 25 (.tmp 9) (.tmp 47) rfl w4.heap.size (cellsS s) rfl rfl 25 #[.int .u32 0, .int .u32 0, .int .u32 0, .int .u32 0, .int .u32 0, .int .u32 0, .int .u32 0, .int .u16 0, .int .u16 0, .int .u16 0, .int .u16 0, .string ⟨#[]⟩, .int .i64 0, .int .i64 0] (heap_alloc_new _ _) HI.out rfl HE.out ?_; rw [World.setRow_alloc_new])
  refine (HR2.out _ (HK.out.later HS.out.below)).mono ?_
  rintro e w5 ⟨rfl, hb1⟩
  replace HS := Lib.hid ((HS.out.later hb1).later ((Below.refl _ _).alloc (Nat.le_refl _) (.cells (cellsS zeroS) 25)))
  replace HO := Lib.hid ((heap_alloc_old w5 (.cells (cellsS zeroS) 25) (Nat.lt_of_lt_of_le (Array.getElem?_eq_some_iff.1 HO.out).1 hb1.size)).trans ((hb1.block w4.heap.size (Array.getElem?_eq_some_iff.1 HO.out).1).trans HO.out))
  clear hb1
  have k11 : (w5.alloc (.cells (cellsS zeroS) 25)).cell? ⟨w.heap.size, 11, none⟩ = some (.string s.peer) := by rw [cell_in HS.out.own]; rfl
  go_wp2_with (first
      | (refine wpList_store_row rfl 25 (.tmp 11) (.tmp 54) rfl w5.heap.size (cellsS zeroS) rfl rfl 25 #[.int .u32 0, .int .u32 0, .int .u32 0, .int .u32 0, .int .u32 0, .int .u32 0, .int .u32 0, .int .u16 0, .int .u16 0, .int .u16 0, .int .u16 0, .string ⟨#[]⟩, .int .i64 0, .int .i64 0] (heap_alloc_new _ _) HIz.out rfl HEz.out ?_; rw [World.setRow_alloc_new])
      | (refine wpList_load_want (by rfl) 25 (.tmp 9) rfl w4.heap.size rfl 25 (cellsS s) (0, 0) _ HO.out Tryd.underlying25 rfl HI.out ?_)
      | (refine wpList_load_want (by rfl) 25 (.tmp 3) rfl w.heap.size rfl 25 (cellsS s) (0, 0) _ HS.out.own Tryd.underlying25 rfl HI.out ?_))
  go_ret
  exact ⟨rfl, HS.out.below⟩

set_option maxRecDepth 100000 in
theorem lifted (os : Os) (started : os.Started) (H : Type) (enc : TypeId × Value → H) :
    ReturnsInHanded {} Tryd.checked os 5 .any (fun w args => (Rows.cookieBackSpec.pre enc Tryd.prog Tryd.f5 [] false w args ∧ laidMetH Tryd.prog laidK w) ∧ sizedMet enc Tryd.prog Tryd.f5 (OpenSpec.ofChange Rows.cookieBackSpec) false w args) (Rows.cookieBackSpec.post enc Tryd.prog Tryd.f5 false true false false) := by
  refine returnsInHanded_of_change_and (C := Tryd.checked) (X := fun w _ => laidMetH Tryd.prog laidK w) (fun _ _ _ hh h => h.of_heap hh) own started (by kernel_rfl) Tryd.func5
    (ChangeSpec.witness_shaped (enc := enc) (C := Tryd.checked) (os := os) (X := fun w _ => laidMetH Tryd.prog laidK w) false (World.doorLaid Tryd.prog 14 os) #[.string ⟨#[]⟩, .agg #[.int .u32 0, .int .u32 0, .int .u32 0, .int .u32 0, .int .u32 0, .int .u32 0, .int .u32 0, .int .u16 0, .int .u16 0, .int .u16 0, .int .u16 0, .string ⟨#[]⟩, .int .i64 0, .int .i64 0]] 8 rfl (World.shaped_of_RefB (by kernel_rfl) (by kernel_rfl)) (by kernel_rfl) (by kernel_rfl) (by kernel_rfl) (door_met os _)) ?_
  intro W base args ds gs before hval0 hW _ hreach hL _
  have hval : ∀ (j : Nat) t v, Tryd.f5.params[j]? = some t → args[j]? = some v → Value.okWide Tryd.prog W .any base t v := hval0
  obtain ⟨p, q, hA0, _, _, _, _⟩ := id hW
  have hA : DataW.TrodAll enc Tryd.prog W 0 (fun _ => true) true Tryd.f5.params.toList args.toList ds p := hA0
  rw [Tryd.params5] at hA hval
  obtain ⟨v0, vs0, d0, ds0, p0, q0, hargs, rfl, rfl, h0, r0⟩ := trodAll_cons hA
  obtain ⟨v1, vs1, d1, ds1, p1, q1, rfl, rfl, rfl, h1, r1⟩ := trodAll_cons r0
  obtain ⟨rfl, rfl, rfl⟩ := trodAll_nil r1
  obtain rfl : args = #[v0, v1] := by cases args; simp_all
  obtain ⟨a0, rfl, rfl, rfl, w0⟩ := Go.ChangeMaps.open_string Tryd.underlying9 (hval 0 9 v0 rfl rfl) h0
  obtain ⟨s1, rfl, i1⟩ := state_in (hval 1 25 v1 rfl rfl) h1
  refine (walk a0 s1 i1 W (kub_of_laid hL)).mono fun e W' ⟨he, hg⟩ => ?_
  subst he
  exact ⟨_, rfl, law_post laidOut Tryd.underlying4 (by kernel_rfl) (by kernel_rfl) rfl hW (by simp [Rows.cookieBackSpec]) hg⟩

theorem row_proved : Rows.CookieBackSaid :=
  OpenClaim.holds_of_wide 5 Tryd.f5 rfl rfl rfl rfl rfl rfl rfl ⟨rfl, rfl, rfl, rfl, rfl⟩ rfl rfl rfl rfl rfl (by kernel_rfl) Tryd.func5 (by kernel_rfl)
    (of_decide_eq_true (by kernel_rfl)) (by unfold Func.isWrapper; first | (rw [if_pos (by decide +kernel)]; kernel_rfl) | (rw [if_neg (by decide +kernel)]; exact ⟨rfl, rfl⟩))
    (fun os started H enc _ => lifted os started H enc)

theorem proved : Rows.CookieBackCardSaid :=
  Claim7.holds_tied_plain_at .later [] [.data] true _ _
    row_proved (fun _ h => by cases h) (by kernel_rfl) (fun _ h => by cases h) cookieBack_row_tie rfl ⟨rfl, rfl⟩ (by kernel_rfl) rfl
    (fun f fn hf hfn => by
      obtain rfl : f = 5 := Option.some.inj ((show Tryd.prog.funcNamed "towline/towlinelaw9.CookieBack" = some 5 by kernel_rfl).symm.trans hf) |>.symm
      obtain rfl : fn = Tryd.f5 := (Option.some.inj (Tryd.func5.symm.trans hfn)).symm
      exact ⟨by kernel_rfl, fun j t ht => by
        rw [Tryd.params5] at ht
        have hm : t ∈ [9, 25] := by have := Array.mem_of_getElem? ht; simp at this; simp; first | omega | (rcases this with h | h <;> simp [h]) | (rcases this with h | h | h <;> simp [h]) | (rcases this with h | h | h | h <;> simp [h])
        have hall : ([9, 25].all fun u => !Tryd.prog.wantsStandIn u) = true := by kernel_rfl
        exact (show Tryd.prog.wantsStandIn t = false by simpa using List.all_eq_true.1 hall t hm)⟩)
    (by kernel_rfl)
#print axioms proved
end Go.Proofs.YthfiebdpoleeeaaDoor.cookieBack
