/-
  The paths of addresses, or what is wrong, and the number of one: any texts, any number.
-/
import Derived.Test.YteiifkooegpdaaaLift
import Derived.Test.YteiifkooegpdaaaArgs
import Derived.Test.YteiifkooegpdaaaPaR
import Derived.Test.YteiifkooegpdaaaPaP
import Derived.SliceStrings
namespace Go.Proofs.Yteiifkooegpdaaa.pathNews
open Go.ChangeShapes Go.WideShapes Go.ChangeAt Go.RowKit
set_option linter.unusedVariables false

set_option maxRecDepth 100000 in
/-- A list of texts, as it comes in. -/
theorem strings_in {H : Type} {enc : TypeId × Value → H} {W : World} {v : Value} {d : DataW H} {ps : List MemPlace} {base : Nat} (hval : Value.okWide Try.prog W .any base 22 v) (h : DataW.Trod enc Try.prog W 0 (fun _ => true) true 22 v d ps) :
    ∃ l : List ByteArray, RowE encS W v l ∧ ∀ s ∈ l, s.size ≤ maxLen := by
  have hc : Try.prog.cellsOf 9 = 1 := by kernel_rfl
  obtain ⟨a0, len, cap, rfl⟩ := okWide_slice Try.underlying22 hval
  obtain ⟨fuel, hf⟩ := h
  rcases open_strings Try.underlying22 Try.underlying9 hc hf with ⟨hcs, _⟩ | ⟨a, len', cap', zs, hcs, _, hl, hm, hz, _, hcell, hwz⟩
  · simp [Value.cells] at hcs
    obtain ⟨rfl, rfl, rfl⟩ := hcs
    exact ⟨[], RowE.nil _ _, by simp⟩
  · simp [Value.cells] at hcs
    obtain ⟨rfl, rfl, rfl⟩ := hcs
    simp only [if_true] at hz
    have hll : (zs.take len).length = len := by simp; omega
    refine ⟨zs.take len, ⟨some a, cap, by rw [hll], by omega, hm, fun hp => ?_⟩, fun s hs => hwz s (List.mem_of_mem_take hs)⟩
    have h0 := hcell 0 (by omega)
    have hspot : a.spot = none := by simpa [Addr.add] using World.cell?_spot h0
    obtain ⟨b, off, spot⟩ := a
    simp only at hspot
    subst hspot
    have hb : b < W.heap.size := World.block_lt_of_cell? _ _ (by rw [addr_plain] at h0; exact h0)
    refine ⟨b, off, rfl, hb, fun j hj => ?_⟩
    have hj' : j < zs.length := by omega
    have h1 := hcell j hj'
    rw [addr_plain] at h1
    rw [h1, getElem!_pos _ j (by omega), List.getD_eq_getElem?_getD, List.getElem?_eq_getElem hj']
    simp [encS]

set_option maxHeartbeats 4000000 in
set_option maxRecDepth 100000 in
theorem walk (l : List ByteArray) (hs : ∀ s ∈ l, s.size ≤ maxLen) (peer : Int) (s : ByteArray) (hsz : s.size ≤ maxLen) (v : Value) (w : World) (hv : RowE encS w v l) : Calls Try.prog 3 #[v, .int .i64 peer, .string s] w fun e w' => e = .returned (.bool true) ∧ Below w.heap.size w w' := by
  have HS := Lib.hid (fun W => shown_any W)
  have HSM := Lib.hid (fun W h => small_any l hs v W h)
  have HV := Lib.hid (fun (W : World) (h : Below w.heap.size w W) => hv.below h)
  have HB := Lib.hid (Below.refl w.heap.size w)
  unfold maxLen at hsz
  have hsz' : (s.size : Int) ≤ 9223372036854775807 := by omega
  have HSL := Lib.hid (fun (h : smallB l = true) => show l.length ≤ 30 by unfold smallB at h; rw [Bool.and_eq_true] at h; exact of_decide_eq_true h.1)
  have HSS := Lib.hid hs
  clear hsz hs hv
  cases hsm : smallB l with
  | false =>
    rw [hsm] at HSM
    go_enter Try.func3, Try.ntmps3
    go_wp2_with (first
    | (go_at_call 8; (with_reducible refine (HS.out _).mono ?_); rintro e w1 ⟨rfl, hb1⟩; replace HB := Lib.hid (HB.out.trans (hb1.mono HB.out.size)); clear hb1)
    | (go_at_call 9; (with_reducible refine (HSM.out _ (HV.out _ HB.out)).mono ?_); rintro e w1 ⟨rfl, rfl⟩))
    go_ret
    exact ⟨rfl, HB.out⟩
  | true =>
    rw [hsm] at HSM
    by_cases h100 : (100 : Int) < (s.size : Int)
    · go_enter Try.func3, Try.ntmps3
      go_wp2_with (first
    | (go_at_call 8; (with_reducible refine (HS.out _).mono ?_); rintro e w1 ⟨rfl, hb1⟩; replace HB := Lib.hid (HB.out.trans (hb1.mono HB.out.size)); clear hb1)
    | (go_at_call 9; (with_reducible refine (HSM.out _ (HV.out _ HB.out)).mono ?_); rintro e w1 ⟨rfl, rfl⟩))
      go_ret
      exact ⟨rfl, HB.out⟩
    have hl30 := HSL.out hsm
    have HN := Lib.hid (fun W h => new_all l (by omega) HSS.out peer v W h)
    have HR := Lib.hid (fun W h => rnew_all l (by omega) HSS.out peer v W h)
    have HLN : Hid ((newPs l peer).l.length ≤ 100000) := Lib.hid (by
      by_cases h : newE l = 0
      · have e : (newPs l peer).l = newL l peer := by simp [newPs, h]
        rw [e, newL_length]; omega
      · have e : (newPs l peer).l = [] := by simp [newPs, h, zeroPs]
        rw [e]; simp)
    generalize (newPs l peer).l = P at *
    generalize newE l = E at *
    obtain ⟨F, hF⟩ : ∃ F, findI P s = F := ⟨_, rfl⟩
    have HAS := Lib.hid (fun v W h => as_any P HLN.out v 0 0 W h)
    have HSA := Lib.hid (fun v1 v2 W h1 h2 => same_any P HLN.out v1 v2 0 0 W h1 h2)
    have HF1 := Lib.hid (fun v W h => find_any P HLN.out v 0 0 s W h)
    have HF2 := Lib.hid (fun v W h => rfind_any P HLN.out v 0 0 s W h)
    rw [hF] at HF1 HF2
    clear hF HLN HSL hsm HSS
    go_enter Try.func3, Try.ntmps3
    go_wp2_with (first
    | (go_at_call 8; (with_reducible refine (HS.out _).mono ?_); rintro e w1 ⟨rfl, hb1⟩; replace HB := Lib.hid (HB.out.trans (hb1.mono HB.out.size)); clear hb1)
    | (go_at_call 9; (with_reducible refine (HSM.out _ (HV.out _ HB.out)).mono ?_); rintro e w1 ⟨rfl, rfl⟩))
    refine (HN.out _ (HV.out _ HB.out)).mono ?_
    rintro e w1 ⟨v1, rfl, hr1, hb1⟩
    replace HB := Lib.hid (HB.out.trans (hb1.mono HB.out.size))
    have HR1 := Lib.hid hr1
    obtain ⟨A1, c1, rfl, -, -, -⟩ := hr1
    clear hb1
    obtain ⟨W2, hW2, HQ1, HB2, hs2⟩ := one_open w1 27 #[.slice none 0 0, .int .i64 0, .int .i64 0]
    go_wp2_with ((with_reducible refine gate9 ?_); refine stB (ty := 27) #[.slice A1 P.length c1, .int .i64 0, .int .i64 0] rfl rfl rfl rfl HQ1.out infoPs rfl (cells3_one _ _ _ _ _) ?_; intro w3 ht hg; replace HB2 := Lib.hid (below_of_grown1 HB2.out hg HB2.out.size (Nat.le_refl _)); replace HQ1 := Lib.hid ht; clear ht hg)
    replace HR1 := Lib.hid (HR1.out.below HB2.out)
    replace HB := Lib.hid (HB.out.trans (HB2.out.mono HB.out.size))
    clear HB2 hs2 hW2
    refine (HR.out _ (HV.out _ HB.out)).mono ?_
    rintro e w4 ⟨v2, rfl, hr2, hb1⟩
    replace HB := Lib.hid (HB.out.trans (hb1.mono HB.out.size))
    replace HR1 := Lib.hid (HR1.out.below hb1)
    replace HQ1 := Lib.hid (HQ1.out.later hb1)
    have HR2 := Lib.hid hr2
    obtain ⟨A2, c2, rfl, -, -, -⟩ := hr2
    clear hb1
    obtain ⟨W5, hW5, HQ2, HB5, hs5⟩ := one_open w4 33 #[.slice none 0 0, .int .i64 0, .int .i64 0]
    go_wp2_with ((with_reducible refine gate9 ?_); refine stB (ty := 33) #[.slice A2 P.length c2, .int .i64 0, .int .i64 0] rfl rfl rfl rfl HQ2.out infoRPs rfl (cells3_one _ _ _ _ _) ?_; intro w6 ht hg; replace HB5 := Lib.hid (below_of_grown1 HB5.out hg HB5.out.size (Nat.le_refl _)); replace HQ2 := Lib.hid ht; clear ht hg)
    replace HR1 := Lib.hid (HR1.out.below HB5.out)
    replace HR2 := Lib.hid (HR2.out.below HB5.out)
    replace HQ1 := Lib.hid (HQ1.out.later HB5.out)
    replace HB := Lib.hid (HB.out.trans (HB5.out.mono HB.out.size))
    clear HB5 hs5 hW5 HN HR HS HSM HV
    refine wp_region_noPanic ?_
    have HS := Lib.hid (And.intro HQ1.out.drew HQ2.out.drew)
    have HR1' := Lib.hid (fun (V : World) (h : Below w6.drew.heap.size w6.drew V) => RowP.below (show RowP w6.drew _ P from HR1.out) h)
    have HR2' := Lib.hid (fun (V : World) (h : Below w6.drew.heap.size w6.drew V) => RowP.below (show RowP w6.drew _ P from HR2.out) h)
    have HBW := Lib.hid (Below.refl w6.drew.heap.size w6.drew)
    replace HB := Lib.hid (below_drawn HB.out)
    clear HR1 HR2 HQ1 HQ2
    refine wp_region_waits (S := fun V => Bx V _ 27 #[.slice A1 P.length c1, .int .i64 0, .int .i64 0] ∧ Bx V _ 33 #[.slice A2 P.length c2, .int .i64 0, .int .i64 0]) [] (by kernel_rfl) HS.out (fun hHeld => ?_)
    refine wpAnyW_take (i := 0) (v := _) (by simp only [List.getElem?_toArray, List.getElem?_cons_zero]; rfl) (by kernel_rfl) (by kernel_rfl) (by kernel_rfl) (by kernel_rfl) (by kernel_rfl) (fun _ _ _ h => h) (yB (by rfl) rfl rfl (fun V h => h.1) Try.underlying27 rfl infoPs) (by assumption) ?_
    try simp only [Act.put, List.setIfInBounds_toArray, List.set_cons_zero, List.set_cons_succ]
    refine wpAnyW_take (i := 2) (v := _) (by simp only [List.getElem?_toArray, List.getElem?_cons_succ, List.getElem?_cons_zero]; rfl) (by kernel_rfl) (by kernel_rfl) (by kernel_rfl) (by kernel_rfl) (by kernel_rfl) (fun _ _ _ h => h) (yB (by rfl) rfl rfl (fun V h => h.2) Try.underlying33 rfl infoRPs) (by assumption) ?_
    try simp only [Act.put, List.setIfInBounds_toArray, List.set_cons_zero, List.set_cons_succ]
    refine wpAnyW_held (i := 1) (by kernel_rfl) (by simp only [List.getElem?_toArray, List.getElem?_cons_succ, List.getElem?_cons_zero]; rfl) (fun K hK => ?_)
    rw [if_pos (by rfl)]
    go_simp
    refine (HAS.out _ _ (HR1'.out _ HBW.out)).mono ?_
    rintro _ w7 ⟨v3, rfl, hr3, hb1, _⟩
    clear hHeld
    replace HS := Lib.hid (And.intro (HS.out.1.later hb1) (HS.out.2.later hb1))
    replace HBW := Lib.hid (HBW.out.trans (hb1.mono HBW.out.size))
    have HR3 := Lib.hid hr3; clear hr3; clear hb1
    go_wp2_with fail
    refine hK.out _ _ HS.out (fun hHeld => ?_)
    clear hK K
    try simp only [Act.put, List.setIfInBounds_toArray, List.set_cons_zero, List.set_cons_succ]
    refine wpAnyW_held (i := 3) (by kernel_rfl) (by simp only [List.getElem?_toArray, List.getElem?_cons_succ, List.getElem?_cons_zero]; rfl) (fun K hK => ?_)
    rw [if_pos (by rfl)]
    go_simp
    refine (HSA.out _ _ _ HR3.out (HR2'.out _ HBW.out)).mono ?_
    rintro _ w8 ⟨rfl, hb1⟩
    clear hHeld
    replace HS := Lib.hid (And.intro (HS.out.1.later hb1) (HS.out.2.later hb1))
    replace HBW := Lib.hid (HBW.out.trans (hb1.mono HBW.out.size))
    clear hb1
    go_wp2_with fail
    refine hK.out _ _ HS.out (fun hHeld => ?_)
    clear hK K
    try simp only [Act.put, List.setIfInBounds_toArray, List.set_cons_zero, List.set_cons_succ]
    refine wpAnyW_take (i := 4) (v := ?_) (by simp only [List.getElem?_toArray, List.getElem?_cons_succ, List.getElem?_cons_zero]; rfl) (by kernel_rfl) (by kernel_rfl) (by kernel_rfl) (by kernel_rfl) (by kernel_rfl) (fun _ _ _ h => h) (Or.inl ⟨by rfl, ?_⟩) (by assumption) ?_
    rotate_left 1
    · (intro w' hSw; go_simp; try with_reducible rfl)
    try simp only [Act.put, List.setIfInBounds_toArray, List.set_cons_zero, List.set_cons_succ]
    refine wpAnyW_take (i := 5) (v := ?_) (by simp only [List.getElem?_toArray, List.getElem?_cons_succ, List.getElem?_cons_zero]; rfl) (by kernel_rfl) (by kernel_rfl) (by kernel_rfl) (by kernel_rfl) (by kernel_rfl) (fun _ _ _ h => h) (Or.inl ⟨by rfl, ?_⟩) (by assumption) ?_
    rotate_left 1
    · (intro w' hSw; go_simp; try with_reducible rfl)
    try simp only [Act.put, List.setIfInBounds_toArray, List.set_cons_zero, List.set_cons_succ]
    refine wpAnyW_take (i := 6) (v := ?_) (by simp only [List.getElem?_toArray, List.getElem?_cons_succ, List.getElem?_cons_zero]; rfl) (by kernel_rfl) (by kernel_rfl) (by kernel_rfl) (by kernel_rfl) (by kernel_rfl) (fun _ _ _ h => h) (Or.inl ⟨by rfl, ?_⟩) (by assumption) ?_
    rotate_left 1
    · (intro w' hSw; go_simp; try with_reducible rfl)
    try simp only [Act.put, List.setIfInBounds_toArray, List.set_cons_zero, List.set_cons_succ]
    refine wpAnyW_take (i := 7) (v := ?_) (by simp only [List.getElem?_toArray, List.getElem?_cons_succ, List.getElem?_cons_zero]; rfl) (by kernel_rfl) (by kernel_rfl) (by kernel_rfl) (by kernel_rfl) (by kernel_rfl) (fun _ _ _ h => h) (Or.inl ⟨by rfl, ?_⟩) (by assumption) ?_
    rotate_left 1
    · (intro w' hSw; go_simp; try with_reducible rfl)
    try simp only [Act.put, List.setIfInBounds_toArray, List.set_cons_zero, List.set_cons_succ]
    refine wpAnyW_take (i := 8) (v := ?_) (by simp only [List.getElem?_toArray, List.getElem?_cons_succ, List.getElem?_cons_zero]; rfl) (by kernel_rfl) (by kernel_rfl) (by kernel_rfl) (by kernel_rfl) (by kernel_rfl) (fun _ _ _ h => h) (Or.inl ⟨by rfl, ?_⟩) (by assumption) ?_
    rotate_left 1
    · (intro w' hSw; go_simp; try with_reducible rfl)
    try simp only [Act.put, List.setIfInBounds_toArray, List.set_cons_zero, List.set_cons_succ]
    refine wpAnyW_take (i := 9) (v := ?_) (by simp only [List.getElem?_toArray, List.getElem?_cons_succ, List.getElem?_cons_zero]; rfl) (by kernel_rfl) (by kernel_rfl) (by kernel_rfl) (by kernel_rfl) (by kernel_rfl) (fun _ _ _ h => h) (Or.inl ⟨by rfl, ?_⟩) (by assumption) ?_
    rotate_left 1
    · (intro w' hSw; go_simp; try with_reducible rfl)
    try simp only [Act.put, List.setIfInBounds_toArray, List.set_cons_zero, List.set_cons_succ]
    refine wpAnyW_take (i := 10) (v := _) (by simp only [List.getElem?_toArray, List.getElem?_cons_succ, List.getElem?_cons_zero]; rfl) (by kernel_rfl) (by kernel_rfl) (by kernel_rfl) (by kernel_rfl) (by kernel_rfl) (fun _ _ _ h => h) (yB (by rfl) rfl rfl (fun V h => h.1) Try.underlying27 rfl infoPs) (by assumption) ?_
    try simp only [Act.put, List.setIfInBounds_toArray, List.set_cons_zero, List.set_cons_succ]
    refine wpAnyW_take (i := 11) (v := ?_) (by simp only [List.getElem?_toArray, List.getElem?_cons_succ, List.getElem?_cons_zero]; rfl) (by kernel_rfl) (by kernel_rfl) (by kernel_rfl) (by kernel_rfl) (by kernel_rfl) (fun _ _ _ h => h) (Or.inl ⟨by rfl, ?_⟩) (by assumption) ?_
    rotate_left 1
    · (intro w' hSw; go_simp; try with_reducible rfl)
    try simp only [Act.put, List.setIfInBounds_toArray, List.set_cons_zero, List.set_cons_succ]
    refine wpAnyW_take (i := 13) (v := _) (by simp only [List.getElem?_toArray, List.getElem?_cons_succ, List.getElem?_cons_zero]; rfl) (by kernel_rfl) (by kernel_rfl) (by kernel_rfl) (by kernel_rfl) (by kernel_rfl) (fun _ _ _ h => h) (yB (by rfl) rfl rfl (fun V h => h.2) Try.underlying33 rfl infoRPs) (by assumption) ?_
    try simp only [Act.put, List.setIfInBounds_toArray, List.set_cons_zero, List.set_cons_succ]
    refine wpAnyW_take (i := 14) (v := ?_) (by simp only [List.getElem?_toArray, List.getElem?_cons_succ, List.getElem?_cons_zero]; rfl) (by kernel_rfl) (by kernel_rfl) (by kernel_rfl) (by kernel_rfl) (by kernel_rfl) (fun _ _ _ h => h) (Or.inl ⟨by rfl, ?_⟩) (by assumption) ?_
    rotate_left 1
    · (intro w' hSw; go_simp; try with_reducible rfl)
    try simp only [Act.put, List.setIfInBounds_toArray, List.set_cons_zero, List.set_cons_succ]
    refine wpAnyW_held (i := 12) (by kernel_rfl) (by simp only [List.getElem?_toArray, List.getElem?_cons_succ, List.getElem?_cons_zero]; rfl) (fun K hK => ?_)
    rw [if_pos (by rfl)]
    go_simp
    refine (HF1.out _ _ (HR1'.out _ HBW.out)).mono ?_
    rintro _ w9 ⟨rfl, hb1⟩
    clear hHeld
    replace HS := Lib.hid (And.intro (HS.out.1.later hb1) (HS.out.2.later hb1))
    replace HBW := Lib.hid (HBW.out.trans (hb1.mono HBW.out.size))
    clear hb1
    go_wp2_with fail
    refine hK.out _ _ HS.out (fun hHeld => ?_)
    clear hK K
    try simp only [Act.put, List.setIfInBounds_toArray, List.set_cons_zero, List.set_cons_succ]
    refine wpAnyW_held (i := 15) (by kernel_rfl) (by simp only [List.getElem?_toArray, List.getElem?_cons_succ, List.getElem?_cons_zero]; rfl) (fun K hK => ?_)
    rw [if_pos (by rfl)]
    go_simp
    refine (HF2.out _ _ (HR2'.out _ HBW.out)).mono ?_
    rintro _ w10 ⟨rfl, hb1⟩
    clear hHeld
    replace HS := Lib.hid (And.intro (HS.out.1.later hb1) (HS.out.2.later hb1))
    replace HBW := Lib.hid (HBW.out.trans (hb1.mono HBW.out.size))
    clear hb1
    go_wp2_with fail
    refine hK.out _ _ HS.out (fun hHeld => ?_)
    clear hK K
    try simp only [Act.put, List.setIfInBounds_toArray, List.set_cons_zero, List.set_cons_succ]
    refine wpAnyW_take (i := 16) (v := ?_) (by simp only [List.getElem?_toArray, List.getElem?_cons_succ, List.getElem?_cons_zero]; rfl) (by kernel_rfl) (by kernel_rfl) (by kernel_rfl) (by kernel_rfl) (by kernel_rfl) (fun _ _ _ h => h) (Or.inl ⟨by rfl, ?_⟩) (by assumption) ?_
    rotate_left 1
    · (intro w' hSw; go_simp; try with_reducible rfl)
    try simp only [Act.put, List.setIfInBounds_toArray, List.set_cons_zero, List.set_cons_succ]
    refine wpAnyW_take (i := 17) (v := ?_) (by simp only [List.getElem?_toArray, List.getElem?_cons_succ, List.getElem?_cons_zero]; rfl) (by kernel_rfl) (by kernel_rfl) (by kernel_rfl) (by kernel_rfl) (by kernel_rfl) (fun _ _ _ h => h) (Or.inl ⟨by rfl, ?_⟩) (by assumption) ?_
    rotate_left 1
    · (intro w' hSw; go_simp; try with_reducible rfl)
    try simp only [Act.put, List.setIfInBounds_toArray, List.set_cons_zero, List.set_cons_succ]
    refine wpAnyW_take (i := 18) (v := ?_) (by simp only [List.getElem?_toArray, List.getElem?_cons_succ, List.getElem?_cons_zero]; rfl) (by kernel_rfl) (by kernel_rfl) (by kernel_rfl) (by kernel_rfl) (by kernel_rfl) (fun _ _ _ h => h) (Or.inl ⟨by rfl, ?_⟩) (by assumption) ?_
    rotate_left 1
    · (intro w' hSw; go_simp; try with_reducible rfl)
    try simp only [Act.put, List.setIfInBounds_toArray, List.set_cons_zero, List.set_cons_succ]
    refine wpAnyW_done (by kernel_rfl) ?_ _
    refine NoPanic.normal ?_
    go_wp2_with fail
    go_ret
    exact ⟨rfl, HB.out.trans (HBW.out.mono HB.out.size)⟩

set_option maxRecDepth 100000 in
theorem lifted (os : Os) (started : os.Started) (H : Type) (enc : TypeId × Value → H) :
    ReturnsInHanded {} Try.checked os 3 .any (Rows.pathNewsSpec.pre6 enc Try.prog Try.f3 Rows.pathNewsRow.domain false) (Rows.pathNewsSpec.post enc Try.prog Try.f3 false true false false) := by
  refine returnsInHanded_of_change_sized (C := Try.checked) own started (by kernel_rfl) Try.func3
    (ChangeSpec.witness6 (enc := enc) (C := Try.checked) false ⟨#[], #[.slice none 0 0, .int .i64 0, .string ⟨#[]⟩], []⟩ 8 (by kernel_rfl) (by kernel_rfl) (by kernel_rfl) (by kernel_rfl)) ?_
  intro W base args ds gs before hval0 hW _ hreach _
  have hval : ∀ (j : Nat) t v, Try.f3.params[j]? = some t → args[j]? = some v → Value.okWide Try.prog W .any base t v := hval0
  obtain ⟨p, q, hA0, _, _, _, _⟩ := id hW
  have hA : DataW.TrodAll enc Try.prog W 0 (fun _ => true) true Try.f3.params.toList args.toList ds p := hA0
  rw [Try.params3] at hA hval
  obtain ⟨v0, vs0, d0, ds0, p0, q0, hargs, rfl, rfl, h0, r0⟩ := trodAll_cons hA
  obtain ⟨v1, vs1, d1, ds1, p1, q1, rfl, rfl, rfl, h1, r1⟩ := trodAll_cons r0
  obtain ⟨v2, vs2, d2, ds2, p2, q2, rfl, rfl, rfl, h2, r2⟩ := trodAll_cons r1
  obtain ⟨rfl, rfl, rfl⟩ := trodAll_nil r2
  obtain rfl : args = #[v0, v1, v2] := by cases args; simp_all
  obtain ⟨l0, w0, s0⟩ := strings_in (hval 0 22 v0 rfl rfl) h0
  obtain ⟨a1, rfl, rfl, rfl, w1⟩ := open_int Try.underlying3 (hval 1 3 v1 rfl rfl) h1
  obtain ⟨a2, rfl, rfl, rfl, w2⟩ := Go.ChangeMaps.open_string Try.underlying9 (hval 2 9 v2 rfl rfl) h2
  refine (walk l0 s0 a1 a2 w2 v0 W w0).mono fun e W' ⟨he, hg⟩ => ?_
  subst he
  exact ⟨_, rfl, law_post laidOut Try.underlying4 (by kernel_rfl) (by kernel_rfl) rfl hW (by simp [Rows.pathNewsSpec]) hg⟩

theorem proved : Rows.PathNewsSaid :=
  OpenClaim.holds_of_wide 3 Try.f3 rfl rfl rfl rfl rfl rfl rfl ⟨rfl, rfl, rfl, rfl, rfl⟩ rfl rfl rfl rfl rfl (by kernel_rfl) Try.func3 (by kernel_rfl)
    (of_decide_eq_true (by kernel_rfl)) (by unfold Func.isWrapper; first | (rw [if_pos (by decide +kernel)]; kernel_rfl) | (rw [if_neg (by decide +kernel)]; exact ⟨rfl, rfl⟩))
    (fun os started H enc _ => lifted os started H enc)
#print axioms proved
end Go.Proofs.Yteiifkooegpdaaa.pathNews
