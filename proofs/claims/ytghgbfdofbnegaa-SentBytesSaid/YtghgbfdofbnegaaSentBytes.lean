/-
  What is told newly is what was not told, and is now: any right pieces, any number, any gaps, any time.
-/
import Derived.Test.YtghgbfdofbnegaaLift
import Derived.Test.YtghgbfdofbnegaaArgs
namespace Go.Proofs.Ytghgbfdofbnegaa.sentBytes
open Go.ChangeShapes Go.WideShapes Go.ChangeAt Go.RowKit
set_option linter.unusedVariables false
set_option linter.unusedSimpArgs false
set_option maxRecDepth 100000

theorem btOf_a {old new : Pc} (h : new.st = 2) : btOf old new = 0 := by unfold btOf; rw [if_pos h]
theorem btOf_b {old new : Pc} (h : new.st ≠ 2) (h2 : old.st = 2) : btOf old new = new.sz - new.sz := by unfold btOf; rw [if_neg h, if_pos h2]
theorem btOf_c {old new : Pc} (h : new.st ≠ 2) (h2 : old.st ≠ 2) : btOf old new = new.sz := by unfold btOf; rw [if_neg h, if_neg h2]; omega
set_option maxHeartbeats 4000000 in
theorem walk (c : UInt32) (l : List Pc) (V : Value) (cum : UInt32) (gs : List (Nat × Nat)) (vg : Value) (now : Int) (hlen : l.length * 56 ≤ 140737488351232) (hsm : SmallG gs) (w : World) (h : RowP w V l) (hvg : RowGp w vg gs) : Calls Try.prog 4 #[.agg #[.int .u32 (c.toNat : Int), V], .int .u32 (cum.toNat : Int), vg, .int .i64 now] w fun e w' => e = .returned (.bool true) ∧ Below w.heap.size w w' := by
  obtain ⟨W, hW, HA, HB, hs⟩ := one_open w 27 #[.int .u32 (c.toNat : Int), V]
  have HSH := Lib.hid shown_any
  have HAS := Lib.hid (fun W h => as_any c l hlen V W h)
  have HV := Lib.hid h
  have HVG := Lib.hid hvg
  obtain ⟨A, cap, rfl, hcap, hmx, _⟩ := id h
  obtain ⟨Ag, kg, rfl, hkg, hmg, _⟩ := id hvg
  have hmx' : (cap : Int) ≤ 9223372036854775807 := by unfold maxLen at hmx; omega
  have hmg' : (gs.length : Int) ≤ 9223372036854775807 := by unfold maxLen at hmg; omega
  clear h hvg hs
  by_cases hOK : OkL c l
  · have HRI := Lib.hid (fun v W h => right_any c l hlen true ⟨fun _ => hOK, fun _ => rfl⟩ v W h)
    by_cases h100 : gs.length ≤ 100
    · have q100 : ¬ (100 : Int) < (gs.length : Int) := by omega
      have HOK := Lib.hid hOK
      have hl64 := hOK.len
      have hl64' : (l.length : Int) ≤ 64 := by omega
      cases hmay : mayB c l cum gs with
      | false =>
        have HACK := Lib.hid (fun W h hg => ack_no c cum l gs now hOK.len (by omega) hsm (.slice A l.length cap) (.slice Ag gs.length kg) W h hg hmay)
        have HASC := Lib.hid (fun (V : Value) W h => as_any c l hlen V W h)
        have HSM := Lib.hid (fun v1 v2 W h h' => same_any c l (by omega) v1 v2 W h h')
        clear hOK h100 hmay
        go_enter Try.func4, Try.ntmps4
        go_wp2_with (first
          | (go_at_call 7; (with_reducible refine (HSH.out _).mono ?_); rintro e w1 ⟨rfl, hb⟩; replace HA := Lib.hid (HA.out.later hb); replace HB := Lib.hid (HB.out.trans (hb.mono HB.out.size)); clear hb)
          | ((with_reducible refine gate9 ?_); refine ldB (ty := 27) (cs := #[.int .u32 (c.toNat : Int), .slice A l.length cap]) rfl rfl rfl HA.out Try.underlying27 rfl infoS ?_)
          | (go_at_call 17; (with_reducible refine (HAS.out _ (HV.out.below HB.out)).mono ?_); rintro e w2 ⟨A2, k2, rfl, hr, hb⟩; have HR2 := Lib.hid hr; replace HA := Lib.hid (HA.out.later hb); replace HB := Lib.hid (HB.out.trans (hb.mono HB.out.size)); clear hr hb)
          | (go_at_call 16; (with_reducible refine (HRI.out _ _ HR2.out).mono ?_); rintro e w3 ⟨rfl, hb⟩; replace HA := Lib.hid (HA.out.later hb); replace HB := Lib.hid (HB.out.trans (hb.mono HB.out.size)); clear hb)
          | (go_at_call 12; (with_reducible refine (HACK.out _ (HV.out.below HB.out) (HVG.out.below HB.out)).mono ?_); rintro e w4 ⟨A5, k5, rfl, hr, hf, hb⟩; replace HA := Lib.hid (HA.out.later hb); replace HB := Lib.hid (HB.out.trans (hb.mono HB.out.size)); have HR5 := Lib.hid hr; clear hr hf hb; obtain ⟨W6, hW6, HT, HR, HB6, hs6⟩ := two_open w4 27 42 #[.int .u32 0, .slice none 0 0] #[.int .i64 0, .int .i64 0, .bool false, .bool false, .slice none 0 0, .slice none 0 0, .slice none 0 0]; obtain ⟨g11, hg11⟩ : ∃ g, w4.heap.size = g := ⟨_, rfl⟩; rw [hg11] at HT HR hs6)
          | ((with_reducible refine gate9 ?_); refine stB (ty := 27) #[.int .u32 (c.toNat : Int), .slice A5 l.length k5] rfl rfl rfl rfl HT.out infoS rfl (cellsS_one _ _ _ _) ?_; intro w8 ht hg; replace HB6 := Lib.hid (below_of_grown1 HB6.out hg HB6.out.size (by omega)); replace HR := Lib.hid (HR.out.kept hg (by omega)); replace HT := Lib.hid ht; clear ht hg)
          | ((with_reducible refine gate9 ?_); refine stB (ty := 42) #[.int .i64 0, .int .i64 0, .bool false, .bool false, .slice none 0 0, .slice none 0 0, .slice none 0 0] rfl rfl rfl rfl HR.out infoR rfl (cellsR_one _ _ _ _ _ _ _ _ _ _ _ _ _) ?_; intro w9 ht hg; replace HB6 := Lib.hid (below_of_grown1 HB6.out hg HB6.out.size (by omega)); replace HT := Lib.hid (HT.out.kept hg (by omega)); replace HR := Lib.hid ht; replace HA := Lib.hid (HA.out.later HB6.out); replace HR5 := Lib.hid (HR5.out.below HB6.out); replace HB := Lib.hid (HB.out.trans (HB6.out.mono HB.out.size)); clear ht hg))
        clear hW6 hs6 hW
        have HS : (fun V => Bx V g11 27 #[.int .u32 (c.toNat : Int), .slice A5 l.length k5] ∧ Bx V w.heap.size 27 #[.int .u32 (c.toNat : Int), .slice A l.length cap] ∧ Bx V (g11 + 1) 42 #[.int .i64 0, .int .i64 0, .bool false, .bool false, .slice none 0 0, .slice none 0 0, .slice none 0 0] ∧ Below w9.heap.size w9 V) _ := ⟨HT.out.drew, HA.out.drew, HR.out.drew, below_drawn (Below.refl _ _)⟩
        refine wp_region_noPanic ?_
        refine wp_region_waits (S := (fun V => Bx V g11 27 #[.int .u32 (c.toNat : Int), .slice A5 l.length k5] ∧ Bx V w.heap.size 27 #[.int .u32 (c.toNat : Int), .slice A l.length cap] ∧ Bx V (g11 + 1) 42 #[.int .i64 0, .int .i64 0, .bool false, .bool false, .slice none 0 0, .slice none 0 0, .slice none 0 0] ∧ Below w9.heap.size w9 V)) [21] (by kernel_rfl) HS (fun hHeld => ?_)
        clear HS
        refine wpAnyW_take (i := 0) (v := _) (by simp only [List.getElem?_toArray, List.getElem?_cons_zero]; rfl) (by kernel_rfl) (by kernel_rfl) (by kernel_rfl) (by kernel_rfl) (by kernel_rfl) (fun _ _ _ h => h) (yB (ty := 27) (by rfl) rfl rfl (fun V h => h.1) Try.underlying27 rfl infoS) (by assumption) ?_
        try simp only [Act.put, List.setIfInBounds_toArray, List.set_cons_zero, List.set_cons_succ]
        refine wpAnyW_take (i := 2) (v := _) (by simp only [List.getElem?_toArray, List.getElem?_cons_succ, List.getElem?_cons_zero]; rfl) (by kernel_rfl) (by kernel_rfl) (by kernel_rfl) (by kernel_rfl) (by kernel_rfl) (fun _ _ _ h => h) (yB (ty := 27) (by rfl) rfl rfl (fun V h => h.2.1) Try.underlying27 rfl infoS) (by assumption) ?_
        try simp only [Act.put, List.setIfInBounds_toArray, List.set_cons_zero, List.set_cons_succ]
        refine wpAnyW_held (i := 1) (by kernel_rfl) (by simp only [List.getElem?_toArray, List.getElem?_cons_succ, List.getElem?_cons_zero]; rfl) (fun K hK => ?_)
        rw [if_pos (by rfl)]
        go_simp
        refine (HASC.out _ _ (HR5.out.below hHeld.2.2.2)).mono ?_
        rintro _ w20 ⟨A20, k20, rfl, hr20, hb⟩
        have HS := (And.intro (hHeld.1.later hb) (And.intro (hHeld.2.1.later hb) (And.intro (hHeld.2.2.1.later hb) (hHeld.2.2.2.trans (hb.mono hHeld.2.2.2.size)))))
        have HR20 := Lib.hid hr20
        clear hHeld hr20 hb
        go_wp2_with fail
        refine hK.out _ _ HS (fun hHeld => ?_)
        clear hK K HS
        try simp only [Act.put, List.setIfInBounds_toArray, List.set_cons_zero, List.set_cons_succ]
        refine wpAnyW_held (i := 3) (by kernel_rfl) (by simp only [List.getElem?_toArray, List.getElem?_cons_succ, List.getElem?_cons_zero]; rfl) (fun K hK => ?_)
        rw [if_pos (by rfl)]
        go_simp
        refine (HASC.out _ _ (HV.out.below (HB.out.trans (hHeld.2.2.2.mono HB.out.size)))).mono ?_
        rintro _ w21 ⟨A21, k21, rfl, hr21, hb⟩
        have HS := (And.intro (hHeld.1.later hb) (And.intro (hHeld.2.1.later hb) (And.intro (hHeld.2.2.1.later hb) (hHeld.2.2.2.trans (hb.mono hHeld.2.2.2.size)))))
        have HR21 := Lib.hid hr21
        replace HR20 := Lib.hid (HR20.out.below hb)
        clear hHeld hr21 hb
        go_wp2_with fail
        refine hK.out _ _ HS (fun hHeld => ?_)
        clear hK K HS
        try simp only [Act.put, List.setIfInBounds_toArray, List.set_cons_zero, List.set_cons_succ]
        refine wpAnyW_held (i := 4) (by kernel_rfl) (by simp only [List.getElem?_toArray, List.getElem?_cons_succ, List.getElem?_cons_zero]; rfl) (fun K hK => ?_)
        rw [if_pos (by rfl)]
        go_simp
        refine (HSM.out _ _ _ HR20.out HR21.out).mono ?_
        rintro _ w22 ⟨rfl, hb⟩
        have HS := (And.intro (hHeld.1.later hb) (And.intro (hHeld.2.1.later hb) (And.intro (hHeld.2.2.1.later hb) (hHeld.2.2.2.trans (hb.mono hHeld.2.2.2.size)))))
        clear hHeld hb
        go_wp2_with fail
        refine hK.out _ _ HS (fun hHeld => ?_)
        clear hK K HS
        try simp only [Act.put, List.setIfInBounds_toArray, List.set_cons_zero, List.set_cons_succ]
        refine wpAnyW_take (i := 5) (v := ?_) (by simp only [List.getElem?_toArray, List.getElem?_cons_succ, List.getElem?_cons_zero]; rfl) (by kernel_rfl) (by kernel_rfl) (by kernel_rfl) (by kernel_rfl) (by kernel_rfl) (fun _ _ _ h => h) (Or.inl ⟨by rfl, ?_⟩) (by assumption) ?_
        rotate_left 1
        · (intro w' hSw; go_simp; try with_reducible rfl)
        try simp only [Act.put, List.setIfInBounds_toArray, List.set_cons_zero, List.set_cons_succ]
        refine wpAnyW_take (i := 6) (v := ?_) (by simp only [List.getElem?_toArray, List.getElem?_cons_succ, List.getElem?_cons_zero]; rfl) (by kernel_rfl) (by kernel_rfl) (by kernel_rfl) (by kernel_rfl) (by kernel_rfl) (fun _ _ _ h => h) (Or.inl ⟨by rfl, ?_⟩) (by assumption) ?_
        rotate_left 1
        · (intro w' hSw; go_simp; try with_reducible rfl)
        try simp only [Act.put, List.setIfInBounds_toArray, List.set_cons_zero, List.set_cons_succ]
        refine wpAnyW_take (i := 7) (v := ?_) (by simp only [List.getElem?_toArray, List.getElem?_cons_succ, List.getElem?_cons_zero]; rfl) (by kernel_rfl) (by kernel_rfl) (by kernel_rfl) (by kernel_rfl) (by kernel_rfl) (fun _ _ _ h => h) (Or.inl ⟨by rfl, ?_⟩) (by assumption) ?_
        rotate_left 1
        · (intro w' hSw; have hq := hSw.2.2.1.cell 0 (.int .i64 0) rfl; go_simp; try with_reducible rfl)
        try simp only [Act.put, List.setIfInBounds_toArray, List.set_cons_zero, List.set_cons_succ]
        refine wpAnyW_take (i := 8) (v := ?_) (by simp only [List.getElem?_toArray, List.getElem?_cons_succ, List.getElem?_cons_zero]; rfl) (by kernel_rfl) (by kernel_rfl) (by kernel_rfl) (by kernel_rfl) (by kernel_rfl) (fun _ _ _ h => h) (Or.inl ⟨by rfl, ?_⟩) (by assumption) ?_
        rotate_left 1
        · (intro w' hSw; go_simp; try with_reducible rfl)
        try simp only [Act.put, List.setIfInBounds_toArray, List.set_cons_zero, List.set_cons_succ]
        refine wpAnyW_take (i := 9) (v := ?_) (by simp only [List.getElem?_toArray, List.getElem?_cons_succ, List.getElem?_cons_zero]; rfl) (by kernel_rfl) (by kernel_rfl) (by kernel_rfl) (by kernel_rfl) (by kernel_rfl) (fun _ _ _ h => h) (Or.inl ⟨by rfl, ?_⟩) (by assumption) ?_
        rotate_left 1
        · (intro w' hSw; go_simp; try with_reducible rfl)
        try simp only [Act.put, List.setIfInBounds_toArray, List.set_cons_zero, List.set_cons_succ]
        refine wpAnyW_take (i := 10) (v := ?_) (by simp only [List.getElem?_toArray, List.getElem?_cons_succ, List.getElem?_cons_zero]; rfl) (by kernel_rfl) (by kernel_rfl) (by kernel_rfl) (by kernel_rfl) (by kernel_rfl) (fun _ _ _ h => h) (Or.inl ⟨by rfl, ?_⟩) (by assumption) ?_
        rotate_left 1
        · (intro w' hSw; go_simp; try with_reducible rfl)
        try simp only [Act.put, List.setIfInBounds_toArray, List.set_cons_zero, List.set_cons_succ]
        refine wpAnyW_take (i := 11) (v := ?_) (by simp only [List.getElem?_toArray, List.getElem?_cons_succ, List.getElem?_cons_zero]; rfl) (by kernel_rfl) (by kernel_rfl) (by kernel_rfl) (by kernel_rfl) (by kernel_rfl) (fun _ _ _ h => h) (Or.inl ⟨by rfl, ?_⟩) (by assumption) ?_
        rotate_left 1
        · (intro w' hSw; go_simp; try with_reducible rfl)
        try simp only [Act.put, List.setIfInBounds_toArray, List.set_cons_zero, List.set_cons_succ]
        refine wpAnyW_take (i := 12) (v := ?_) (by simp only [List.getElem?_toArray, List.getElem?_cons_succ, List.getElem?_cons_zero]; rfl) (by kernel_rfl) (by kernel_rfl) (by kernel_rfl) (by kernel_rfl) (by kernel_rfl) (fun _ _ _ h => h) (Or.inl ⟨by rfl, ?_⟩) (by assumption) ?_
        rotate_left 1
        · (intro w' hSw; have hq := hSw.2.2.1.cell 4 (.slice none 0 0) rfl; go_simp; try with_reducible rfl)
        try simp only [Act.put, List.setIfInBounds_toArray, List.set_cons_zero, List.set_cons_succ]
        refine wpAnyW_take (i := 13) (v := ?_) (by simp only [List.getElem?_toArray, List.getElem?_cons_succ, List.getElem?_cons_zero]; rfl) (by kernel_rfl) (by kernel_rfl) (by kernel_rfl) (by kernel_rfl) (by kernel_rfl) (fun _ _ _ h => h) (Or.inl ⟨by rfl, ?_⟩) (by assumption) ?_
        rotate_left 1
        · (intro w' hSw; go_simp; try with_reducible rfl)
        try simp only [Act.put, List.setIfInBounds_toArray, List.set_cons_zero, List.set_cons_succ]
        refine wpAnyW_take (i := 14) (v := ?_) (by simp only [List.getElem?_toArray, List.getElem?_cons_succ, List.getElem?_cons_zero]; rfl) (by kernel_rfl) (by kernel_rfl) (by kernel_rfl) (by kernel_rfl) (by kernel_rfl) (fun _ _ _ h => h) (Or.inl ⟨by rfl, ?_⟩) (by assumption) ?_
        rotate_left 1
        · (intro w' hSw; go_simp; try with_reducible rfl)
        try simp only [Act.put, List.setIfInBounds_toArray, List.set_cons_zero, List.set_cons_succ]
        refine wpAnyW_take (i := 15) (v := ?_) (by simp only [List.getElem?_toArray, List.getElem?_cons_succ, List.getElem?_cons_zero]; rfl) (by kernel_rfl) (by kernel_rfl) (by kernel_rfl) (by kernel_rfl) (by kernel_rfl) (fun _ _ _ h => h) (Or.inl ⟨by rfl, ?_⟩) (by assumption) ?_
        rotate_left 1
        · (intro w' hSw; go_simp; try with_reducible rfl)
        try simp only [Act.put, List.setIfInBounds_toArray, List.set_cons_zero, List.set_cons_succ]
        refine wpAnyW_take (i := 16) (v := ?_) (by simp only [List.getElem?_toArray, List.getElem?_cons_succ, List.getElem?_cons_zero]; rfl) (by kernel_rfl) (by kernel_rfl) (by kernel_rfl) (by kernel_rfl) (by kernel_rfl) (fun _ _ _ h => h) (Or.inl ⟨by rfl, ?_⟩) (by assumption) ?_
        rotate_left 1
        · (intro w' hSw; go_simp; try with_reducible rfl)
        try simp only [Act.put, List.setIfInBounds_toArray, List.set_cons_zero, List.set_cons_succ]
        refine wpAnyW_take (i := 17) (v := ?_) (by simp only [List.getElem?_toArray, List.getElem?_cons_succ, List.getElem?_cons_zero]; rfl) (by kernel_rfl) (by kernel_rfl) (by kernel_rfl) (by kernel_rfl) (by kernel_rfl) (fun _ _ _ h => h) (Or.inl ⟨by rfl, ?_⟩) (by assumption) ?_
        rotate_left 1
        · (intro w' hSw; go_simp; try with_reducible rfl)
        try simp only [Act.put, List.setIfInBounds_toArray, List.set_cons_zero, List.set_cons_succ]
        refine wpAnyW_take (i := 18) (v := ?_) (by simp only [List.getElem?_toArray, List.getElem?_cons_succ, List.getElem?_cons_zero]; rfl) (by kernel_rfl) (by kernel_rfl) (by kernel_rfl) (by kernel_rfl) (by kernel_rfl) (fun _ _ _ h => h) (Or.inl ⟨by rfl, ?_⟩) (by assumption) ?_
        rotate_left 1
        · (intro w' hSw; have hq := hSw.2.2.1.cell 3 (.bool false) rfl; go_simp; try with_reducible rfl)
        try simp only [Act.put, List.setIfInBounds_toArray, List.set_cons_zero, List.set_cons_succ]
        refine wpAnyW_take (i := 19) (v := ?_) (by simp only [List.getElem?_toArray, List.getElem?_cons_succ, List.getElem?_cons_zero]; rfl) (by kernel_rfl) (by kernel_rfl) (by kernel_rfl) (by kernel_rfl) (by kernel_rfl) (fun _ _ _ h => h) (Or.inl ⟨by rfl, ?_⟩) (by assumption) ?_
        rotate_left 1
        · (intro w' hSw; go_simp; try with_reducible rfl)
        try simp only [Act.put, List.setIfInBounds_toArray, List.set_cons_zero, List.set_cons_succ]
        refine wpAnyW_take (i := 20) (v := ?_) (by simp only [List.getElem?_toArray, List.getElem?_cons_succ, List.getElem?_cons_zero]; rfl) (by kernel_rfl) (by kernel_rfl) (by kernel_rfl) (by kernel_rfl) (by kernel_rfl) (fun _ _ _ h => h) (Or.inl ⟨by rfl, ?_⟩) (by assumption) ?_
        rotate_left 1
        · (intro w' hSw; go_simp; try with_reducible rfl)
        try simp only [Act.put, List.setIfInBounds_toArray, List.set_cons_zero, List.set_cons_succ]
        refine wpAnyW_freed (i := 21) (by kernel_rfl) (by kernel_rfl) (by simp only [List.getElem?_toArray, List.getElem?_cons_succ, List.getElem?_cons_zero]; rfl) (fun K hK => ?_)
        rw [if_pos (by rfl)]
        go_simp
        have HBE := Lib.hid (HB.out.trans (hHeld.2.2.2.mono HB.out.size))
        refine hK.out _ _ ?_
        clear hK K hHeld
        try simp only [Act.put, List.setIfInBounds_toArray, List.set_cons_zero, List.set_cons_succ]
        refine wpAnyW_done (by kernel_rfl) ?_ _
        refine NoPanic.normal ?_
        go_wp2_with fail
        go_ret
        exact ⟨rfl, HBE.out⟩
      | true =>
        have hdk : dist c cum ≤ l.length := by unfold mayB at hmay; simp at hmay; exact hmay.1
        have HACK := Lib.hid (fun W h hg => ack_yes c cum l gs now hOK.len (by omega) hsm hOK.ok (.slice A l.length cap) (.slice Ag gs.length kg) W h hg hmay)
        have HTOK := Lib.hid (okL_ack hOK gs now hdk)
        have HBA := Lib.hid (bytes_all (now := now) (gs := gs) hOK.ok hdk)
        have HFR := Lib.hid (fresh_all (now := now) (gs := gs) hOK.ok hdk)
        have hln := (ackL2_at (now := now) (gs := gs) hOK.ok hdk).1
        have HAT : Hid (∀ j (h : j < (ackL2 now l gs (dist c cum)).length), ∃ h' : dist c cum + j < l.length, (ackL2 now l gs (dist c cum))[j].ts = l[dist c cum + j].ts ∧ (ackL2 now l gs (dist c cum))[j].sz = l[dist c cum + j].sz) := Lib.hid (fun j h => by
          obtain ⟨h', e⟩ := ackL2_get (now := now) (gs := gs) hOK.ok hdk j h
          have h9 := ackX_ok gs (ackM now l gs (dist c cum)).a j (hOK.ok _ (List.getElem_mem h'))
          exact ⟨h', by rw [e]; exact h9.2.1, by rw [e]; exact h9.2.2.1⟩)
        have HPRE := Lib.hid (fun j => sumZ_pre notA hOK.ok j)
        clear hOK h100 hmay
        generalize dist c cum = K at *
        generalize (ackF now l gs K).length = nf at *
        generalize ackL2 now l gs K = t at *
        generalize ackM now l gs K = M at *
        obtain ⟨b9, hb9⟩ : ∃ b, M.r.by' = b := ⟨_, rfl⟩
        rw [hb9] at HBA HACK
        have HFR2 : Hid (M.r.fr = decide (0 < b9)) := Lib.hid (by rw [← hb9]; exact HFR.out.fr)
        have hb0 : 0 ≤ b9 := by rw [← hb9]; exact HFR.out.lo
        obtain ⟨f9, hf9⟩ : ∃ f, M.r.fr = f := ⟨_, rfl⟩
        rw [hf9] at HACK HFR2
        have hf8 : decide ((0 : Int) < b9) = f9 := HFR2.out.symm
        generalize M.r.out = o9 at *
        generalize M.r.mo = m9 at *
        generalize M.r.tk.length = n9 at *
        rw [← hln] at HACK HBA
        have hkt : K + t.length = l.length := by omega
        have hbt := fun (h0 : 0 < t.length + 1) => btTo_bound (l := l) (k := K) HTOK.out.ok t.length (Nat.le_refl _)
        have hbt1 := hbt (by omega)
        have hpa := HPRE.out l.length
        rw [List.take_length] at hpa
        have hb9' : b9 ≤ 200000 := by have := HBA.out; omega
        have HBT := Lib.hid (fun j hj => btTo_bound (l := l) (k := K) HTOK.out.ok j hj)
        clear hb9 hf9 HFR HFR2 hbt hbt1 hpa hln
        have hkt2 : (K : Int) + (t.length : Int) = (l.length : Int) := by omega
        go_enter Try.func4, Try.ntmps4
        go_wp2_with (first
          | (go_at_call 7; (with_reducible refine (HSH.out _).mono ?_); rintro e w1 ⟨rfl, hb⟩; replace HA := Lib.hid (HA.out.later hb); replace HB := Lib.hid (HB.out.trans (hb.mono HB.out.size)); clear hb)
          | ((with_reducible refine gate9 ?_); refine ldB (ty := 27) (cs := #[.int .u32 (c.toNat : Int), .slice A l.length cap]) rfl rfl rfl HA.out Try.underlying27 rfl infoS ?_)
          | (go_at_call 17; (with_reducible refine (HAS.out _ (HV.out.below HB.out)).mono ?_); rintro e w2 ⟨A2, k2, rfl, hr, hb⟩; have HR2 := Lib.hid hr; replace HA := Lib.hid (HA.out.later hb); replace HB := Lib.hid (HB.out.trans (hb.mono HB.out.size)); clear hr hb)
          | (go_at_call 16; (with_reducible refine (HRI.out _ _ HR2.out).mono ?_); rintro e w3 ⟨rfl, hb⟩; replace HA := Lib.hid (HA.out.later hb); replace HB := Lib.hid (HB.out.trans (hb.mono HB.out.size)); clear hb)
          | (go_at_call 12; (with_reducible refine (HACK.out _ (HV.out.below HB.out) (HVG.out.below HB.out)).mono ?_); rintro e w4 ⟨A5, k5, A6, k6, A7, k7, A8, k8, rfl, hr, hf, hd, hf2, hb⟩; replace HA := Lib.hid (HA.out.later hb); replace HB := Lib.hid (HB.out.trans (hb.mono HB.out.size)); have HR5 := Lib.hid hr; clear hr hf hd hf2 hb; obtain ⟨W6, hW6, HT, HR, HB6, hs6⟩ := two_open w4 27 42 #[.int .u32 0, .slice none 0 0] #[.int .i64 0, .int .i64 0, .bool false, .bool false, .slice none 0 0, .slice none 0 0, .slice none 0 0]; obtain ⟨g11, hg11⟩ : ∃ g, w4.heap.size = g := ⟨_, rfl⟩; rw [hg11] at HT HR hs6)
          | ((with_reducible refine gate9 ?_); refine stB (ty := 27) #[.int .u32 (cum.toNat : Int), .slice A5 t.length k5] rfl rfl rfl rfl HT.out infoS rfl (cellsS_one _ _ _ _) ?_; intro w8 ht hg; replace HB6 := Lib.hid (below_of_grown1 HB6.out hg HB6.out.size (by omega)); replace HR := Lib.hid (HR.out.kept hg (by omega)); replace HT := Lib.hid ht; clear ht hg)
          | ((with_reducible refine gate9 ?_); refine stB (ty := 42) #[.int .i64 b9, .int .i64 o9, .bool m9, .bool f9, .slice A6 K k6, .slice A7 nf k7, .slice A8 n9 k8] rfl rfl rfl rfl HR.out infoR rfl (cellsR_one _ _ _ _ _ _ _ _ _ _ _ _ _) ?_; intro w9 ht hg; replace HB6 := Lib.hid (below_of_grown1 HB6.out hg HB6.out.size (by omega)); replace HT := Lib.hid (HT.out.kept hg (by omega)); replace HR := Lib.hid ht; replace HA := Lib.hid (HA.out.later HB6.out); replace HR5 := Lib.hid (HR5.out.below HB6.out); replace HB := Lib.hid (HB.out.trans (HB6.out.mono HB.out.size)); clear ht hg; have r0 := HR.out.cell 0 (.int .i64 b9) rfl; have r3 := HR.out.cell 3 (.bool f9) rfl; have r4 := HR.out.cell 4 (.slice A6 K k6) rfl; have s0 := HT.out.cell 0 (.int .u32 (cum.toNat : Int)) rfl; have s1 := HT.out.cell 1 (.slice A5 t.length k5) rfl; have a1 := HA.out.cell 1 (.slice A l.length cap) rfl))
        clear hW6 hs6 hW
        go_loopw [14, 16] (fun s i wr => ∃ j : Nat, j ≤ l.length ∧ s = .int .i64 (sumZ notA (l.take j)) ∧ i = .int .i64 j ∧ Hid (Below w9.heap.size w9 wr))
          (fun _ i _ => l.length - (intOf i).toNat)
        case atStart => exact ⟨0, Nat.zero_le _, rfl, rfl, Lib.hid (Below.refl _ _)⟩
        case round =>
          clear r0 r3 r4 s0 s1 a1
          obtain ⟨j, hj, rfl, rfl, HW⟩ := hrel
          have a1 := (HA.out.later HW.out).cell 1 (.slice A l.length cap) rfl
          by_cases hlt : j < l.length
          · obtain ⟨b, off, cap', e9, hb, hc1, hc2, hrg⟩ := HV.out.at hlt
            cases e9
            have HRG := Lib.hid (range_below hrg hb (HB.out.trans (HW.out.mono HB.out.size)))
            have HNX := Lib.hid (sumZ_take notA l j hlt)
            have hsu := HPRE.out j
            have hx0 := HOK.out.ok _ (List.getElem_mem hlt)
            have hz1 := hx0.z1; have hz2 := hx0.z2
            have q1 : (0 : Int) ≤ (j : Int) := by omega
            have q2 : (j : Int) < (l.length : Int) := by omega
            clear hrg hx0
            generalize l[j] = x at *
            obtain ⟨ts, sz, st, mi, ti, pa, tm⟩ := x
            simp only at hz1 hz2
            obtain ⟨u, hu⟩ : ∃ u, sumZ notA (l.take j) = u := ⟨_, rfl⟩
            rw [hu] at HNX hsu ⊢
            clear hu
            obtain ⟨hsu1, hsu2⟩ := hsu
            have e1 := HRG.out 1 (.int .i64 sz) rfl
            have e2 := HRG.out 2 (.int .i64 st) rfl
            by_cases h2 : st = 2
            · subst h2
              replace HNX : Hid (sumZ notA (l.take (j + 1)) = u) := Lib.hid (by rw [HNX.out, notA_no rfl]; simp)
              go_wp2_with fail
              go_roundw
              case rel => exact ⟨j + 1, by omega, by rw [HNX.out], by go_num, HW⟩
              case measure => simp [intOf]; omega
            · have q9 : (st == 2) = false := by rw [beq_eq_false_iff_ne]; exact h2
              replace HNX : Hid (sumZ notA (l.take (j + 1)) = u + sz) := Lib.hid (by rw [HNX.out, notA_yes h2]; simp)
              clear h2
              go_wp2_with fail
              go_roundw
              case rel => exact ⟨j + 1, by omega, by rw [HNX.out], by go_num, HW⟩
              case measure => simp [intOf]; omega
          · obtain rfl : j = l.length := by omega
            rw [List.take_length]
            obtain ⟨U, hU⟩ : ∃ U, sumZ notA l = U := ⟨_, rfl⟩
            rw [hU] at HBA ⊢
            clear hU
            go_wp2_with fail
            go_loopw [15, 17] (fun s i wr2 => ∃ j : Nat, j ≤ t.length ∧ s = .int .i64 (btTo l t K j) ∧ i = .int .i64 j ∧ Hid (Below w9.heap.size w9 wr2))
              (fun _ i _ => t.length - (intOf i).toNat)
            case atStart => exact ⟨0, Nat.zero_le _, rfl, rfl, HW⟩
            case round =>
              clear a1 HW
              obtain ⟨j, hj, rfl, rfl, HW⟩ := hrel
              have a1 := (HA.out.later HW.out).cell 1 (.slice A l.length cap) rfl
              have s1 := (HT.out.later HW.out).cell 1 (.slice A5 t.length k5) rfl
              have r4 := (HR.out.later HW.out).cell 4 (.slice A6 K k6) rfl
              by_cases hlt : j < t.length
              · obtain ⟨hkj, hts, hsz⟩ := HAT.out j hlt
                obtain ⟨b, off, cap', e9, hb, hc1, hc2, hrg⟩ := HV.out.at hkj
                cases e9
                obtain ⟨b5, off5, cap5, e9, hb5, hc51, hc52, hrg5⟩ := HR5.out.at hlt
                cases e9
                have HRG := Lib.hid (range_below hrg hb (HB.out.trans (HW.out.mono HB.out.size)))
                have HRG5 := Lib.hid (fun W' (hW' : Below w9.heap.size w9 W') => range_below hrg5 hb5 hW')
                have hx0 := HTOK.out.ok _ (List.getElem_mem hlt)
                have hz1 := hx0.z1; have hz2 := hx0.z2
                have hbt := HBT.out j (by omega)
                have HNX : Hid (btTo l t K (j + 1) = btTo l t K j + btOf l[K + j] t[j]) := Lib.hid (by
                  have e1 : l[K + j]! = l[K + j] := getElem!_pos l _ hkj
                  have e2 : t[j]! = t[j] := getElem!_pos t j hlt
                  show btTo l t K j + btOf l[K + j]! t[j]! = _
                  rw [e1, e2])
                have q1 : (0 : Int) ≤ (j : Int) := by omega
                have q2 : (j : Int) < (t.length : Int) := by omega
                have q3 : (K : Int) + (j : Int) < (l.length : Int) := by omega
                have q4 : (t.length : Int) ≤ 64 := by omega
                obtain ⟨kj, hkj2⟩ : ∃ kj, K + j = kj := ⟨_, rfl⟩
                have q5 : (K : Int) + (j : Int) = (kj : Int) := by omega
                have q6 : (0 : Int) ≤ (kj : Int) := by omega
                have q7 : (kj : Int) < (l.length : Int) := by omega
                clear hrg hrg5 hx0 q3
                generalize l[K + j] = x at *
                generalize t[j] = y at *
                rw [hkj2] at HRG
                clear hkj2 hkj
                obtain ⟨ts, sz, st, mi, ti, pa, tm⟩ := x
                obtain ⟨ts5, sz5, st5, mi5, ti5, pa5, tm5⟩ := y
                simp only at hts hsz hz1 hz2
                subst hts hsz
                obtain ⟨W3, hW3, HX, HB3, hs3⟩ := one_open wr 59 #[.int .u32 0, .int .i64 0, .int .i64 0, .int .i64 0, .int .i64 0, .int .i64 0, .int .i64 0]
                obtain ⟨u, hu⟩ : ∃ u, btTo l t K j = u := ⟨_, rfl⟩
                rw [hu] at HNX hbt ⊢
                clear hu
                obtain ⟨hbt1, hbt2⟩ := hbt
                by_cases h5 : st5 = 2
                · subst h5
                  replace HNX : Hid (btTo l t K (j + 1) = u) := Lib.hid (by rw [HNX.out, btOf_a rfl]; show u + 0 = u; omega)
                  go_wp2_with (first
                    | ((with_reducible refine gate9 ?_); refine ldPc (ty := 59) rfl rfl rfl HRG.out Try.underlying59 rfl infoP ?_)
                    | ((with_reducible refine gate9 ?_); refine stB (ty := 59) (cellsPc ⟨ts5, sz5, st, mi, ti, pa, tm⟩) rfl rfl rfl rfl HX.out infoP rfl (cellsPc_one _) ?_; intro w30 ht hg; replace HB3 := Lib.hid (below_of_grown1 HB3.out hg HB3.out.size (Nat.le_refl _)); replace HX := Lib.hid ht; clear ht hg; replace HW := Lib.hid (HW.out.trans (HB3.out.mono HW.out.size)); have t0 := HX.out.cell 0 (.int .u32 (ts5.toNat : Int)) rfl; have t1 := HX.out.cell 1 (.int .i64 sz5) rfl; have t2 := HX.out.cell 2 (.int .i64 st) rfl; have d0 := HRG5.out _ HW.out 0 (.int .u32 (ts5.toNat : Int)) rfl; have d1 := HRG5.out _ HW.out 1 (.int .i64 sz5) rfl; have d2 := HRG5.out _ HW.out 2 (.int .i64 2) rfl; have s1 := (HT.out.later HW.out).cell 1 (.slice (some ⟨b5, off5, none⟩) t.length k5) rfl))
                  have HS : (fun V => Bx V g11 27 #[.int .u32 (cum.toNat : Int), .slice (some ⟨b5, off5, none⟩) t.length k5] ∧ Bx V wr.heap.size 59 (cellsPc ⟨ts5, sz5, st, mi, ti, pa, tm⟩) ∧ Below w9.heap.size w9 V) _ := ⟨(HT.out.later HW.out).drew, HX.out.drew, below_drawn HW.out⟩
                  clear t0 t1 t2 d0 d1 d2 s1 a1
                  refine wp_region_noPanic ?_
                  refine wp_region_waits (S := (fun V => Bx V g11 27 #[.int .u32 (cum.toNat : Int), .slice (some ⟨b5, off5, none⟩) t.length k5] ∧ Bx V wr.heap.size 59 (cellsPc ⟨ts5, sz5, st, mi, ti, pa, tm⟩) ∧ Below w9.heap.size w9 V)) [] (by kernel_rfl) HS (fun hHeld => ?_)
                  clear HS
                  refine wpAnyW_take (i := 0) (v := ?_) (by simp only [List.getElem?_toArray, List.getElem?_cons_zero]; rfl) (by kernel_rfl) (by kernel_rfl) (by kernel_rfl) (by kernel_rfl) (by kernel_rfl) (fun _ _ _ h => h) (Or.inl ⟨by rfl, ?_⟩) (by assumption) ?_
                  rotate_left 1
                  · (intro w' hSw; go_simp; try with_reducible rfl)
                  try simp only [Act.put, List.setIfInBounds_toArray, List.set_cons_zero, List.set_cons_succ]
                  refine wpAnyW_take (i := 1) (v := ?_) (by simp only [List.getElem?_toArray, List.getElem?_cons_succ, List.getElem?_cons_zero]; rfl) (by kernel_rfl) (by kernel_rfl) (by kernel_rfl) (by kernel_rfl) (by kernel_rfl) (fun _ _ _ h => h) (Or.inl ⟨by rfl, ?_⟩) (by assumption) ?_
                  rotate_left 1
                  · (intro w' hSw; have hq := hSw.1.cell 1 (.slice (some ⟨b5, off5, none⟩) t.length k5) rfl; go_simp; try with_reducible rfl)
                  try simp only [Act.put, List.setIfInBounds_toArray, List.set_cons_zero, List.set_cons_succ]
                  refine wpAnyW_take (i := 2) (v := ?_) (by simp only [List.getElem?_toArray, List.getElem?_cons_succ, List.getElem?_cons_zero]; rfl) (by kernel_rfl) (by kernel_rfl) (by kernel_rfl) (by kernel_rfl) (by kernel_rfl) (fun _ _ _ h => h) (Or.inl ⟨by rfl, ?_⟩) (by assumption) ?_
                  rotate_left 1
                  · (intro w' hSw; go_simp; try with_reducible rfl)
                  try simp only [Act.put, List.setIfInBounds_toArray, List.set_cons_zero, List.set_cons_succ]
                  refine wpAnyW_take (i := 3) (v := ?_) (by simp only [List.getElem?_toArray, List.getElem?_cons_succ, List.getElem?_cons_zero]; rfl) (by kernel_rfl) (by kernel_rfl) (by kernel_rfl) (by kernel_rfl) (by kernel_rfl) (fun _ _ _ h => h) (Or.inl ⟨by rfl, ?_⟩) (by assumption) ?_
                  rotate_left 1
                  · (intro w' hSw; go_simp; try with_reducible rfl)
                  try simp only [Act.put, List.setIfInBounds_toArray, List.set_cons_zero, List.set_cons_succ]
                  refine wpAnyW_take (i := 4) (v := ?_) (by simp only [List.getElem?_toArray, List.getElem?_cons_succ, List.getElem?_cons_zero]; rfl) (by kernel_rfl) (by kernel_rfl) (by kernel_rfl) (by kernel_rfl) (by kernel_rfl) (fun _ _ _ h => h) (Or.inl ⟨by rfl, ?_⟩) (by assumption) ?_
                  rotate_left 1
                  · (intro w' hSw; go_simp; try with_reducible rfl)
                  try simp only [Act.put, List.setIfInBounds_toArray, List.set_cons_zero, List.set_cons_succ]
                  refine wpAnyW_take (i := 5) (v := ?_) (by simp only [List.getElem?_toArray, List.getElem?_cons_succ, List.getElem?_cons_zero]; rfl) (by kernel_rfl) (by kernel_rfl) (by kernel_rfl) (by kernel_rfl) (by kernel_rfl) (fun _ _ _ h => h) (Or.inl ⟨by rfl, ?_⟩) (by assumption) ?_
                  rotate_left 1
                  · (intro w' hSw; have hq : w'.cell? ⟨b5, off5 + j * 7, none⟩ = some (.int .u32 (ts5.toNat : Int)) := HRG5.out _ hSw.2.2 0 (.int .u32 (ts5.toNat : Int)) rfl; go_simp; try with_reducible rfl)
                  try simp only [Act.put, List.setIfInBounds_toArray, List.set_cons_zero, List.set_cons_succ]
                  refine wpAnyW_take (i := 6) (v := ?_) (by simp only [List.getElem?_toArray, List.getElem?_cons_succ, List.getElem?_cons_zero]; rfl) (by kernel_rfl) (by kernel_rfl) (by kernel_rfl) (by kernel_rfl) (by kernel_rfl) (fun _ _ _ h => h) (Or.inl ⟨by rfl, ?_⟩) (by assumption) ?_
                  rotate_left 1
                  · (intro w' hSw; go_simp; try with_reducible rfl)
                  try simp only [Act.put, List.setIfInBounds_toArray, List.set_cons_zero, List.set_cons_succ]
                  refine wpAnyW_take (i := 7) (v := ?_) (by simp only [List.getElem?_toArray, List.getElem?_cons_succ, List.getElem?_cons_zero]; rfl) (by kernel_rfl) (by kernel_rfl) (by kernel_rfl) (by kernel_rfl) (by kernel_rfl) (fun _ _ _ h => h) (Or.inl ⟨by rfl, ?_⟩) (by assumption) ?_
                  rotate_left 1
                  · (intro w' hSw; have hq : w'.cell? ⟨wr.heap.size, 0, none⟩ = some (.int .u32 (ts5.toNat : Int)) := hSw.2.1.cell 0 (.int .u32 (ts5.toNat : Int)) rfl; go_simp; try with_reducible rfl)
                  try simp only [Act.put, List.setIfInBounds_toArray, List.set_cons_zero, List.set_cons_succ]
                  refine wpAnyW_take (i := 8) (v := ?_) (by simp only [List.getElem?_toArray, List.getElem?_cons_succ, List.getElem?_cons_zero]; rfl) (by kernel_rfl) (by kernel_rfl) (by kernel_rfl) (by kernel_rfl) (by kernel_rfl) (fun _ _ _ h => h) (Or.inl ⟨by rfl, ?_⟩) (by assumption) ?_
                  rotate_left 1
                  · (intro w' hSw; go_simp; try with_reducible rfl)
                  try simp only [Act.put, List.setIfInBounds_toArray, List.set_cons_zero, List.set_cons_succ]
                  refine wpAnyW_take (i := 9) (v := ?_) (by simp only [List.getElem?_toArray, List.getElem?_cons_succ, List.getElem?_cons_zero]; rfl) (by kernel_rfl) (by kernel_rfl) (by kernel_rfl) (by kernel_rfl) (by kernel_rfl) (fun _ _ _ h => h) (Or.inl ⟨by rfl, ?_⟩) (by assumption) ?_
                  rotate_left 1
                  · (intro w' hSw; go_simp; try with_reducible rfl)
                  try simp only [Act.put, List.setIfInBounds_toArray, List.set_cons_zero, List.set_cons_succ]
                  refine wpAnyW_take (i := 10) (v := ?_) (by simp only [List.getElem?_toArray, List.getElem?_cons_succ, List.getElem?_cons_zero]; rfl) (by kernel_rfl) (by kernel_rfl) (by kernel_rfl) (by kernel_rfl) (by kernel_rfl) (fun _ _ _ h => h) (Or.inl ⟨by rfl, ?_⟩) (by assumption) ?_
                  rotate_left 1
                  · (intro w' hSw; go_simp; try with_reducible rfl)
                  try simp only [Act.put, List.setIfInBounds_toArray, List.set_cons_zero, List.set_cons_succ]
                  refine wpAnyW_take (i := 11) (v := ?_) (by simp only [List.getElem?_toArray, List.getElem?_cons_succ, List.getElem?_cons_zero]; rfl) (by kernel_rfl) (by kernel_rfl) (by kernel_rfl) (by kernel_rfl) (by kernel_rfl) (fun _ _ _ h => h) (Or.inl ⟨by rfl, ?_⟩) (by assumption) ?_
                  rotate_left 1
                  · (intro w' hSw; have hq := hSw.1.cell 1 (.slice (some ⟨b5, off5, none⟩) t.length k5) rfl; go_simp; try with_reducible rfl)
                  try simp only [Act.put, List.setIfInBounds_toArray, List.set_cons_zero, List.set_cons_succ]
                  refine wpAnyW_take (i := 12) (v := ?_) (by simp only [List.getElem?_toArray, List.getElem?_cons_succ, List.getElem?_cons_zero]; rfl) (by kernel_rfl) (by kernel_rfl) (by kernel_rfl) (by kernel_rfl) (by kernel_rfl) (fun _ _ _ h => h) (Or.inl ⟨by rfl, ?_⟩) (by assumption) ?_
                  rotate_left 1
                  · (intro w' hSw; go_simp; try with_reducible rfl)
                  try simp only [Act.put, List.setIfInBounds_toArray, List.set_cons_zero, List.set_cons_succ]
                  refine wpAnyW_take (i := 13) (v := ?_) (by simp only [List.getElem?_toArray, List.getElem?_cons_succ, List.getElem?_cons_zero]; rfl) (by kernel_rfl) (by kernel_rfl) (by kernel_rfl) (by kernel_rfl) (by kernel_rfl) (fun _ _ _ h => h) (Or.inl ⟨by rfl, ?_⟩) (by assumption) ?_
                  rotate_left 1
                  · (intro w' hSw; go_simp; try with_reducible rfl)
                  try simp only [Act.put, List.setIfInBounds_toArray, List.set_cons_zero, List.set_cons_succ]
                  refine wpAnyW_take (i := 14) (v := ?_) (by simp only [List.getElem?_toArray, List.getElem?_cons_succ, List.getElem?_cons_zero]; rfl) (by kernel_rfl) (by kernel_rfl) (by kernel_rfl) (by kernel_rfl) (by kernel_rfl) (fun _ _ _ h => h) (Or.inl ⟨by rfl, ?_⟩) (by assumption) ?_
                  rotate_left 1
                  · (intro w' hSw; go_simp; try with_reducible rfl)
                  try simp only [Act.put, List.setIfInBounds_toArray, List.set_cons_zero, List.set_cons_succ]
                  refine wpAnyW_take (i := 15) (v := ?_) (by simp only [List.getElem?_toArray, List.getElem?_cons_succ, List.getElem?_cons_zero]; rfl) (by kernel_rfl) (by kernel_rfl) (by kernel_rfl) (by kernel_rfl) (by kernel_rfl) (fun _ _ _ h => h) (Or.inl ⟨by rfl, ?_⟩) (by assumption) ?_
                  rotate_left 1
                  · (intro w' hSw; have hq : w'.cell? ⟨b5, off5 + j * 7 + 1, none⟩ = some (.int .i64 sz5) := HRG5.out _ hSw.2.2 1 (.int .i64 sz5) rfl; go_simp; try with_reducible rfl)
                  try simp only [Act.put, List.setIfInBounds_toArray, List.set_cons_zero, List.set_cons_succ]
                  refine wpAnyW_take (i := 16) (v := ?_) (by simp only [List.getElem?_toArray, List.getElem?_cons_succ, List.getElem?_cons_zero]; rfl) (by kernel_rfl) (by kernel_rfl) (by kernel_rfl) (by kernel_rfl) (by kernel_rfl) (fun _ _ _ h => h) (Or.inl ⟨by rfl, ?_⟩) (by assumption) ?_
                  rotate_left 1
                  · (intro w' hSw; go_simp; try with_reducible rfl)
                  try simp only [Act.put, List.setIfInBounds_toArray, List.set_cons_zero, List.set_cons_succ]
                  refine wpAnyW_take (i := 17) (v := ?_) (by simp only [List.getElem?_toArray, List.getElem?_cons_succ, List.getElem?_cons_zero]; rfl) (by kernel_rfl) (by kernel_rfl) (by kernel_rfl) (by kernel_rfl) (by kernel_rfl) (fun _ _ _ h => h) (Or.inl ⟨by rfl, ?_⟩) (by assumption) ?_
                  rotate_left 1
                  · (intro w' hSw; have hq := hSw.2.1.cell 1 (.int .i64 sz5) rfl; go_simp; try with_reducible rfl)
                  try simp only [Act.put, List.setIfInBounds_toArray, List.set_cons_zero, List.set_cons_succ]
                  refine wpAnyW_take (i := 18) (v := ?_) (by simp only [List.getElem?_toArray, List.getElem?_cons_succ, List.getElem?_cons_zero]; rfl) (by kernel_rfl) (by kernel_rfl) (by kernel_rfl) (by kernel_rfl) (by kernel_rfl) (fun _ _ _ h => h) (Or.inl ⟨by rfl, ?_⟩) (by assumption) ?_
                  rotate_left 1
                  · (intro w' hSw; go_simp; try with_reducible rfl)
                  try simp only [Act.put, List.setIfInBounds_toArray, List.set_cons_zero, List.set_cons_succ]
                  refine wpAnyW_take (i := 19) (v := ?_) (by simp only [List.getElem?_toArray, List.getElem?_cons_succ, List.getElem?_cons_zero]; rfl) (by kernel_rfl) (by kernel_rfl) (by kernel_rfl) (by kernel_rfl) (by kernel_rfl) (fun _ _ _ h => h) (Or.inl ⟨by rfl, ?_⟩) (by assumption) ?_
                  rotate_left 1
                  · (intro w' hSw; go_simp; try with_reducible rfl)
                  try simp only [Act.put, List.setIfInBounds_toArray, List.set_cons_zero, List.set_cons_succ]
                  clear hHeld
                  refine wpAnyW_done (by kernel_rfl) ?_ _
                  refine NoPanic.normal ?_
                  go_wp2_with fail
                  go_roundw
                  case rel => exact ⟨j + 1, by omega, by rw [HNX.out], by go_num, Lib.hid (below_drawn HW.out)⟩
                  case measure => simp [intOf]; omega
                · have p9 : (st5 == 2) = false := by rw [beq_eq_false_iff_ne]; exact h5
                  by_cases h2 : st = 2
                  · subst h2
                    replace HNX : Hid (btTo l t K (j + 1) = u + sz5 - sz5) := Lib.hid (by rw [HNX.out, btOf_b h5 rfl]; show u + (sz5 - sz5) = u + sz5 - sz5; omega)
                    clear h5
                    go_wp2_with (first
                      | ((with_reducible refine gate9 ?_); refine ldPc (ty := 59) rfl rfl rfl HRG.out Try.underlying59 rfl infoP ?_)
                      | ((with_reducible refine gate9 ?_); refine stB (ty := 59) (cellsPc ⟨ts5, sz5, 2, mi, ti, pa, tm⟩) rfl rfl rfl rfl HX.out infoP rfl (cellsPc_one _) ?_; intro w30 ht hg; replace HB3 := Lib.hid (below_of_grown1 HB3.out hg HB3.out.size (Nat.le_refl _)); replace HX := Lib.hid ht; clear ht hg; replace HW := Lib.hid (HW.out.trans (HB3.out.mono HW.out.size)); have t0 := HX.out.cell 0 (.int .u32 (ts5.toNat : Int)) rfl; have t1 := HX.out.cell 1 (.int .i64 sz5) rfl; have t2 := HX.out.cell 2 (.int .i64 2) rfl; have d0 := HRG5.out _ HW.out 0 (.int .u32 (ts5.toNat : Int)) rfl; have d1 := HRG5.out _ HW.out 1 (.int .i64 sz5) rfl; have d2 := HRG5.out _ HW.out 2 (.int .i64 st5) rfl; have s1 := (HT.out.later HW.out).cell 1 (.slice (some ⟨b5, off5, none⟩) t.length k5) rfl))
                    have HS : (fun V => Bx V g11 27 #[.int .u32 (cum.toNat : Int), .slice (some ⟨b5, off5, none⟩) t.length k5] ∧ Bx V wr.heap.size 59 (cellsPc ⟨ts5, sz5, 2, mi, ti, pa, tm⟩) ∧ Below w9.heap.size w9 V) _ := ⟨(HT.out.later HW.out).drew, HX.out.drew, below_drawn HW.out⟩
                    clear t0 t1 t2 d0 d1 d2 s1 a1
                    refine wp_region_noPanic ?_
                    refine wp_region_waits (S := (fun V => Bx V g11 27 #[.int .u32 (cum.toNat : Int), .slice (some ⟨b5, off5, none⟩) t.length k5] ∧ Bx V wr.heap.size 59 (cellsPc ⟨ts5, sz5, 2, mi, ti, pa, tm⟩) ∧ Below w9.heap.size w9 V)) [] (by kernel_rfl) HS (fun hHeld => ?_)
                    clear HS
                    refine wpAnyW_take (i := 0) (v := ?_) (by simp only [List.getElem?_toArray, List.getElem?_cons_zero]; rfl) (by kernel_rfl) (by kernel_rfl) (by kernel_rfl) (by kernel_rfl) (by kernel_rfl) (fun _ _ _ h => h) (Or.inl ⟨by rfl, ?_⟩) (by assumption) ?_
                    rotate_left 1
                    · (intro w' hSw; go_simp; try with_reducible rfl)
                    try simp only [Act.put, List.setIfInBounds_toArray, List.set_cons_zero, List.set_cons_succ]
                    refine wpAnyW_take (i := 1) (v := ?_) (by simp only [List.getElem?_toArray, List.getElem?_cons_succ, List.getElem?_cons_zero]; rfl) (by kernel_rfl) (by kernel_rfl) (by kernel_rfl) (by kernel_rfl) (by kernel_rfl) (fun _ _ _ h => h) (Or.inl ⟨by rfl, ?_⟩) (by assumption) ?_
                    rotate_left 1
                    · (intro w' hSw; have hq := hSw.1.cell 1 (.slice (some ⟨b5, off5, none⟩) t.length k5) rfl; go_simp; try with_reducible rfl)
                    try simp only [Act.put, List.setIfInBounds_toArray, List.set_cons_zero, List.set_cons_succ]
                    refine wpAnyW_take (i := 2) (v := ?_) (by simp only [List.getElem?_toArray, List.getElem?_cons_succ, List.getElem?_cons_zero]; rfl) (by kernel_rfl) (by kernel_rfl) (by kernel_rfl) (by kernel_rfl) (by kernel_rfl) (fun _ _ _ h => h) (Or.inl ⟨by rfl, ?_⟩) (by assumption) ?_
                    rotate_left 1
                    · (intro w' hSw; go_simp; try with_reducible rfl)
                    try simp only [Act.put, List.setIfInBounds_toArray, List.set_cons_zero, List.set_cons_succ]
                    refine wpAnyW_take (i := 3) (v := ?_) (by simp only [List.getElem?_toArray, List.getElem?_cons_succ, List.getElem?_cons_zero]; rfl) (by kernel_rfl) (by kernel_rfl) (by kernel_rfl) (by kernel_rfl) (by kernel_rfl) (fun _ _ _ h => h) (Or.inl ⟨by rfl, ?_⟩) (by assumption) ?_
                    rotate_left 1
                    · (intro w' hSw; go_simp; try with_reducible rfl)
                    try simp only [Act.put, List.setIfInBounds_toArray, List.set_cons_zero, List.set_cons_succ]
                    refine wpAnyW_take (i := 4) (v := ?_) (by simp only [List.getElem?_toArray, List.getElem?_cons_succ, List.getElem?_cons_zero]; rfl) (by kernel_rfl) (by kernel_rfl) (by kernel_rfl) (by kernel_rfl) (by kernel_rfl) (fun _ _ _ h => h) (Or.inl ⟨by rfl, ?_⟩) (by assumption) ?_
                    rotate_left 1
                    · (intro w' hSw; go_simp; try with_reducible rfl)
                    try simp only [Act.put, List.setIfInBounds_toArray, List.set_cons_zero, List.set_cons_succ]
                    refine wpAnyW_take (i := 5) (v := ?_) (by simp only [List.getElem?_toArray, List.getElem?_cons_succ, List.getElem?_cons_zero]; rfl) (by kernel_rfl) (by kernel_rfl) (by kernel_rfl) (by kernel_rfl) (by kernel_rfl) (fun _ _ _ h => h) (Or.inl ⟨by rfl, ?_⟩) (by assumption) ?_
                    rotate_left 1
                    · (intro w' hSw; have hq : w'.cell? ⟨b5, off5 + j * 7, none⟩ = some (.int .u32 (ts5.toNat : Int)) := HRG5.out _ hSw.2.2 0 (.int .u32 (ts5.toNat : Int)) rfl; go_simp; try with_reducible rfl)
                    try simp only [Act.put, List.setIfInBounds_toArray, List.set_cons_zero, List.set_cons_succ]
                    refine wpAnyW_take (i := 6) (v := ?_) (by simp only [List.getElem?_toArray, List.getElem?_cons_succ, List.getElem?_cons_zero]; rfl) (by kernel_rfl) (by kernel_rfl) (by kernel_rfl) (by kernel_rfl) (by kernel_rfl) (fun _ _ _ h => h) (Or.inl ⟨by rfl, ?_⟩) (by assumption) ?_
                    rotate_left 1
                    · (intro w' hSw; go_simp; try with_reducible rfl)
                    try simp only [Act.put, List.setIfInBounds_toArray, List.set_cons_zero, List.set_cons_succ]
                    refine wpAnyW_take (i := 7) (v := ?_) (by simp only [List.getElem?_toArray, List.getElem?_cons_succ, List.getElem?_cons_zero]; rfl) (by kernel_rfl) (by kernel_rfl) (by kernel_rfl) (by kernel_rfl) (by kernel_rfl) (fun _ _ _ h => h) (Or.inl ⟨by rfl, ?_⟩) (by assumption) ?_
                    rotate_left 1
                    · (intro w' hSw; have hq : w'.cell? ⟨wr.heap.size, 0, none⟩ = some (.int .u32 (ts5.toNat : Int)) := hSw.2.1.cell 0 (.int .u32 (ts5.toNat : Int)) rfl; go_simp; try with_reducible rfl)
                    try simp only [Act.put, List.setIfInBounds_toArray, List.set_cons_zero, List.set_cons_succ]
                    refine wpAnyW_take (i := 8) (v := ?_) (by simp only [List.getElem?_toArray, List.getElem?_cons_succ, List.getElem?_cons_zero]; rfl) (by kernel_rfl) (by kernel_rfl) (by kernel_rfl) (by kernel_rfl) (by kernel_rfl) (fun _ _ _ h => h) (Or.inl ⟨by rfl, ?_⟩) (by assumption) ?_
                    rotate_left 1
                    · (intro w' hSw; go_simp; try with_reducible rfl)
                    try simp only [Act.put, List.setIfInBounds_toArray, List.set_cons_zero, List.set_cons_succ]
                    refine wpAnyW_take (i := 9) (v := ?_) (by simp only [List.getElem?_toArray, List.getElem?_cons_succ, List.getElem?_cons_zero]; rfl) (by kernel_rfl) (by kernel_rfl) (by kernel_rfl) (by kernel_rfl) (by kernel_rfl) (fun _ _ _ h => h) (Or.inl ⟨by rfl, ?_⟩) (by assumption) ?_
                    rotate_left 1
                    · (intro w' hSw; go_simp; try with_reducible rfl)
                    try simp only [Act.put, List.setIfInBounds_toArray, List.set_cons_zero, List.set_cons_succ]
                    refine wpAnyW_take (i := 10) (v := ?_) (by simp only [List.getElem?_toArray, List.getElem?_cons_succ, List.getElem?_cons_zero]; rfl) (by kernel_rfl) (by kernel_rfl) (by kernel_rfl) (by kernel_rfl) (by kernel_rfl) (fun _ _ _ h => h) (Or.inl ⟨by rfl, ?_⟩) (by assumption) ?_
                    rotate_left 1
                    · (intro w' hSw; go_simp; try with_reducible rfl)
                    try simp only [Act.put, List.setIfInBounds_toArray, List.set_cons_zero, List.set_cons_succ]
                    refine wpAnyW_take (i := 11) (v := ?_) (by simp only [List.getElem?_toArray, List.getElem?_cons_succ, List.getElem?_cons_zero]; rfl) (by kernel_rfl) (by kernel_rfl) (by kernel_rfl) (by kernel_rfl) (by kernel_rfl) (fun _ _ _ h => h) (Or.inl ⟨by rfl, ?_⟩) (by assumption) ?_
                    rotate_left 1
                    · (intro w' hSw; have hq := hSw.1.cell 1 (.slice (some ⟨b5, off5, none⟩) t.length k5) rfl; go_simp; try with_reducible rfl)
                    try simp only [Act.put, List.setIfInBounds_toArray, List.set_cons_zero, List.set_cons_succ]
                    refine wpAnyW_take (i := 12) (v := ?_) (by simp only [List.getElem?_toArray, List.getElem?_cons_succ, List.getElem?_cons_zero]; rfl) (by kernel_rfl) (by kernel_rfl) (by kernel_rfl) (by kernel_rfl) (by kernel_rfl) (fun _ _ _ h => h) (Or.inl ⟨by rfl, ?_⟩) (by assumption) ?_
                    rotate_left 1
                    · (intro w' hSw; go_simp; try with_reducible rfl)
                    try simp only [Act.put, List.setIfInBounds_toArray, List.set_cons_zero, List.set_cons_succ]
                    refine wpAnyW_take (i := 13) (v := ?_) (by simp only [List.getElem?_toArray, List.getElem?_cons_succ, List.getElem?_cons_zero]; rfl) (by kernel_rfl) (by kernel_rfl) (by kernel_rfl) (by kernel_rfl) (by kernel_rfl) (fun _ _ _ h => h) (Or.inl ⟨by rfl, ?_⟩) (by assumption) ?_
                    rotate_left 1
                    · (intro w' hSw; go_simp; try with_reducible rfl)
                    try simp only [Act.put, List.setIfInBounds_toArray, List.set_cons_zero, List.set_cons_succ]
                    refine wpAnyW_take (i := 14) (v := ?_) (by simp only [List.getElem?_toArray, List.getElem?_cons_succ, List.getElem?_cons_zero]; rfl) (by kernel_rfl) (by kernel_rfl) (by kernel_rfl) (by kernel_rfl) (by kernel_rfl) (fun _ _ _ h => h) (Or.inl ⟨by rfl, ?_⟩) (by assumption) ?_
                    rotate_left 1
                    · (intro w' hSw; go_simp; try with_reducible rfl)
                    try simp only [Act.put, List.setIfInBounds_toArray, List.set_cons_zero, List.set_cons_succ]
                    refine wpAnyW_take (i := 15) (v := ?_) (by simp only [List.getElem?_toArray, List.getElem?_cons_succ, List.getElem?_cons_zero]; rfl) (by kernel_rfl) (by kernel_rfl) (by kernel_rfl) (by kernel_rfl) (by kernel_rfl) (fun _ _ _ h => h) (Or.inl ⟨by rfl, ?_⟩) (by assumption) ?_
                    rotate_left 1
                    · (intro w' hSw; have hq : w'.cell? ⟨b5, off5 + j * 7 + 1, none⟩ = some (.int .i64 sz5) := HRG5.out _ hSw.2.2 1 (.int .i64 sz5) rfl; go_simp; try with_reducible rfl)
                    try simp only [Act.put, List.setIfInBounds_toArray, List.set_cons_zero, List.set_cons_succ]
                    refine wpAnyW_take (i := 16) (v := ?_) (by simp only [List.getElem?_toArray, List.getElem?_cons_succ, List.getElem?_cons_zero]; rfl) (by kernel_rfl) (by kernel_rfl) (by kernel_rfl) (by kernel_rfl) (by kernel_rfl) (fun _ _ _ h => h) (Or.inl ⟨by rfl, ?_⟩) (by assumption) ?_
                    rotate_left 1
                    · (intro w' hSw; go_simp; try with_reducible rfl)
                    try simp only [Act.put, List.setIfInBounds_toArray, List.set_cons_zero, List.set_cons_succ]
                    refine wpAnyW_take (i := 17) (v := ?_) (by simp only [List.getElem?_toArray, List.getElem?_cons_succ, List.getElem?_cons_zero]; rfl) (by kernel_rfl) (by kernel_rfl) (by kernel_rfl) (by kernel_rfl) (by kernel_rfl) (fun _ _ _ h => h) (Or.inl ⟨by rfl, ?_⟩) (by assumption) ?_
                    rotate_left 1
                    · (intro w' hSw; have hq := hSw.2.1.cell 1 (.int .i64 sz5) rfl; go_simp; try with_reducible rfl)
                    try simp only [Act.put, List.setIfInBounds_toArray, List.set_cons_zero, List.set_cons_succ]
                    refine wpAnyW_take (i := 18) (v := ?_) (by simp only [List.getElem?_toArray, List.getElem?_cons_succ, List.getElem?_cons_zero]; rfl) (by kernel_rfl) (by kernel_rfl) (by kernel_rfl) (by kernel_rfl) (by kernel_rfl) (fun _ _ _ h => h) (Or.inl ⟨by rfl, ?_⟩) (by assumption) ?_
                    rotate_left 1
                    · (intro w' hSw; go_simp; try with_reducible rfl)
                    try simp only [Act.put, List.setIfInBounds_toArray, List.set_cons_zero, List.set_cons_succ]
                    refine wpAnyW_take (i := 19) (v := ?_) (by simp only [List.getElem?_toArray, List.getElem?_cons_succ, List.getElem?_cons_zero]; rfl) (by kernel_rfl) (by kernel_rfl) (by kernel_rfl) (by kernel_rfl) (by kernel_rfl) (fun _ _ _ h => h) (Or.inl ⟨by rfl, ?_⟩) (by assumption) ?_
                    rotate_left 1
                    · (intro w' hSw; go_simp; try with_reducible rfl)
                    try simp only [Act.put, List.setIfInBounds_toArray, List.set_cons_zero, List.set_cons_succ]
                    clear hHeld
                    refine wpAnyW_done (by kernel_rfl) ?_ _
                    refine NoPanic.normal ?_
                    go_wp2_with fail
                    go_roundw
                    case rel => exact ⟨j + 1, by omega, (by rw [HNX.out]; show Value.int .i64 _ = Value.int .i64 _; congr 1; omega), by go_num, Lib.hid (below_drawn HW.out)⟩
                    case measure => simp [intOf]; omega
                  · have q9 : (st == 2) = false := by rw [beq_eq_false_iff_ne]; exact h2
                    replace HNX : Hid (btTo l t K (j + 1) = u + sz5) := Lib.hid (by rw [HNX.out, btOf_c h5 h2])
                    clear h5 h2
                    go_wp2_with (first
                      | ((with_reducible refine gate9 ?_); refine ldPc (ty := 59) rfl rfl rfl HRG.out Try.underlying59 rfl infoP ?_)
                      | ((with_reducible refine gate9 ?_); refine stB (ty := 59) (cellsPc ⟨ts5, sz5, st, mi, ti, pa, tm⟩) rfl rfl rfl rfl HX.out infoP rfl (cellsPc_one _) ?_; intro w30 ht hg; replace HB3 := Lib.hid (below_of_grown1 HB3.out hg HB3.out.size (Nat.le_refl _)); replace HX := Lib.hid ht; clear ht hg; replace HW := Lib.hid (HW.out.trans (HB3.out.mono HW.out.size)); have t0 := HX.out.cell 0 (.int .u32 (ts5.toNat : Int)) rfl; have t1 := HX.out.cell 1 (.int .i64 sz5) rfl; have t2 := HX.out.cell 2 (.int .i64 st) rfl; have d0 := HRG5.out _ HW.out 0 (.int .u32 (ts5.toNat : Int)) rfl; have d1 := HRG5.out _ HW.out 1 (.int .i64 sz5) rfl; have d2 := HRG5.out _ HW.out 2 (.int .i64 st5) rfl; have s1 := (HT.out.later HW.out).cell 1 (.slice (some ⟨b5, off5, none⟩) t.length k5) rfl))
                    have HS : (fun V => Bx V g11 27 #[.int .u32 (cum.toNat : Int), .slice (some ⟨b5, off5, none⟩) t.length k5] ∧ Bx V wr.heap.size 59 (cellsPc ⟨ts5, sz5, st, mi, ti, pa, tm⟩) ∧ Below w9.heap.size w9 V) _ := ⟨(HT.out.later HW.out).drew, HX.out.drew, below_drawn HW.out⟩
                    clear t0 t1 t2 d0 d1 d2 s1 a1
                    refine wp_region_noPanic ?_
                    refine wp_region_waits (S := (fun V => Bx V g11 27 #[.int .u32 (cum.toNat : Int), .slice (some ⟨b5, off5, none⟩) t.length k5] ∧ Bx V wr.heap.size 59 (cellsPc ⟨ts5, sz5, st, mi, ti, pa, tm⟩) ∧ Below w9.heap.size w9 V)) [] (by kernel_rfl) HS (fun hHeld => ?_)
                    clear HS
                    refine wpAnyW_take (i := 0) (v := ?_) (by simp only [List.getElem?_toArray, List.getElem?_cons_zero]; rfl) (by kernel_rfl) (by kernel_rfl) (by kernel_rfl) (by kernel_rfl) (by kernel_rfl) (fun _ _ _ h => h) (Or.inl ⟨by rfl, ?_⟩) (by assumption) ?_
                    rotate_left 1
                    · (intro w' hSw; go_simp; try with_reducible rfl)
                    try simp only [Act.put, List.setIfInBounds_toArray, List.set_cons_zero, List.set_cons_succ]
                    refine wpAnyW_take (i := 1) (v := ?_) (by simp only [List.getElem?_toArray, List.getElem?_cons_succ, List.getElem?_cons_zero]; rfl) (by kernel_rfl) (by kernel_rfl) (by kernel_rfl) (by kernel_rfl) (by kernel_rfl) (fun _ _ _ h => h) (Or.inl ⟨by rfl, ?_⟩) (by assumption) ?_
                    rotate_left 1
                    · (intro w' hSw; have hq := hSw.1.cell 1 (.slice (some ⟨b5, off5, none⟩) t.length k5) rfl; go_simp; try with_reducible rfl)
                    try simp only [Act.put, List.setIfInBounds_toArray, List.set_cons_zero, List.set_cons_succ]
                    refine wpAnyW_take (i := 2) (v := ?_) (by simp only [List.getElem?_toArray, List.getElem?_cons_succ, List.getElem?_cons_zero]; rfl) (by kernel_rfl) (by kernel_rfl) (by kernel_rfl) (by kernel_rfl) (by kernel_rfl) (fun _ _ _ h => h) (Or.inl ⟨by rfl, ?_⟩) (by assumption) ?_
                    rotate_left 1
                    · (intro w' hSw; go_simp; try with_reducible rfl)
                    try simp only [Act.put, List.setIfInBounds_toArray, List.set_cons_zero, List.set_cons_succ]
                    refine wpAnyW_take (i := 3) (v := ?_) (by simp only [List.getElem?_toArray, List.getElem?_cons_succ, List.getElem?_cons_zero]; rfl) (by kernel_rfl) (by kernel_rfl) (by kernel_rfl) (by kernel_rfl) (by kernel_rfl) (fun _ _ _ h => h) (Or.inl ⟨by rfl, ?_⟩) (by assumption) ?_
                    rotate_left 1
                    · (intro w' hSw; go_simp; try with_reducible rfl)
                    try simp only [Act.put, List.setIfInBounds_toArray, List.set_cons_zero, List.set_cons_succ]
                    refine wpAnyW_take (i := 4) (v := ?_) (by simp only [List.getElem?_toArray, List.getElem?_cons_succ, List.getElem?_cons_zero]; rfl) (by kernel_rfl) (by kernel_rfl) (by kernel_rfl) (by kernel_rfl) (by kernel_rfl) (fun _ _ _ h => h) (Or.inl ⟨by rfl, ?_⟩) (by assumption) ?_
                    rotate_left 1
                    · (intro w' hSw; go_simp; try with_reducible rfl)
                    try simp only [Act.put, List.setIfInBounds_toArray, List.set_cons_zero, List.set_cons_succ]
                    refine wpAnyW_take (i := 5) (v := ?_) (by simp only [List.getElem?_toArray, List.getElem?_cons_succ, List.getElem?_cons_zero]; rfl) (by kernel_rfl) (by kernel_rfl) (by kernel_rfl) (by kernel_rfl) (by kernel_rfl) (fun _ _ _ h => h) (Or.inl ⟨by rfl, ?_⟩) (by assumption) ?_
                    rotate_left 1
                    · (intro w' hSw; have hq : w'.cell? ⟨b5, off5 + j * 7, none⟩ = some (.int .u32 (ts5.toNat : Int)) := HRG5.out _ hSw.2.2 0 (.int .u32 (ts5.toNat : Int)) rfl; go_simp; try with_reducible rfl)
                    try simp only [Act.put, List.setIfInBounds_toArray, List.set_cons_zero, List.set_cons_succ]
                    refine wpAnyW_take (i := 6) (v := ?_) (by simp only [List.getElem?_toArray, List.getElem?_cons_succ, List.getElem?_cons_zero]; rfl) (by kernel_rfl) (by kernel_rfl) (by kernel_rfl) (by kernel_rfl) (by kernel_rfl) (fun _ _ _ h => h) (Or.inl ⟨by rfl, ?_⟩) (by assumption) ?_
                    rotate_left 1
                    · (intro w' hSw; go_simp; try with_reducible rfl)
                    try simp only [Act.put, List.setIfInBounds_toArray, List.set_cons_zero, List.set_cons_succ]
                    refine wpAnyW_take (i := 7) (v := ?_) (by simp only [List.getElem?_toArray, List.getElem?_cons_succ, List.getElem?_cons_zero]; rfl) (by kernel_rfl) (by kernel_rfl) (by kernel_rfl) (by kernel_rfl) (by kernel_rfl) (fun _ _ _ h => h) (Or.inl ⟨by rfl, ?_⟩) (by assumption) ?_
                    rotate_left 1
                    · (intro w' hSw; have hq : w'.cell? ⟨wr.heap.size, 0, none⟩ = some (.int .u32 (ts5.toNat : Int)) := hSw.2.1.cell 0 (.int .u32 (ts5.toNat : Int)) rfl; go_simp; try with_reducible rfl)
                    try simp only [Act.put, List.setIfInBounds_toArray, List.set_cons_zero, List.set_cons_succ]
                    refine wpAnyW_take (i := 8) (v := ?_) (by simp only [List.getElem?_toArray, List.getElem?_cons_succ, List.getElem?_cons_zero]; rfl) (by kernel_rfl) (by kernel_rfl) (by kernel_rfl) (by kernel_rfl) (by kernel_rfl) (fun _ _ _ h => h) (Or.inl ⟨by rfl, ?_⟩) (by assumption) ?_
                    rotate_left 1
                    · (intro w' hSw; go_simp; try with_reducible rfl)
                    try simp only [Act.put, List.setIfInBounds_toArray, List.set_cons_zero, List.set_cons_succ]
                    refine wpAnyW_take (i := 9) (v := ?_) (by simp only [List.getElem?_toArray, List.getElem?_cons_succ, List.getElem?_cons_zero]; rfl) (by kernel_rfl) (by kernel_rfl) (by kernel_rfl) (by kernel_rfl) (by kernel_rfl) (fun _ _ _ h => h) (Or.inl ⟨by rfl, ?_⟩) (by assumption) ?_
                    rotate_left 1
                    · (intro w' hSw; go_simp; try with_reducible rfl)
                    try simp only [Act.put, List.setIfInBounds_toArray, List.set_cons_zero, List.set_cons_succ]
                    refine wpAnyW_take (i := 10) (v := ?_) (by simp only [List.getElem?_toArray, List.getElem?_cons_succ, List.getElem?_cons_zero]; rfl) (by kernel_rfl) (by kernel_rfl) (by kernel_rfl) (by kernel_rfl) (by kernel_rfl) (fun _ _ _ h => h) (Or.inl ⟨by rfl, ?_⟩) (by assumption) ?_
                    rotate_left 1
                    · (intro w' hSw; go_simp; try with_reducible rfl)
                    try simp only [Act.put, List.setIfInBounds_toArray, List.set_cons_zero, List.set_cons_succ]
                    refine wpAnyW_take (i := 11) (v := ?_) (by simp only [List.getElem?_toArray, List.getElem?_cons_succ, List.getElem?_cons_zero]; rfl) (by kernel_rfl) (by kernel_rfl) (by kernel_rfl) (by kernel_rfl) (by kernel_rfl) (fun _ _ _ h => h) (Or.inl ⟨by rfl, ?_⟩) (by assumption) ?_
                    rotate_left 1
                    · (intro w' hSw; have hq := hSw.1.cell 1 (.slice (some ⟨b5, off5, none⟩) t.length k5) rfl; go_simp; try with_reducible rfl)
                    try simp only [Act.put, List.setIfInBounds_toArray, List.set_cons_zero, List.set_cons_succ]
                    refine wpAnyW_take (i := 12) (v := ?_) (by simp only [List.getElem?_toArray, List.getElem?_cons_succ, List.getElem?_cons_zero]; rfl) (by kernel_rfl) (by kernel_rfl) (by kernel_rfl) (by kernel_rfl) (by kernel_rfl) (fun _ _ _ h => h) (Or.inl ⟨by rfl, ?_⟩) (by assumption) ?_
                    rotate_left 1
                    · (intro w' hSw; go_simp; try with_reducible rfl)
                    try simp only [Act.put, List.setIfInBounds_toArray, List.set_cons_zero, List.set_cons_succ]
                    refine wpAnyW_take (i := 13) (v := ?_) (by simp only [List.getElem?_toArray, List.getElem?_cons_succ, List.getElem?_cons_zero]; rfl) (by kernel_rfl) (by kernel_rfl) (by kernel_rfl) (by kernel_rfl) (by kernel_rfl) (fun _ _ _ h => h) (Or.inl ⟨by rfl, ?_⟩) (by assumption) ?_
                    rotate_left 1
                    · (intro w' hSw; go_simp; try with_reducible rfl)
                    try simp only [Act.put, List.setIfInBounds_toArray, List.set_cons_zero, List.set_cons_succ]
                    refine wpAnyW_take (i := 14) (v := ?_) (by simp only [List.getElem?_toArray, List.getElem?_cons_succ, List.getElem?_cons_zero]; rfl) (by kernel_rfl) (by kernel_rfl) (by kernel_rfl) (by kernel_rfl) (by kernel_rfl) (fun _ _ _ h => h) (Or.inl ⟨by rfl, ?_⟩) (by assumption) ?_
                    rotate_left 1
                    · (intro w' hSw; go_simp; try with_reducible rfl)
                    try simp only [Act.put, List.setIfInBounds_toArray, List.set_cons_zero, List.set_cons_succ]
                    refine wpAnyW_take (i := 15) (v := ?_) (by simp only [List.getElem?_toArray, List.getElem?_cons_succ, List.getElem?_cons_zero]; rfl) (by kernel_rfl) (by kernel_rfl) (by kernel_rfl) (by kernel_rfl) (by kernel_rfl) (fun _ _ _ h => h) (Or.inl ⟨by rfl, ?_⟩) (by assumption) ?_
                    rotate_left 1
                    · (intro w' hSw; have hq : w'.cell? ⟨b5, off5 + j * 7 + 1, none⟩ = some (.int .i64 sz5) := HRG5.out _ hSw.2.2 1 (.int .i64 sz5) rfl; go_simp; try with_reducible rfl)
                    try simp only [Act.put, List.setIfInBounds_toArray, List.set_cons_zero, List.set_cons_succ]
                    refine wpAnyW_take (i := 16) (v := ?_) (by simp only [List.getElem?_toArray, List.getElem?_cons_succ, List.getElem?_cons_zero]; rfl) (by kernel_rfl) (by kernel_rfl) (by kernel_rfl) (by kernel_rfl) (by kernel_rfl) (fun _ _ _ h => h) (Or.inl ⟨by rfl, ?_⟩) (by assumption) ?_
                    rotate_left 1
                    · (intro w' hSw; go_simp; try with_reducible rfl)
                    try simp only [Act.put, List.setIfInBounds_toArray, List.set_cons_zero, List.set_cons_succ]
                    refine wpAnyW_take (i := 17) (v := ?_) (by simp only [List.getElem?_toArray, List.getElem?_cons_succ, List.getElem?_cons_zero]; rfl) (by kernel_rfl) (by kernel_rfl) (by kernel_rfl) (by kernel_rfl) (by kernel_rfl) (fun _ _ _ h => h) (Or.inl ⟨by rfl, ?_⟩) (by assumption) ?_
                    rotate_left 1
                    · (intro w' hSw; have hq := hSw.2.1.cell 1 (.int .i64 sz5) rfl; go_simp; try with_reducible rfl)
                    try simp only [Act.put, List.setIfInBounds_toArray, List.set_cons_zero, List.set_cons_succ]
                    refine wpAnyW_take (i := 18) (v := ?_) (by simp only [List.getElem?_toArray, List.getElem?_cons_succ, List.getElem?_cons_zero]; rfl) (by kernel_rfl) (by kernel_rfl) (by kernel_rfl) (by kernel_rfl) (by kernel_rfl) (fun _ _ _ h => h) (Or.inl ⟨by rfl, ?_⟩) (by assumption) ?_
                    rotate_left 1
                    · (intro w' hSw; go_simp; try with_reducible rfl)
                    try simp only [Act.put, List.setIfInBounds_toArray, List.set_cons_zero, List.set_cons_succ]
                    refine wpAnyW_take (i := 19) (v := ?_) (by simp only [List.getElem?_toArray, List.getElem?_cons_succ, List.getElem?_cons_zero]; rfl) (by kernel_rfl) (by kernel_rfl) (by kernel_rfl) (by kernel_rfl) (by kernel_rfl) (fun _ _ _ h => h) (Or.inl ⟨by rfl, ?_⟩) (by assumption) ?_
                    rotate_left 1
                    · (intro w' hSw; go_simp; try with_reducible rfl)
                    try simp only [Act.put, List.setIfInBounds_toArray, List.set_cons_zero, List.set_cons_succ]
                    clear hHeld
                    refine wpAnyW_done (by kernel_rfl) ?_ _
                    refine NoPanic.normal ?_
                    go_wp2_with fail
                    go_roundw
                    case rel => exact ⟨j + 1, by omega, by rw [HNX.out], by go_num, Lib.hid (below_drawn HW.out)⟩
                    case measure => simp [intOf]; omega
              · obtain rfl : j = t.length := by omega
                have r0 := (HR.out.later HW.out).cell 0 (.int .i64 b9) rfl
                have hbt := HBT.out t.length (Nat.le_refl _)
                obtain ⟨T, hT⟩ : ∃ T, btTo l t K t.length = T := ⟨_, rfl⟩
                have hle : l.length - K = t.length := by omega
                rw [hT] at hbt ⊢
                have hTU : T + b9 = U := by rw [← hT]; have h9 := HBA.out; first | exact h9.symm | (rw [hle] at h9; exact h9.symm)
                clear hT hle
                go_wp2_with fail
                go_ret
                exact ⟨rfl, HB.out.trans (HW.out.mono HB.out.size)⟩
    · have q100 : (100 : Int) < (gs.length : Int) := by omega
      clear hOK
      go_enter Try.func4, Try.ntmps4
      go_wp2_with (first
        | (go_at_call 7; (with_reducible refine (HSH.out _).mono ?_); rintro e w1 ⟨rfl, hb⟩; replace HA := Lib.hid (HA.out.later hb); replace HB := Lib.hid (HB.out.trans (hb.mono HB.out.size)); clear hb)
        | ((with_reducible refine gate9 ?_); refine ldB (ty := 27) (cs := #[.int .u32 (c.toNat : Int), .slice A l.length cap]) rfl rfl rfl HA.out Try.underlying27 rfl infoS ?_)
        | (go_at_call 17; (with_reducible refine (HAS.out _ (HV.out.below HB.out)).mono ?_); rintro e w2 ⟨A2, k2, rfl, hr, hb⟩; have HR2 := Lib.hid hr; replace HA := Lib.hid (HA.out.later hb); replace HB := Lib.hid (HB.out.trans (hb.mono HB.out.size)); clear hr hb)
        | (go_at_call 16; (with_reducible refine (HRI.out _ _ HR2.out).mono ?_); rintro e w3 ⟨rfl, hb⟩; replace HA := Lib.hid (HA.out.later hb); replace HB := Lib.hid (HB.out.trans (hb.mono HB.out.size)); clear hb))
      go_ret
      exact ⟨rfl, HB.out⟩
  · have HRI := Lib.hid (fun v W h => right_any c l hlen false ⟨fun e => (by cases e), fun e => absurd e hOK⟩ v W h)
    clear hOK
    go_enter Try.func4, Try.ntmps4
    go_wp2_with (first
      | (go_at_call 7; (with_reducible refine (HSH.out _).mono ?_); rintro e w1 ⟨rfl, hb⟩; replace HA := Lib.hid (HA.out.later hb); replace HB := Lib.hid (HB.out.trans (hb.mono HB.out.size)); clear hb)
      | ((with_reducible refine gate9 ?_); refine ldB (ty := 27) (cs := #[.int .u32 (c.toNat : Int), .slice A l.length cap]) rfl rfl rfl HA.out Try.underlying27 rfl infoS ?_)
      | (go_at_call 17; (with_reducible refine (HAS.out _ (HV.out.below HB.out)).mono ?_); rintro e w2 ⟨A2, k2, rfl, hr, hb⟩; have HR2 := Lib.hid hr; replace HA := Lib.hid (HA.out.later hb); replace HB := Lib.hid (HB.out.trans (hb.mono HB.out.size)); clear hr hb)
      | (go_at_call 16; (with_reducible refine (HRI.out _ _ HR2.out).mono ?_); rintro e w3 ⟨rfl, hb⟩; replace HA := Lib.hid (HA.out.later hb); replace HB := Lib.hid (HB.out.trans (hb.mono HB.out.size)); clear hb))
    go_ret
    exact ⟨rfl, HB.out⟩

set_option maxRecDepth 100000 in
theorem lifted (os : Os) (started : os.Started) (H : Type) (enc : TypeId × Value → H) :
    ReturnsInHanded {} Try.checked os 4 .any (Rows.sentBytesSpec.pre6 enc Try.prog Try.f4 Rows.sentBytesRow.domain false) (Rows.sentBytesSpec.post enc Try.prog Try.f4 false true false false) := by
  refine returnsInHanded_of_change_sized (C := Try.checked) own started (by kernel_rfl) Try.func4
    (ChangeSpec.witness6 (enc := enc) (C := Try.checked) false ⟨#[], #[.agg #[.int .u32 0, .slice none 0 0], .int .u32 0, .slice none 0 0, .int .i64 0], []⟩ 8 (by kernel_rfl) (by kernel_rfl) (by kernel_rfl) (by kernel_rfl)) ?_
  intro W base args ds gs before hval0 hW _ hreach _
  have hval : ∀ (j : Nat) t v, Try.f4.params[j]? = some t → args[j]? = some v → Value.okWide Try.prog W .any base t v := hval0
  obtain ⟨p, q, hA0, _, _, _, _⟩ := id hW
  have hA : DataW.TrodAll enc Try.prog W 0 (fun _ => true) true Try.f4.params.toList args.toList ds p := hA0
  rw [Try.params4] at hA hval
  obtain ⟨v0, vs0, d0, ds0, p0, q0, hargs, rfl, rfl, h0, r0⟩ := trodAll_cons hA
  obtain ⟨v1, vs1, d1, ds1, p1, q1, rfl, rfl, rfl, h1, r1⟩ := trodAll_cons r0
  obtain ⟨v2, vs2, d2, ds2, p2, q2, rfl, rfl, rfl, h2, r2⟩ := trodAll_cons r1
  obtain ⟨v3, vs3, d3, ds3, p3, q3, rfl, rfl, rfl, h3, r3⟩ := trodAll_cons r2
  obtain ⟨rfl, rfl, rfl⟩ := trodAll_nil r3
  obtain rfl : args = #[v0, v1, v2, v3] := by cases args; simp_all
  obtain ⟨c0, V0, l0, rfl, ro0, wf0, rb0⟩ := sent_in (hval 0 27 v0 rfl rfl) h0
  have sz0 := rb0 (fun n hn => by simpa using List.all_eq_true.1 hreach n (DataW.weights_mem_each (j := 0) (t := 27) (by kernel_rfl) rfl n hn))
  obtain ⟨a1, rfl, rfl, rfl, w1⟩ := open_int Try.underlying22 (hval 1 22 v1 rfl rfl) h1
  have b1 := bounds_u32 w1
  obtain ⟨n1, rfl⟩ := u32_num (n := a1) (by omega) (by omega)
  obtain ⟨l2, w2, m2⟩ := gaps_in (hval 2 35 v2 rfl rfl) h2
  obtain ⟨a3, rfl, rfl, rfl, w3⟩ := open_int Try.underlying3 (hval 3 3 v3 rfl rfl) h3
  refine (walk c0 l0 V0 n1 l2 v2 a3 sz0 m2 W ro0 w2).mono fun e W' ⟨he, hg⟩ => ?_
  subst he
  exact ⟨_, rfl, law_post laidOut Try.underlying4 (by kernel_rfl) (by kernel_rfl) rfl hW (by simp [Rows.sentBytesSpec]) hg⟩

theorem proved : Rows.SentBytesSaid :=
  OpenClaim.holds_of_wide 4 Try.f4 rfl rfl rfl rfl rfl rfl rfl ⟨rfl, rfl, rfl, rfl, rfl⟩ rfl rfl rfl rfl rfl (by kernel_rfl) Try.func4 (by kernel_rfl)
    (of_decide_eq_true (by kernel_rfl)) (by unfold Func.isWrapper; first | (rw [if_pos (by decide +kernel)]; kernel_rfl) | (rw [if_neg (by decide +kernel)]; exact ⟨rfl, rfl⟩))
    (fun os started H enc _ => lifted os started H enc)
#print axioms proved
end Go.Proofs.Ytghgbfdofbnegaa.sentBytes
