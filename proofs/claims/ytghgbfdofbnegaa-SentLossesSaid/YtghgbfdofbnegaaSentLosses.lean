/-
  What is given up is lost, and under way no more; sent again, one by one, it is as much under way as it was, on the new path: any right pieces, any two paths, any time.
-/
import Derived.Test.YtghgbfdofbnegaaLift
import Derived.Test.YtghgbfdofbnegaaArgs
import Derived.Test.YtghgbfdofbnegaaSy
namespace Go.Proofs.Ytghgbfdofbnegaa.sentLosses
open Go.ChangeShapes Go.WideShapes Go.ChangeAt Go.RowKit
set_option linter.unusedVariables false
set_option linter.unusedSimpArgs false
set_option maxRecDepth 100000

/-- Where the law's loop stands. -/
def LoS (w3 : World) (c : UInt32) (l : List Pc) (p q : Int) (g13 j : Nat) (wr : World) : Prop := ∃ s A k, AgI c l p q j s ∧ Bx wr g13 27 #[.int .u32 (c.toNat : Int), .slice A l.length k] ∧ RowP wr (.slice A l.length k) s ∧ Below w3.heap.size w3 wr ∧ g13 < wr.heap.size
set_option maxHeartbeats 8000000 in
theorem walk (c : UInt32) (l : List Pc) (V : Value) (path to now : Int) (hlen : l.length * 56 ≤ 140737488351232) (w : World) (h : RowP w V l) : Calls Try.prog 5 #[.agg #[.int .u32 (c.toNat : Int), V], .int .i64 path, .int .i64 to, .int .i64 now] w fun e w' => e = .returned (.bool true) ∧ Below w.heap.size w w' := by
  obtain ⟨W, hW, HA, HB, hs⟩ := one_open w 27 #[.int .u32 (c.toNat : Int), V]
  have HSH := Lib.hid shown_any
  have HAS := Lib.hid (fun W h => as_any c l hlen V W h)
  have HV := Lib.hid h
  obtain ⟨A, cap, rfl, hcap, hmx, _⟩ := id h
  have hmx' : (cap : Int) ≤ 9223372036854775807 := by unfold maxLen at hmx; omega
  clear h hs
  by_cases hOK : OkL c l
  · have HRI := Lib.hid (fun v W h => right_any c l hlen true ⟨fun _ => hOK, fun _ => rfl⟩ v W h)
    by_cases hto : to < 0
    · clear hOK
      go_enter Try.func5, Try.ntmps5
      go_wp2_with (first
        | (go_at_call 7; (with_reducible refine (HSH.out _).mono ?_); rintro e w1 ⟨rfl, hb⟩; replace HA := Lib.hid (HA.out.later hb); replace HB := Lib.hid (HB.out.trans (hb.mono HB.out.size)); clear hb)
        | ((with_reducible refine gate9 ?_); refine ldB (ty := 27) (cs := #[.int .u32 (c.toNat : Int), .slice A l.length cap]) rfl rfl rfl HA.out Try.underlying27 rfl infoS ?_)
        | (go_at_call 17; (with_reducible refine (HAS.out _ (HV.out.below HB.out)).mono ?_); rintro e w2 ⟨A2, k2, rfl, hr, hb⟩; have HR2 := Lib.hid hr; replace HA := Lib.hid (HA.out.later hb); replace HB := Lib.hid (HB.out.trans (hb.mono HB.out.size)); clear hr hb)
        | (go_at_call 16; (with_reducible refine (HRI.out _ _ HR2.out).mono ?_); rintro e w3 ⟨rfl, hb⟩; replace HA := Lib.hid (HA.out.later hb); replace HB := Lib.hid (HB.out.trans (hb.mono HB.out.size)); clear hb))
      go_ret
      exact ⟨rfl, HB.out⟩
    · have HOK := Lib.hid hOK
      have hl64 := hOK.len
      have hto0 : 0 ≤ to := by omega
      have HU0 := Lib.hid (fun V W h => under_any c l path (by omega) hOK.ok V W h)
      have HL0 := Lib.hid (fun V W h => losses_any c l (by omega) V W h)
      have HDR := Lib.hid (fun V W h => drop_any c l path (by omega) V W h)
      have hOKt := okL_drop hOK path
      have hlt : (dropL path l).length = l.length := by unfold dropL; rw [List.length_map]
      have HU1 := Lib.hid (fun V W h => under_any c (dropL path l) path (by omega) hOKt.ok V W h)
      have HU2 := Lib.hid (fun V W h => under_any c (dropL path l) (-1) (by omega) hOKt.ok V W h)
      have HU4 := Lib.hid (fun V W h => under_any c (dropL path l) to (by omega) hOKt.ok V W h)
      have HU3 := Lib.hid (fun V W h => under_any c l (-1) (by omega) hOK.ok V W h)
      have HL1 := Lib.hid (fun V W h => losses_any c (dropL path l) (by omega) V W h)
      have HNX := Lib.hid (fun A k W => next_any c A l.length k (by omega) W)
      have HAI0 := Lib.hid (AgI.start hOK path to)
      have HST := Lib.hid (fun i s (h : AgI c l path to i s) (hi : i < (l.filter (outB path)).length) => AgI.step hOK hto0 h hi now)
      have HDA := Lib.hid (fun i (h : i < (dropN path l).length) => dropN_at path l h)
      have HDN := Lib.hid (fun s (h : AgI c l path to (dropN path l).length s) => AgI.done h)
      have HAGX := Lib.hid (fun s (hs : s.length = l.length) tn V W h => again_any c s tn to now (by omega) V W h)
      have HUX := Lib.hid (fun s (hs : OkL c s) p V W h => under_any c s p (by have := hs.len; omega) hs.ok V W h)
      have HLX := Lib.hid (fun s (hs : OkL c s) V W h => losses_any c s (by have := hs.len; omega) V W h)
      have e1 := drop_zero path l
      have e2 := drop_all path l
      have e3 : (lossL (dropL path l)).length = (lossL l).length + (dropN path l).length := by rw [loss_cnt, loss_cnt]; exact drop_loss path l
      have b0 := under_fit hOK path
      have b1 := under_fit hOK (-1)
      have b2 := under_fit hOKt to
      have b2' := under_fit hOKt (-1)
      have hnl : (lossL l).length ≤ l.length := by unfold lossL; rw [List.length_map]; exact List.length_filter_le _ _
      have hnd : (dropN path l).length ≤ l.length := by unfold dropN; rw [List.length_map]; exact List.length_filter_le _ _
      rw [e1] at HU1
      rw [e2] at HU2 b2'
      have hq0 : ¬ to < 0 := hto
      obtain ⟨u0, hu0⟩ : ∃ u, underL path l = u := ⟨_, rfl⟩
      obtain ⟨ua, hua⟩ : ∃ u, underL (-1) l = u := ⟨_, rfl⟩
      obtain ⟨ut, hut⟩ : ∃ u, underL to (dropL path l) = u := ⟨_, rfl⟩
      obtain ⟨n0, hn0⟩ : ∃ u, (lossL l).length = u := ⟨_, rfl⟩
      obtain ⟨nd, hnd0⟩ : ∃ u, (dropN path l).length = u := ⟨_, rfl⟩
      obtain ⟨nt, hnt⟩ : ∃ u, (lossL (dropL path l)).length = u := ⟨_, rfl⟩
      rw [hu0] at HU0 HU2 HDN b0 b2'
      rw [hua] at HU2 HU3 HDN b1 b2'
      rw [hut] at HU4 HDN b2
      rw [hn0] at HL0 HDN e3 hnl
      rw [hnd0] at HDR HDN HDA e3 hnd
      rw [hnt] at HL1 e3
      obtain ⟨x1, hx1⟩ : ∃ x, ua - u0 = x := ⟨_, rfl⟩
      rw [hx1] at HU2 b2'
      have s20 : IntKind.i64.wrap (ua - u0) = x1 := by rw [IntKind.wrap_i64]; omega
      have s11 : IntKind.i64.wrap ((n0 : Int) + (nd : Int)) = (nt : Int) := by rw [IntKind.wrap_i64]; omega
      have hndI : (nd : Int) ≤ 64 := by omega
      have hlI : (l.length : Int) ≤ 64 := by omega
      obtain ⟨x5, hx5⟩ : ∃ x, ut + u0 = x := ⟨_, rfl⟩
      have s5 : IntKind.i64.wrap (ut + u0) = x5 := by rw [IntKind.wrap_i64]; omega
      have HX5E := Lib.hid hx5
      have HDL := Lib.hid hnd0
      clear hOK hOKt hto e1 e2 hu0 hua hut hn0 hnd0 hnt hx1 hx5
      go_enter Try.func5, Try.ntmps5
      go_wp2_with (first
        | (go_at_call 7; (with_reducible refine (HSH.out _).mono ?_); rintro e w1 ⟨rfl, hb⟩; replace HA := Lib.hid (HA.out.later hb); replace HB := Lib.hid (HB.out.trans (hb.mono HB.out.size)); clear hb)
        | ((with_reducible refine gate9 ?_); refine ldB (ty := 27) (cs := #[.int .u32 (c.toNat : Int), .slice A l.length cap]) rfl rfl rfl HA.out Try.underlying27 rfl infoS ?_)
        | (go_at_call 17; (with_reducible refine (HAS.out _ (HV.out.below HB.out)).mono ?_); rintro e w2 ⟨A2, k2, rfl, hr, hb⟩; have HR2 := Lib.hid hr; replace HA := Lib.hid (HA.out.later hb); replace HB := Lib.hid (HB.out.trans (hb.mono HB.out.size)); clear hr hb)
        | (go_at_call 16; (with_reducible refine (HRI.out _ _ HR2.out).mono ?_); rintro e w3 ⟨rfl, hb⟩; replace HA := Lib.hid (HA.out.later hb); replace HB := Lib.hid (HB.out.trans (hb.mono HB.out.size)); clear hb))
      refine (HU0.out _ _ (HV.out.below HB.out)).mono ?_
      rintro e w1 ⟨rfl, hb⟩
      replace HA := Lib.hid (HA.out.later hb)
      replace HB := Lib.hid (HB.out.trans (hb.mono HB.out.size))
      clear hb HU0
      go_wp2_with (first
        | ((with_reducible refine gate9 ?_); refine ldB (ty := 27) (cs := #[.int .u32 (c.toNat : Int), .slice A l.length cap]) rfl rfl rfl HA.out Try.underlying27 rfl infoS ?_))
      refine (HL0.out _ _ (HV.out.below HB.out)).mono ?_
      rintro e w2 ⟨A9, k9, rfl, -, hb⟩
      replace HA := Lib.hid (HA.out.later hb)
      replace HB := Lib.hid (HB.out.trans (hb.mono HB.out.size))
      clear hb HL0
      go_wp2_with (first
        | ((with_reducible refine gate9 ?_); refine ldB (ty := 27) (cs := #[.int .u32 (c.toNat : Int), .slice A l.length cap]) rfl rfl rfl HA.out Try.underlying27 rfl infoS ?_))
      refine (HDR.out _ _ (HV.out.below HB.out)).mono ?_
      rintro e w3 ⟨At, kt, Ad, kd, rfl, hrt, -, hrd, -, hb⟩
      replace HA := Lib.hid (HA.out.later hb)
      replace HB := Lib.hid (HB.out.trans (hb.mono HB.out.size))
      have HT := Lib.hid hrt
      have HD := Lib.hid hrd
      have HA3 := HA
      have HB3 := HB
      clear hb HDR hrt hrd
      obtain ⟨W4, hW4, HX, HB4, hs4⟩ := one_open w3 27 #[.int .u32 0, .slice none 0 0]
      obtain ⟨g13, hg13⟩ : ∃ g, w3.heap.size = g := ⟨_, rfl⟩
      rw [hg13] at HX
      go_wp2_with (first
        | ((with_reducible refine gate9 ?_); refine stB (ty := 27) #[.int .u32 (c.toNat : Int), .slice At l.length kt] rfl rfl rfl rfl HX.out infoS rfl (cellsS_one _ _ _ _) ?_; intro w5 ht hg; replace HB4 := Lib.hid (below_of_grown1 HB4.out hg HB4.out.size (Nat.le_of_eq hg13)); replace HX := Lib.hid ht; replace HA := Lib.hid (HA.out.later HB4.out); replace HT := Lib.hid (HT.out.below HB4.out); replace HB := Lib.hid (HB.out.trans (HB4.out.mono HB.out.size)); clear ht hg))
      clear hW4 hs4 hW
      have hw5 := HX.out.lt
      have HVW : Hid (∀ V, Below w5.heap.size w5 V → RowP V (.slice A l.length cap) l) := Lib.hid (fun V hV => HV.out.below (HB.out.trans (hV.mono HB.out.size)))
      skip
      have HS : (fun V => Bx V g13 27 #[.int .u32 (c.toNat : Int), .slice At l.length kt] ∧ Bx V w.heap.size 27 #[.int .u32 (c.toNat : Int), .slice A l.length cap] ∧ Below w5.heap.size w5 V) _ := ⟨HX.out.drew, HA.out.drew, below_drawn (Below.refl _ _)⟩
      refine wp_region_noPanic ?_
      refine wp_region_waits (S := (fun V => Bx V g13 27 #[.int .u32 (c.toNat : Int), .slice At l.length kt] ∧ Bx V w.heap.size 27 #[.int .u32 (c.toNat : Int), .slice A l.length cap] ∧ Below w5.heap.size w5 V)) [] (by kernel_rfl) HS (fun hHeld => ?_)
      clear HS
      refine wpAnyW_take (i := 0) (v := _) (by simp only [List.getElem?_toArray, List.getElem?_cons_zero]; rfl) (by kernel_rfl) (by kernel_rfl) (by kernel_rfl) (by kernel_rfl) (by kernel_rfl) (fun _ _ _ h => h) (yB (ty := 27) (by rfl) rfl rfl (fun V h => h.1) Try.underlying27 rfl infoS) (by assumption) ?_
      try simp only [Act.put, List.setIfInBounds_toArray, List.set_cons_zero, List.set_cons_succ]
      refine wpAnyW_take (i := 1) (v := ?_) (by simp only [List.getElem?_toArray, List.getElem?_cons_succ, List.getElem?_cons_zero]; rfl) (by kernel_rfl) (by kernel_rfl) (by kernel_rfl) (by kernel_rfl) (by kernel_rfl) (fun _ _ _ h => h) (Or.inl ⟨by rfl, ?_⟩) (by assumption) ?_
      rotate_left 1
      · (intro w' hSw; go_simp; try with_reducible rfl)
      try simp only [Act.put, List.setIfInBounds_toArray, List.set_cons_zero, List.set_cons_succ]
      refine wpAnyW_held (i := 2) (by kernel_rfl) (by simp only [List.getElem?_toArray, List.getElem?_cons_succ, List.getElem?_cons_zero]; rfl) (fun K hK => ?_)
      rw [if_pos (by rfl)]
      go_simp
      refine (HU1.out _ _ (HT.out.below hHeld.2.2)).mono ?_
      rintro _ w9 ⟨rfl, hb⟩
      have HS : (fun V => Bx V g13 27 #[.int .u32 (c.toNat : Int), .slice At l.length kt] ∧ Bx V w.heap.size 27 #[.int .u32 (c.toNat : Int), .slice A l.length cap] ∧ Below w5.heap.size w5 V) _ := ⟨hHeld.1.later hb, hHeld.2.1.later hb, hHeld.2.2.trans (hb.mono hHeld.2.2.size)⟩
      clear hHeld hb
      go_wp2_with fail
      refine hK.out _ _ HS (fun hHeld => ?_)
      clear hK K HS
      try simp only [Act.put, List.setIfInBounds_toArray, List.set_cons_zero, List.set_cons_succ]
      refine wpAnyW_take (i := 3) (v := ?_) (by simp only [List.getElem?_toArray, List.getElem?_cons_succ, List.getElem?_cons_zero]; rfl) (by kernel_rfl) (by kernel_rfl) (by kernel_rfl) (by kernel_rfl) (by kernel_rfl) (fun _ _ _ h => h) (Or.inl ⟨by rfl, ?_⟩) (by assumption) ?_
      rotate_left 1
      · (intro w' hSw; go_simp; try with_reducible rfl)
      try simp only [Act.put, List.setIfInBounds_toArray, List.set_cons_zero, List.set_cons_succ]
      refine wpAnyW_take (i := 4) (v := ?_) (by simp only [List.getElem?_toArray, List.getElem?_cons_succ, List.getElem?_cons_zero]; rfl) (by kernel_rfl) (by kernel_rfl) (by kernel_rfl) (by kernel_rfl) (by kernel_rfl) (fun _ _ _ h => h) (Or.inl ⟨by rfl, ?_⟩) (by assumption) ?_
      rotate_left 1
      · (intro w' hSw; go_simp; try with_reducible rfl)
      try simp only [Act.put, List.setIfInBounds_toArray, List.set_cons_zero, List.set_cons_succ]
      refine wpAnyW_take (i := 5) (v := _) (by simp only [List.getElem?_toArray, List.getElem?_cons_succ, List.getElem?_cons_zero]; rfl) (by kernel_rfl) (by kernel_rfl) (by kernel_rfl) (by kernel_rfl) (by kernel_rfl) (fun _ _ _ h => h) (yB (ty := 27) (by rfl) rfl rfl (fun V h => h.1) Try.underlying27 rfl infoS) (by assumption) ?_
      try simp only [Act.put, List.setIfInBounds_toArray, List.set_cons_zero, List.set_cons_succ]
      refine wpAnyW_take (i := 8) (v := ?_) (by simp only [List.getElem?_toArray, List.getElem?_cons_succ, List.getElem?_cons_zero]; rfl) (by kernel_rfl) (by kernel_rfl) (by kernel_rfl) (by kernel_rfl) (by kernel_rfl) (fun _ _ _ h => h) (Or.inl ⟨by rfl, ?_⟩) (by assumption) ?_
      rotate_left 1
      · (intro w' hSw; go_simp; try with_reducible rfl)
      try simp only [Act.put, List.setIfInBounds_toArray, List.set_cons_zero, List.set_cons_succ]
      refine wpAnyW_take (i := 9) (v := ?_) (by simp only [List.getElem?_toArray, List.getElem?_cons_succ, List.getElem?_cons_zero]; rfl) (by kernel_rfl) (by kernel_rfl) (by kernel_rfl) (by kernel_rfl) (by kernel_rfl) (fun _ _ _ h => h) (Or.inl ⟨by rfl, ?_⟩) (by assumption) ?_
      rotate_left 1
      · (intro w' hSw; go_simp; try with_reducible rfl)
      try simp only [Act.put, List.setIfInBounds_toArray, List.set_cons_zero, List.set_cons_succ]
      refine wpAnyW_take (i := 10) (v := ?_) (by simp only [List.getElem?_toArray, List.getElem?_cons_succ, List.getElem?_cons_zero]; rfl) (by kernel_rfl) (by kernel_rfl) (by kernel_rfl) (by kernel_rfl) (by kernel_rfl) (fun _ _ _ h => h) (Or.inl ⟨by rfl, ?_⟩) (by assumption) ?_
      rotate_left 1
      · (intro w' hSw; go_simp; try with_reducible rfl)
      try simp only [Act.put, List.setIfInBounds_toArray, List.set_cons_zero, List.set_cons_succ]
      refine wpAnyW_take (i := 11) (v := ?_) (by simp only [List.getElem?_toArray, List.getElem?_cons_succ, List.getElem?_cons_zero]; rfl) (by kernel_rfl) (by kernel_rfl) (by kernel_rfl) (by kernel_rfl) (by kernel_rfl) (fun _ _ _ h => h) (Or.inl ⟨by rfl, ?_⟩) (by assumption) ?_
      rotate_left 1
      · (intro w' hSw; go_simp; try with_reducible rfl)
      try simp only [Act.put, List.setIfInBounds_toArray, List.set_cons_zero, List.set_cons_succ]
      refine wpAnyW_held (i := 6) (by kernel_rfl) (by simp only [List.getElem?_toArray, List.getElem?_cons_succ, List.getElem?_cons_zero]; rfl) (fun K hK => ?_)
      rw [if_pos (by rfl)]
      go_simp
      refine (HL1.out _ _ (HT.out.below hHeld.2.2)).mono ?_
      rintro _ w9 ⟨A9, k9, rfl, -, hb⟩
      have HS : (fun V => Bx V g13 27 #[.int .u32 (c.toNat : Int), .slice At l.length kt] ∧ Bx V w.heap.size 27 #[.int .u32 (c.toNat : Int), .slice A l.length cap] ∧ Below w5.heap.size w5 V) _ := ⟨hHeld.1.later hb, hHeld.2.1.later hb, hHeld.2.2.trans (hb.mono hHeld.2.2.size)⟩
      clear hHeld hb
      go_wp2_with fail
      refine hK.out _ _ HS (fun hHeld => ?_)
      clear hK K HS
      try simp only [Act.put, List.setIfInBounds_toArray, List.set_cons_zero, List.set_cons_succ]
      refine wpAnyW_take (i := 7) (v := ?_) (by simp only [List.getElem?_toArray, List.getElem?_cons_succ, List.getElem?_cons_zero]; rfl) (by kernel_rfl) (by kernel_rfl) (by kernel_rfl) (by kernel_rfl) (by kernel_rfl) (fun _ _ _ h => h) (Or.inl ⟨by rfl, ?_⟩) (by assumption) ?_
      rotate_left 1
      · (intro w' hSw; go_simp; try with_reducible rfl)
      try simp only [Act.put, List.setIfInBounds_toArray, List.set_cons_zero, List.set_cons_succ]
      refine wpAnyW_take (i := 12) (v := ?_) (by simp only [List.getElem?_toArray, List.getElem?_cons_succ, List.getElem?_cons_zero]; rfl) (by kernel_rfl) (by kernel_rfl) (by kernel_rfl) (by kernel_rfl) (by kernel_rfl) (fun _ _ _ h => h) (Or.inl ⟨by rfl, ?_⟩) (by assumption) ?_
      rotate_left 1
      · (intro w' hSw; go_simp; try with_reducible rfl)
      try simp only [Act.put, List.setIfInBounds_toArray, List.set_cons_zero, List.set_cons_succ]
      refine wpAnyW_take (i := 13) (v := ?_) (by simp only [List.getElem?_toArray, List.getElem?_cons_succ, List.getElem?_cons_zero]; rfl) (by kernel_rfl) (by kernel_rfl) (by kernel_rfl) (by kernel_rfl) (by kernel_rfl) (fun _ _ _ h => h) (Or.inl ⟨by rfl, ?_⟩) (by assumption) ?_
      rotate_left 1
      · (intro w' hSw; go_simp; try with_reducible rfl)
      try simp only [Act.put, List.setIfInBounds_toArray, List.set_cons_zero, List.set_cons_succ]
      refine wpAnyW_take (i := 14) (v := ?_) (by simp only [List.getElem?_toArray, List.getElem?_cons_succ, List.getElem?_cons_zero]; rfl) (by kernel_rfl) (by kernel_rfl) (by kernel_rfl) (by kernel_rfl) (by kernel_rfl) (fun _ _ _ h => h) (Or.inl ⟨by rfl, ?_⟩) (by assumption) ?_
      rotate_left 1
      · (intro w' hSw; go_simp; try with_reducible rfl)
      try simp only [Act.put, List.setIfInBounds_toArray, List.set_cons_zero, List.set_cons_succ]
      refine wpAnyW_take (i := 15) (v := _) (by simp only [List.getElem?_toArray, List.getElem?_cons_succ, List.getElem?_cons_zero]; rfl) (by kernel_rfl) (by kernel_rfl) (by kernel_rfl) (by kernel_rfl) (by kernel_rfl) (fun _ _ _ h => h) (yB (ty := 27) (by rfl) rfl rfl (fun V h => h.1) Try.underlying27 rfl infoS) (by assumption) ?_
      try simp only [Act.put, List.setIfInBounds_toArray, List.set_cons_zero, List.set_cons_succ]
      refine wpAnyW_take (i := 17) (v := _) (by simp only [List.getElem?_toArray, List.getElem?_cons_succ, List.getElem?_cons_zero]; rfl) (by kernel_rfl) (by kernel_rfl) (by kernel_rfl) (by kernel_rfl) (by kernel_rfl) (fun _ _ _ h => h) (yB (ty := 27) (by rfl) rfl rfl (fun V h => h.2.1) Try.underlying27 rfl infoS) (by assumption) ?_
      try simp only [Act.put, List.setIfInBounds_toArray, List.set_cons_zero, List.set_cons_succ]
      refine wpAnyW_take (i := 19) (v := ?_) (by simp only [List.getElem?_toArray, List.getElem?_cons_succ, List.getElem?_cons_zero]; rfl) (by kernel_rfl) (by kernel_rfl) (by kernel_rfl) (by kernel_rfl) (by kernel_rfl) (fun _ _ _ h => h) (Or.inl ⟨by rfl, ?_⟩) (by assumption) ?_
      rotate_left 1
      · (intro w' hSw; go_simp; try with_reducible rfl)
      try simp only [Act.put, List.setIfInBounds_toArray, List.set_cons_zero, List.set_cons_succ]
      refine wpAnyW_held (i := 16) (by kernel_rfl) (by simp only [List.getElem?_toArray, List.getElem?_cons_succ, List.getElem?_cons_zero]; rfl) (fun K hK => ?_)
      rw [if_pos (by rfl)]
      go_simp
      refine (HU2.out _ _ (HT.out.below hHeld.2.2)).mono ?_
      rintro _ w9 ⟨rfl, hb⟩
      have HS : (fun V => Bx V g13 27 #[.int .u32 (c.toNat : Int), .slice At l.length kt] ∧ Bx V w.heap.size 27 #[.int .u32 (c.toNat : Int), .slice A l.length cap] ∧ Below w5.heap.size w5 V) _ := ⟨hHeld.1.later hb, hHeld.2.1.later hb, hHeld.2.2.trans (hb.mono hHeld.2.2.size)⟩
      clear hHeld hb
      go_wp2_with fail
      refine hK.out _ _ HS (fun hHeld => ?_)
      clear hK K HS
      try simp only [Act.put, List.setIfInBounds_toArray, List.set_cons_zero, List.set_cons_succ]
      refine wpAnyW_held (i := 18) (by kernel_rfl) (by simp only [List.getElem?_toArray, List.getElem?_cons_succ, List.getElem?_cons_zero]; rfl) (fun K hK => ?_)
      rw [if_pos (by rfl)]
      go_simp
      refine (HU3.out _ _ (HVW.out _ hHeld.2.2)).mono ?_
      rintro _ w9 ⟨rfl, hb⟩
      have HS : (fun V => Bx V g13 27 #[.int .u32 (c.toNat : Int), .slice At l.length kt] ∧ Bx V w.heap.size 27 #[.int .u32 (c.toNat : Int), .slice A l.length cap] ∧ Below w5.heap.size w5 V) _ := ⟨hHeld.1.later hb, hHeld.2.1.later hb, hHeld.2.2.trans (hb.mono hHeld.2.2.size)⟩
      clear hHeld hb
      go_wp2_with fail
      refine hK.out _ _ HS (fun hHeld => ?_)
      clear hK K HS
      try simp only [Act.put, List.setIfInBounds_toArray, List.set_cons_zero, List.set_cons_succ]
      refine wpAnyW_take (i := 20) (v := ?_) (by simp only [List.getElem?_toArray, List.getElem?_cons_succ, List.getElem?_cons_zero]; rfl) (by kernel_rfl) (by kernel_rfl) (by kernel_rfl) (by kernel_rfl) (by kernel_rfl) (fun _ _ _ h => h) (Or.inl ⟨by rfl, ?_⟩) (by assumption) ?_
      rotate_left 1
      · (intro w' hSw; go_simp; try with_reducible rfl)
      try simp only [Act.put, List.setIfInBounds_toArray, List.set_cons_zero, List.set_cons_succ]
      refine wpAnyW_take (i := 21) (v := ?_) (by simp only [List.getElem?_toArray, List.getElem?_cons_succ, List.getElem?_cons_zero]; rfl) (by kernel_rfl) (by kernel_rfl) (by kernel_rfl) (by kernel_rfl) (by kernel_rfl) (fun _ _ _ h => h) (Or.inl ⟨by rfl, ?_⟩) (by assumption) ?_
      rotate_left 1
      · (intro w' hSw; go_simp; try with_reducible rfl)
      try simp only [Act.put, List.setIfInBounds_toArray, List.set_cons_zero, List.set_cons_succ]
      refine wpAnyW_take (i := 22) (v := ?_) (by simp only [List.getElem?_toArray, List.getElem?_cons_succ, List.getElem?_cons_zero]; rfl) (by kernel_rfl) (by kernel_rfl) (by kernel_rfl) (by kernel_rfl) (by kernel_rfl) (fun _ _ _ h => h) (Or.inl ⟨by rfl, ?_⟩) (by assumption) ?_
      rotate_left 1
      · (intro w' hSw; go_simp; try with_reducible rfl)
      try simp only [Act.put, List.setIfInBounds_toArray, List.set_cons_zero, List.set_cons_succ]
      have HQ := Lib.hid hHeld.1
      replace HA := Lib.hid hHeld.2.1
      have HB8 := Lib.hid hHeld.2.2
      clear hHeld
      refine wpAnyW_done (by kernel_rfl) ?_ _
      refine NoPanic.normal ?_
      go_wp2_with (first
        | ((with_reducible refine gate9 ?_); refine ldB (ty := 27) rfl rfl rfl HQ.out Try.underlying27 rfl infoS ?_))
      refine (HU4.out _ _ (HT.out.below HB8.out)).mono ?_
      rintro e w10 ⟨rfl, hb⟩
      have HLS : Hid (LoS w3 c l path to g13 0 w10) := Lib.hid ⟨_, At, kt, HAI0.out, HQ.out.later hb, (HT.out.below HB8.out).below hb, HB4.out.trans ((HB8.out.trans (hb.mono HB8.out.size)).mono HB4.out.size), Nat.lt_of_lt_of_le hw5 (HB8.out.trans (hb.mono HB8.out.size)).size⟩
      clear hb HQ HA HB8 HX HT HU4 HU1 HU2 HL1 HVW HB4 HB
      go_wp2_with fail
      go_loopw [16] (fun i wr => ∃ j : Nat, j ≤ nd ∧ i = .int .i64 j ∧ Hid (LoS w3 c l path to g13 j wr))
        (fun i _ => nd - (intOf i).toNat)
      case atStart => exact ⟨0, Nat.zero_le _, rfl, HLS⟩
      case round =>
        clear HLS
        obtain ⟨j, hj, rfl, HLO⟩ := hrel
        obtain ⟨s, Aq, kq, hai, hbx, hrow, hbl, hgs⟩ := HLO.out
        have HQ := Lib.hid hbx
        have HRS := Lib.hid hrow
        have HBwr := Lib.hid hbl
        have HAI := Lib.hid hai
        have hsl := hai.len
        clear hbx hrow hbl hai HLO
        by_cases hjn : j < nd
        · obtain ⟨hj9, hts⟩ := HDA.out j hjn
          obtain ⟨s', ha1, hag, ha2⟩ := HST.out j s HAI.out hj9
          rw [← hts] at ha1 ha2
          have hsl' := hag.len
          have HAG1 := Lib.hid (fun V W h => HAGX.out s hsl (dropN path l)[j]! V W h)
          have HAG2 := Lib.hid (fun V W h => HAGX.out s' hsl' (dropN path l)[j]! V W h)
          rw [ha1, hsl] at HAG1
          rw [ha2, hsl'] at HAG2
          dsimp only at HAG1 HAG2
          have HAI2 := Lib.hid hag
          have HDL2 := HDL.out
          obtain ⟨Ad2, kd2, hvd, -, -, hcd⟩ := id HD.out
          obtain ⟨b, off, hAd, hb, hcc⟩ := hcd (by omega)
          rw [HDL2] at hvd
          cases hvd
          subst hAd
          obtain ⟨tn, htn⟩ : ∃ x, (dropN path l)[j]! = x := ⟨_, rfl⟩
          have hc9 := hcc j (by omega)
          rw [htn] at HAG1 HAG2 hc9
          have HCE : Hid (∀ V, Below w3.heap.size w3 V → V.cell? ⟨b, off + j, none⟩ = some (.int .u32 (tn.toNat : Int))) := Lib.hid (fun V hV => (hV.cell (p := ⟨b, off + j, none⟩) hb).trans hc9)
          have p0 : (0 : Int) ≤ (j : Int) := by omega
          have p1 : (j : Int) < (nd : Int) := by omega
          clear hag ha1 ha2 hts hcd hcc hc9 htn hsl hsl' HDL2
          go_wp2_with fail
          have HS : (fun V => Below wr.heap.size wr V) _ := below_drawn (Below.refl _ _)
          refine wp_region_noPanic ?_
          refine wp_region_waits (S := (fun V => Below wr.heap.size wr V)) [13] (by kernel_rfl) HS (fun hHeld => ?_)
          clear HS
          refine wpAnyW_take (i := 0) (v := _) (by simp only [List.getElem?_toArray, List.getElem?_cons_zero]; rfl) (by kernel_rfl) (by kernel_rfl) (by kernel_rfl) (by kernel_rfl) (by kernel_rfl) (fun _ _ _ h => h) (yB (ty := 27) (by rfl) rfl rfl (fun V h => HQ.out.later h) Try.underlying27 rfl infoS) (by assumption) ?_
          try simp only [Act.put, List.setIfInBounds_toArray, List.set_cons_zero, List.set_cons_succ]
          refine wpAnyW_take (i := 1) (v := ?_) (by simp only [List.getElem?_toArray, List.getElem?_cons_succ, List.getElem?_cons_zero]; rfl) (by kernel_rfl) (by kernel_rfl) (by kernel_rfl) (by kernel_rfl) (by kernel_rfl) (fun _ _ _ h => h) (Or.inl ⟨by rfl, ?_⟩) (by assumption) ?_
          rotate_left 1
          · (intro w' hSw; go_simp; try with_reducible rfl)
          try simp only [Act.put, List.setIfInBounds_toArray, List.set_cons_zero, List.set_cons_succ]
          refine wpAnyW_take (i := 2) (v := ?_) (by simp only [List.getElem?_toArray, List.getElem?_cons_succ, List.getElem?_cons_zero]; rfl) (by kernel_rfl) (by kernel_rfl) (by kernel_rfl) (by kernel_rfl) (by kernel_rfl) (fun _ _ _ h => h) (Or.inl ⟨by rfl, ?_⟩) (by assumption) ?_
          rotate_left 1
          · (intro w' hSw; go_simp; try with_reducible rfl)
          try simp only [Act.put, List.setIfInBounds_toArray, List.set_cons_zero, List.set_cons_succ]
          refine wpAnyW_take (i := 3) (v := ?_) (by simp only [List.getElem?_toArray, List.getElem?_cons_succ, List.getElem?_cons_zero]; rfl) (by kernel_rfl) (by kernel_rfl) (by kernel_rfl) (by kernel_rfl) (by kernel_rfl) (fun _ _ _ h => h) (Or.inl ⟨by rfl, ?_⟩) (by assumption) ?_
          rotate_left 1
          · (intro w' hSw; go_simp; try with_reducible rfl)
          try simp only [Act.put, List.setIfInBounds_toArray, List.set_cons_zero, List.set_cons_succ]
          refine wpAnyW_take (i := 4) (v := ?_) (by simp only [List.getElem?_toArray, List.getElem?_cons_succ, List.getElem?_cons_zero]; rfl) (by kernel_rfl) (by kernel_rfl) (by kernel_rfl) (by kernel_rfl) (by kernel_rfl) (fun _ _ _ h => h) (Or.inl ⟨by rfl, ?_⟩) (by assumption) ?_
          rotate_left 1
          · (intro w' hSw; have hq : w'.cell? ⟨b, off + j, none⟩ = some (.int .u32 (tn.toNat : Int)) := HCE.out _ (HBwr.out.trans (hSw.mono HBwr.out.size)); go_simp; try with_reducible rfl)
          try simp only [Act.put, List.setIfInBounds_toArray, List.set_cons_zero, List.set_cons_succ]
          refine wpAnyW_take (i := 5) (v := ?_) (by simp only [List.getElem?_toArray, List.getElem?_cons_succ, List.getElem?_cons_zero]; rfl) (by kernel_rfl) (by kernel_rfl) (by kernel_rfl) (by kernel_rfl) (by kernel_rfl) (fun _ _ _ h => h) (Or.inl ⟨by rfl, ?_⟩) (by assumption) ?_
          rotate_left 1
          · (intro w' hSw; go_simp; try with_reducible rfl)
          try simp only [Act.put, List.setIfInBounds_toArray, List.set_cons_zero, List.set_cons_succ]
          refine wpAnyW_take (i := 6) (v := ?_) (by simp only [List.getElem?_toArray, List.getElem?_cons_succ, List.getElem?_cons_zero]; rfl) (by kernel_rfl) (by kernel_rfl) (by kernel_rfl) (by kernel_rfl) (by kernel_rfl) (fun _ _ _ h => h) (Or.inl ⟨by rfl, ?_⟩) (by assumption) ?_
          rotate_left 1
          · (intro w' hSw; go_simp; try with_reducible rfl)
          try simp only [Act.put, List.setIfInBounds_toArray, List.set_cons_zero, List.set_cons_succ]
          refine wpAnyW_two (i := 7) (i2 := 11) (by kernel_rfl) (by simp only [List.getElem?_toArray, List.getElem?_cons_succ, List.getElem?_cons_zero]; rfl) (by simp only [List.getElem?_toArray, List.getElem?_cons_succ, List.getElem?_cons_zero]; rfl) (fun K hK => ?_) (fun K hK => ?_)
          · rw [if_pos (by rfl)]
            go_simp
            refine (HAG1.out _ _ (HRS.out.below hHeld)).mono ?_
            rintro _ u5 ⟨A5, k5, rfl, r9, f9, hb⟩
            have HS : (fun V => Below wr.heap.size wr V) _ := hHeld.trans (hb.mono hHeld.size)
            have HR5 := Lib.hid r9
            have HF5 := Lib.hid (f9.less (show wr.heap.size ≤ _ from hHeld.size))
            clear hHeld hb r9 f9
            go_wp2_with fail
            refine hK.out _ _ HS (fun hHeld => ?_)
            clear hK K HS
            try simp only [Act.put, List.setIfInBounds_toArray, List.set_cons_zero, List.set_cons_succ]
            refine wpAnyW_take (i := 8) (v := ?_) (by simp only [List.getElem?_toArray, List.getElem?_cons_succ, List.getElem?_cons_zero]; rfl) (by kernel_rfl) (by kernel_rfl) (by kernel_rfl) (by kernel_rfl) (by kernel_rfl) (fun _ _ _ h => h) (Or.inl ⟨by rfl, ?_⟩) (by assumption) ?_
            rotate_left 1
            · (intro w' hSw; go_simp; try with_reducible rfl)
            try simp only [Act.put, List.setIfInBounds_toArray, List.set_cons_zero, List.set_cons_succ]
            refine wpAnyW_take (i := 9) (v := ?_) (by simp only [List.getElem?_toArray, List.getElem?_cons_succ, List.getElem?_cons_zero]; rfl) (by kernel_rfl) (by kernel_rfl) (by kernel_rfl) (by kernel_rfl) (by kernel_rfl) (fun _ _ _ h => h) (Or.inl ⟨by rfl, ?_⟩) (by assumption) ?_
            rotate_left 1
            · (intro w' hSw; go_simp; try with_reducible rfl)
            try simp only [Act.put, List.setIfInBounds_toArray, List.set_cons_zero, List.set_cons_succ]
            refine wpAnyW_take (i := 10) (v := ?_) (by simp only [List.getElem?_toArray, List.getElem?_cons_succ, List.getElem?_cons_zero]; rfl) (by kernel_rfl) (by kernel_rfl) (by kernel_rfl) (by kernel_rfl) (by kernel_rfl) (fun _ _ _ h => h) (Or.inl ⟨by rfl, ?_⟩) (by assumption) ?_
            rotate_left 1
            · (intro w' hSw; go_simp; try with_reducible rfl)
            try simp only [Act.put, List.setIfInBounds_toArray, List.set_cons_zero, List.set_cons_succ]
            refine wpAnyW_held (i := 11) (by kernel_rfl) (by simp only [List.getElem?_toArray, List.getElem?_cons_succ, List.getElem?_cons_zero]; rfl) (fun K hK => ?_)
            rw [if_pos (by rfl)]
            obtain ⟨v5, hv5, HX5, HB5, hs5⟩ := one_open u5 27 #[.int .u32 0, .slice none 0 0]
            obtain ⟨g5, hg5⟩ : ∃ g, u5.heap.size = g := ⟨_, rfl⟩
            rw [hg5] at HX5 hs5
            have HS : (fun V => Below wr.heap.size wr V) _ := hHeld.trans (HB5.out.mono hHeld.size)
            have hz5 : wr.heap.size ≤ g5 := by have := hHeld.size; omega
            clear hHeld
            go_simp
            refine hK.out _ _ HS (fun hHeld => ?_)
            clear hK K HS
            try simp only [Act.put, List.setIfInBounds_toArray, List.set_cons_zero, List.set_cons_succ]
            refine wpAnyW_held (i := 12) (by kernel_rfl) (by simp only [List.getElem?_toArray, List.getElem?_cons_succ, List.getElem?_cons_zero]; rfl) (fun K hK => ?_)
            rw [if_pos (by rfl)]
            refine wpB (ty := 27) #[.int .u32 (c.toNat : Int), .slice A5 l.length k5] rfl rfl rfl HX5.out infoS rfl (cellsS_one _ _ _ _) ?_
            intro y5 ht hg
            have HS : (fun V => Below wr.heap.size wr V) _ := below_of_grown1 hHeld hg hHeld.size hz5
            replace HR5 := Lib.hid (HR5.out.below (below_of_grown1 HB5.out hg HB5.out.size (Nat.le_of_eq hg5)))
            replace HX5 := Lib.hid ht
            clear ht hg hHeld HB5
            refine hK.out _ _ HS (fun hHeld => ?_)
            clear hK K HS
            try simp only [Act.put, List.setIfInBounds_toArray, List.set_cons_zero, List.set_cons_succ]
            refine wpAnyW_freed (i := 13) (by kernel_rfl) (by kernel_rfl) (by simp only [List.getElem?_toArray, List.getElem?_cons_succ, List.getElem?_cons_zero]; rfl) (fun K hK => ?_)
            rw [if_pos (by rfl)]
            go_simp
            have HE5 := Lib.hid hHeld
            refine hK.out _ _ ?_
            clear hK K hHeld
            try simp only [Act.put, List.setIfInBounds_toArray, List.set_cons_zero, List.set_cons_succ]
            refine wpAnyW_done (by kernel_rfl) ?_ _
            refine NoPanic.normal ?_
            have HBy5 := Lib.hid (HBwr.out.trans (HE5.out.mono HBwr.out.size))
            have hsz5 := HE5.out.size
            go_wp2_with fail
            have HS : (fun V => Below y5.heap.size y5 V) _ := below_drawn (Below.refl _ _)
            refine wp_region_noPanic ?_
            refine wp_region_waits (S := (fun V => Below y5.heap.size y5 V)) [13] (by kernel_rfl) HS (fun hHeld => ?_)
            clear HS
            refine wpAnyW_take (i := 0) (v := _) (by simp only [List.getElem?_toArray, List.getElem?_cons_zero]; rfl) (by kernel_rfl) (by kernel_rfl) (by kernel_rfl) (by kernel_rfl) (by kernel_rfl) (fun _ _ _ h => h) (yB (ty := 27) (by rfl) rfl rfl (fun V h => HX5.out.later h) Try.underlying27 rfl infoS) (by assumption) ?_
            try simp only [Act.put, List.setIfInBounds_toArray, List.set_cons_zero, List.set_cons_succ]
            refine wpAnyW_take (i := 1) (v := ?_) (by simp only [List.getElem?_toArray, List.getElem?_cons_succ, List.getElem?_cons_zero]; rfl) (by kernel_rfl) (by kernel_rfl) (by kernel_rfl) (by kernel_rfl) (by kernel_rfl) (fun _ _ _ h => h) (Or.inl ⟨by rfl, ?_⟩) (by assumption) ?_
            rotate_left 1
            · (intro w' hSw; go_simp; try with_reducible rfl)
            try simp only [Act.put, List.setIfInBounds_toArray, List.set_cons_zero, List.set_cons_succ]
            refine wpAnyW_take (i := 2) (v := ?_) (by simp only [List.getElem?_toArray, List.getElem?_cons_succ, List.getElem?_cons_zero]; rfl) (by kernel_rfl) (by kernel_rfl) (by kernel_rfl) (by kernel_rfl) (by kernel_rfl) (fun _ _ _ h => h) (Or.inl ⟨by rfl, ?_⟩) (by assumption) ?_
            rotate_left 1
            · (intro w' hSw; go_simp; try with_reducible rfl)
            try simp only [Act.put, List.setIfInBounds_toArray, List.set_cons_zero, List.set_cons_succ]
            refine wpAnyW_take (i := 3) (v := ?_) (by simp only [List.getElem?_toArray, List.getElem?_cons_succ, List.getElem?_cons_zero]; rfl) (by kernel_rfl) (by kernel_rfl) (by kernel_rfl) (by kernel_rfl) (by kernel_rfl) (fun _ _ _ h => h) (Or.inl ⟨by rfl, ?_⟩) (by assumption) ?_
            rotate_left 1
            · (intro w' hSw; go_simp; try with_reducible rfl)
            try simp only [Act.put, List.setIfInBounds_toArray, List.set_cons_zero, List.set_cons_succ]
            refine wpAnyW_take (i := 4) (v := ?_) (by simp only [List.getElem?_toArray, List.getElem?_cons_succ, List.getElem?_cons_zero]; rfl) (by kernel_rfl) (by kernel_rfl) (by kernel_rfl) (by kernel_rfl) (by kernel_rfl) (fun _ _ _ h => h) (Or.inl ⟨by rfl, ?_⟩) (by assumption) ?_
            rotate_left 1
            · (intro w' hSw; have hq : w'.cell? ⟨b, off + j, none⟩ = some (.int .u32 (tn.toNat : Int)) := HCE.out _ (HBy5.out.trans (hSw.mono HBy5.out.size)); go_simp; try with_reducible rfl)
            try simp only [Act.put, List.setIfInBounds_toArray, List.set_cons_zero, List.set_cons_succ]
            refine wpAnyW_take (i := 5) (v := ?_) (by simp only [List.getElem?_toArray, List.getElem?_cons_succ, List.getElem?_cons_zero]; rfl) (by kernel_rfl) (by kernel_rfl) (by kernel_rfl) (by kernel_rfl) (by kernel_rfl) (fun _ _ _ h => h) (Or.inl ⟨by rfl, ?_⟩) (by assumption) ?_
            rotate_left 1
            · (intro w' hSw; go_simp; try with_reducible rfl)
            try simp only [Act.put, List.setIfInBounds_toArray, List.set_cons_zero, List.set_cons_succ]
            refine wpAnyW_take (i := 6) (v := ?_) (by simp only [List.getElem?_toArray, List.getElem?_cons_succ, List.getElem?_cons_zero]; rfl) (by kernel_rfl) (by kernel_rfl) (by kernel_rfl) (by kernel_rfl) (by kernel_rfl) (fun _ _ _ h => h) (Or.inl ⟨by rfl, ?_⟩) (by assumption) ?_
            rotate_left 1
            · (intro w' hSw; go_simp; try with_reducible rfl)
            try simp only [Act.put, List.setIfInBounds_toArray, List.set_cons_zero, List.set_cons_succ]
            refine wpAnyW_two (i := 7) (i2 := 11) (by kernel_rfl) (by simp only [List.getElem?_toArray, List.getElem?_cons_succ, List.getElem?_cons_zero]; rfl) (by simp only [List.getElem?_toArray, List.getElem?_cons_succ, List.getElem?_cons_zero]; rfl) (fun K hK => ?_) (fun K hK => ?_)
            · rw [if_pos (by rfl)]
              go_simp
              refine (HAG2.out _ _ (HR5.out.below hHeld)).mono ?_
              rintro _ u6 ⟨A6, k6, rfl, r9, f9, hb⟩
              have HS : (fun V => Below y5.heap.size y5 V) _ := hHeld.trans (hb.mono hHeld.size)
              have HR6 := Lib.hid r9
              have HF6 := Lib.hid (f9.less (show y5.heap.size ≤ _ from hHeld.size))
              clear hHeld hb r9 f9
              go_wp2_with fail
              refine hK.out _ _ HS (fun hHeld => ?_)
              clear hK K HS
              try simp only [Act.put, List.setIfInBounds_toArray, List.set_cons_zero, List.set_cons_succ]
              refine wpAnyW_take (i := 8) (v := ?_) (by simp only [List.getElem?_toArray, List.getElem?_cons_succ, List.getElem?_cons_zero]; rfl) (by kernel_rfl) (by kernel_rfl) (by kernel_rfl) (by kernel_rfl) (by kernel_rfl) (fun _ _ _ h => h) (Or.inl ⟨by rfl, ?_⟩) (by assumption) ?_
              rotate_left 1
              · (intro w' hSw; go_simp; try with_reducible rfl)
              try simp only [Act.put, List.setIfInBounds_toArray, List.set_cons_zero, List.set_cons_succ]
              refine wpAnyW_take (i := 9) (v := ?_) (by simp only [List.getElem?_toArray, List.getElem?_cons_succ, List.getElem?_cons_zero]; rfl) (by kernel_rfl) (by kernel_rfl) (by kernel_rfl) (by kernel_rfl) (by kernel_rfl) (fun _ _ _ h => h) (Or.inl ⟨by rfl, ?_⟩) (by assumption) ?_
              rotate_left 1
              · (intro w' hSw; go_simp; try with_reducible rfl)
              try simp only [Act.put, List.setIfInBounds_toArray, List.set_cons_zero, List.set_cons_succ]
              refine wpAnyW_take (i := 10) (v := ?_) (by simp only [List.getElem?_toArray, List.getElem?_cons_succ, List.getElem?_cons_zero]; rfl) (by kernel_rfl) (by kernel_rfl) (by kernel_rfl) (by kernel_rfl) (by kernel_rfl) (fun _ _ _ h => h) (Or.inl ⟨by rfl, ?_⟩) (by assumption) ?_
              rotate_left 1
              · (intro w' hSw; go_simp; try with_reducible rfl)
              try simp only [Act.put, List.setIfInBounds_toArray, List.set_cons_zero, List.set_cons_succ]
              refine wpAnyW_held (i := 11) (by kernel_rfl) (by simp only [List.getElem?_toArray, List.getElem?_cons_succ, List.getElem?_cons_zero]; rfl) (fun K hK => ?_)
              rw [if_pos (by rfl)]
              obtain ⟨v6, hv6, HX6, HB6, hs6⟩ := one_open u6 27 #[.int .u32 0, .slice none 0 0]
              obtain ⟨g6, hg6⟩ : ∃ g, u6.heap.size = g := ⟨_, rfl⟩
              rw [hg6] at HX6 hs6
              have HS : (fun V => Below y5.heap.size y5 V) _ := hHeld.trans (HB6.out.mono hHeld.size)
              have hz6 : y5.heap.size ≤ g6 := by have := hHeld.size; omega
              clear hHeld
              go_simp
              refine hK.out _ _ HS (fun hHeld => ?_)
              clear hK K HS
              try simp only [Act.put, List.setIfInBounds_toArray, List.set_cons_zero, List.set_cons_succ]
              refine wpAnyW_held (i := 12) (by kernel_rfl) (by simp only [List.getElem?_toArray, List.getElem?_cons_succ, List.getElem?_cons_zero]; rfl) (fun K hK => ?_)
              rw [if_pos (by rfl)]
              refine wpB (ty := 27) #[.int .u32 (c.toNat : Int), .slice A6 l.length k6] rfl rfl rfl HX6.out infoS rfl (cellsS_one _ _ _ _) ?_
              intro y6 ht hg
              have HS : (fun V => Below y5.heap.size y5 V) _ := below_of_grown1 hHeld hg hHeld.size hz6
              replace HR6 := Lib.hid (HR6.out.below (below_of_grown1 HB6.out hg HB6.out.size (Nat.le_of_eq hg6)))
              replace HX6 := Lib.hid ht
              clear ht hg hHeld HB6
              refine hK.out _ _ HS (fun hHeld => ?_)
              clear hK K HS
              try simp only [Act.put, List.setIfInBounds_toArray, List.set_cons_zero, List.set_cons_succ]
              refine wpAnyW_freed (i := 13) (by kernel_rfl) (by kernel_rfl) (by simp only [List.getElem?_toArray, List.getElem?_cons_succ, List.getElem?_cons_zero]; rfl) (fun K hK => ?_)
              rw [if_pos (by rfl)]
              go_simp
              have HE6 := Lib.hid hHeld
              refine hK.out _ _ ?_
              clear hK K hHeld
              try simp only [Act.put, List.setIfInBounds_toArray, List.set_cons_zero, List.set_cons_succ]
              refine wpAnyW_done (by kernel_rfl) ?_ _
              refine NoPanic.normal ?_
              have HX5L := Lib.hid (HX5.out.later HE6.out)
              have HQL := Lib.hid (HQ.out.later (HE5.out.trans (HE6.out.mono HE5.out.size)))
              have HBL := Lib.hid (HBy5.out.trans (HE6.out.mono HBy5.out.size))
              have hsz6 := HE6.out.size
              go_wp2_with (first
                | ((with_reducible refine gate9 ?_); refine ldB (ty := 27) rfl rfl rfl HX5L.out Try.underlying27 rfl infoS ?_)
                | ((with_reducible refine gate9 ?_); refine stB (ty := 27) #[.int .u32 (c.toNat : Int), .slice A5 l.length k5] rfl rfl rfl rfl HQL.out infoS rfl (cellsS_one _ _ _ _) ?_; intro w30 ht hg; have HRX := Lib.hid ((HR5.out.below HE6.out).stays HF5.out hg (by omega)); have hsz30 := hg.size; have HB30 := Lib.hid (below_of_grown1 HBL.out hg HBL.out.size (by omega)); have HG30 := Lib.hid ht; clear ht hg))
              go_roundw
              case rel => exact ⟨j + 1, by omega, by go_num, Lib.hid ⟨s', A5, k5, HAI2.out, HG30.out, HRX.out, HB30.out, by omega⟩⟩
              case measure => simp [intOf]; omega
            · rw [if_pos (by rfl)]
              obtain ⟨v6, hv6, HX6, HB6, hs6⟩ := one_open y5.drew 27 #[.int .u32 0, .slice none 0 0]
              obtain ⟨g6, hg6⟩ : ∃ g, y5.drew.heap.size = g := ⟨_, rfl⟩
              rw [hg6] at HX6 hs6
              have HS : (fun V => Below y5.heap.size y5 V) _ := hHeld.trans (HB6.out.mono hHeld.size)
              have hz6 : y5.heap.size ≤ g6 := by have := hHeld.size; omega
              clear hHeld
              go_simp
              refine hK.out _ _ HS (fun hHeld => ?_)
              clear hK K HS
              try simp only [Act.put, List.setIfInBounds_toArray, List.set_cons_zero, List.set_cons_succ]
              refine wpAnyW_held (i := 7) (by kernel_rfl) (by simp only [List.getElem?_toArray, List.getElem?_cons_succ, List.getElem?_cons_zero]; rfl) (fun K hK => ?_)
              rw [if_pos (by rfl)]
              go_simp
              refine (HAG2.out _ _ (HR5.out.below hHeld)).mono ?_
              rintro _ u6 ⟨A6, k6, rfl, r9, f9, hb⟩
              have HS : (fun V => Below y5.heap.size y5 V) _ := hHeld.trans (hb.mono hHeld.size)
              have HR6 := Lib.hid r9
              have HF6 := Lib.hid (f9.less (show y5.heap.size ≤ _ from hHeld.size))
              have HG6 := Lib.hid f9
              replace HX6 := Lib.hid (HX6.out.later hb)
              clear hHeld hb r9 f9
              go_wp2_with fail
              refine hK.out _ _ HS (fun hHeld => ?_)
              clear hK K HS
              try simp only [Act.put, List.setIfInBounds_toArray, List.set_cons_zero, List.set_cons_succ]
              refine wpAnyW_take (i := 8) (v := ?_) (by simp only [List.getElem?_toArray, List.getElem?_cons_succ, List.getElem?_cons_zero]; rfl) (by kernel_rfl) (by kernel_rfl) (by kernel_rfl) (by kernel_rfl) (by kernel_rfl) (fun _ _ _ h => h) (Or.inl ⟨by rfl, ?_⟩) (by assumption) ?_
              rotate_left 1
              · (intro w' hSw; go_simp; try with_reducible rfl)
              try simp only [Act.put, List.setIfInBounds_toArray, List.set_cons_zero, List.set_cons_succ]
              refine wpAnyW_take (i := 9) (v := ?_) (by simp only [List.getElem?_toArray, List.getElem?_cons_succ, List.getElem?_cons_zero]; rfl) (by kernel_rfl) (by kernel_rfl) (by kernel_rfl) (by kernel_rfl) (by kernel_rfl) (fun _ _ _ h => h) (Or.inl ⟨by rfl, ?_⟩) (by assumption) ?_
              rotate_left 1
              · (intro w' hSw; go_simp; try with_reducible rfl)
              try simp only [Act.put, List.setIfInBounds_toArray, List.set_cons_zero, List.set_cons_succ]
              refine wpAnyW_take (i := 10) (v := ?_) (by simp only [List.getElem?_toArray, List.getElem?_cons_succ, List.getElem?_cons_zero]; rfl) (by kernel_rfl) (by kernel_rfl) (by kernel_rfl) (by kernel_rfl) (by kernel_rfl) (fun _ _ _ h => h) (Or.inl ⟨by rfl, ?_⟩) (by assumption) ?_
              rotate_left 1
              · (intro w' hSw; go_simp; try with_reducible rfl)
              try simp only [Act.put, List.setIfInBounds_toArray, List.set_cons_zero, List.set_cons_succ]
              refine wpAnyW_held (i := 12) (by kernel_rfl) (by simp only [List.getElem?_toArray, List.getElem?_cons_succ, List.getElem?_cons_zero]; rfl) (fun K hK => ?_)
              rw [if_pos (by rfl)]
              refine wpB (ty := 27) #[.int .u32 (c.toNat : Int), .slice A6 l.length k6] rfl rfl rfl HX6.out infoS rfl (cellsS_one _ _ _ _) ?_
              intro y6 ht hg
              have HS : (fun V => Below y5.heap.size y5 V) _ := below_of_grown1 hHeld hg hHeld.size hz6
              replace HR6 := Lib.hid (HR6.out.stays HG6.out hg (by omega))
              replace HX6 := Lib.hid ht
              clear ht hg hHeld HB6
              refine hK.out _ _ HS (fun hHeld => ?_)
              clear hK K HS
              try simp only [Act.put, List.setIfInBounds_toArray, List.set_cons_zero, List.set_cons_succ]
              refine wpAnyW_freed (i := 13) (by kernel_rfl) (by kernel_rfl) (by simp only [List.getElem?_toArray, List.getElem?_cons_succ, List.getElem?_cons_zero]; rfl) (fun K hK => ?_)
              rw [if_pos (by rfl)]
              go_simp
              have HE6 := Lib.hid hHeld
              refine hK.out _ _ ?_
              clear hK K hHeld
              try simp only [Act.put, List.setIfInBounds_toArray, List.set_cons_zero, List.set_cons_succ]
              refine wpAnyW_done (by kernel_rfl) ?_ _
              refine NoPanic.normal ?_
              have HX5L := Lib.hid (HX5.out.later HE6.out)
              have HQL := Lib.hid (HQ.out.later (HE5.out.trans (HE6.out.mono HE5.out.size)))
              have HBL := Lib.hid (HBy5.out.trans (HE6.out.mono HBy5.out.size))
              have hsz6 := HE6.out.size
              go_wp2_with (first
                | ((with_reducible refine gate9 ?_); refine ldB (ty := 27) rfl rfl rfl HX5L.out Try.underlying27 rfl infoS ?_)
                | ((with_reducible refine gate9 ?_); refine stB (ty := 27) #[.int .u32 (c.toNat : Int), .slice A5 l.length k5] rfl rfl rfl rfl HQL.out infoS rfl (cellsS_one _ _ _ _) ?_; intro w30 ht hg; have HRX := Lib.hid ((HR5.out.below HE6.out).stays HF5.out hg (by omega)); have hsz30 := hg.size; have HB30 := Lib.hid (below_of_grown1 HBL.out hg HBL.out.size (by omega)); have HG30 := Lib.hid ht; clear ht hg))
              go_roundw
              case rel => exact ⟨j + 1, by omega, by go_num, Lib.hid ⟨s', A5, k5, HAI2.out, HG30.out, HRX.out, HB30.out, by omega⟩⟩
              case measure => simp [intOf]; omega
          · rw [if_pos (by rfl)]
            obtain ⟨v5, hv5, HX5, HB5, hs5⟩ := one_open wr.drew 27 #[.int .u32 0, .slice none 0 0]
            obtain ⟨g5, hg5⟩ : ∃ g, wr.drew.heap.size = g := ⟨_, rfl⟩
            rw [hg5] at HX5 hs5
            have HS : (fun V => Below wr.heap.size wr V) _ := hHeld.trans (HB5.out.mono hHeld.size)
            have hz5 : wr.heap.size ≤ g5 := by have := hHeld.size; omega
            clear hHeld
            go_simp
            refine hK.out _ _ HS (fun hHeld => ?_)
            clear hK K HS
            try simp only [Act.put, List.setIfInBounds_toArray, List.set_cons_zero, List.set_cons_succ]
            refine wpAnyW_held (i := 7) (by kernel_rfl) (by simp only [List.getElem?_toArray, List.getElem?_cons_succ, List.getElem?_cons_zero]; rfl) (fun K hK => ?_)
            rw [if_pos (by rfl)]
            go_simp
            refine (HAG1.out _ _ (HRS.out.below hHeld)).mono ?_
            rintro _ u5 ⟨A5, k5, rfl, r9, f9, hb⟩
            have HS : (fun V => Below wr.heap.size wr V) _ := hHeld.trans (hb.mono hHeld.size)
            have HR5 := Lib.hid r9
            have HF5 := Lib.hid (f9.less (show wr.heap.size ≤ _ from hHeld.size))
            have HG5 := Lib.hid f9
            replace HX5 := Lib.hid (HX5.out.later hb)
            clear hHeld hb r9 f9
            go_wp2_with fail
            refine hK.out _ _ HS (fun hHeld => ?_)
            clear hK K HS
            try simp only [Act.put, List.setIfInBounds_toArray, List.set_cons_zero, List.set_cons_succ]
            refine wpAnyW_take (i := 8) (v := ?_) (by simp only [List.getElem?_toArray, List.getElem?_cons_succ, List.getElem?_cons_zero]; rfl) (by kernel_rfl) (by kernel_rfl) (by kernel_rfl) (by kernel_rfl) (by kernel_rfl) (fun _ _ _ h => h) (Or.inl ⟨by rfl, ?_⟩) (by assumption) ?_
            rotate_left 1
            · (intro w' hSw; go_simp; try with_reducible rfl)
            try simp only [Act.put, List.setIfInBounds_toArray, List.set_cons_zero, List.set_cons_succ]
            refine wpAnyW_take (i := 9) (v := ?_) (by simp only [List.getElem?_toArray, List.getElem?_cons_succ, List.getElem?_cons_zero]; rfl) (by kernel_rfl) (by kernel_rfl) (by kernel_rfl) (by kernel_rfl) (by kernel_rfl) (fun _ _ _ h => h) (Or.inl ⟨by rfl, ?_⟩) (by assumption) ?_
            rotate_left 1
            · (intro w' hSw; go_simp; try with_reducible rfl)
            try simp only [Act.put, List.setIfInBounds_toArray, List.set_cons_zero, List.set_cons_succ]
            refine wpAnyW_take (i := 10) (v := ?_) (by simp only [List.getElem?_toArray, List.getElem?_cons_succ, List.getElem?_cons_zero]; rfl) (by kernel_rfl) (by kernel_rfl) (by kernel_rfl) (by kernel_rfl) (by kernel_rfl) (fun _ _ _ h => h) (Or.inl ⟨by rfl, ?_⟩) (by assumption) ?_
            rotate_left 1
            · (intro w' hSw; go_simp; try with_reducible rfl)
            try simp only [Act.put, List.setIfInBounds_toArray, List.set_cons_zero, List.set_cons_succ]
            refine wpAnyW_held (i := 12) (by kernel_rfl) (by simp only [List.getElem?_toArray, List.getElem?_cons_succ, List.getElem?_cons_zero]; rfl) (fun K hK => ?_)
            rw [if_pos (by rfl)]
            refine wpB (ty := 27) #[.int .u32 (c.toNat : Int), .slice A5 l.length k5] rfl rfl rfl HX5.out infoS rfl (cellsS_one _ _ _ _) ?_
            intro y5 ht hg
            have HS : (fun V => Below wr.heap.size wr V) _ := below_of_grown1 hHeld hg hHeld.size hz5
            replace HR5 := Lib.hid (HR5.out.stays HG5.out hg (by omega))
            replace HX5 := Lib.hid ht
            clear ht hg hHeld HB5
            refine hK.out _ _ HS (fun hHeld => ?_)
            clear hK K HS
            try simp only [Act.put, List.setIfInBounds_toArray, List.set_cons_zero, List.set_cons_succ]
            refine wpAnyW_freed (i := 13) (by kernel_rfl) (by kernel_rfl) (by simp only [List.getElem?_toArray, List.getElem?_cons_succ, List.getElem?_cons_zero]; rfl) (fun K hK => ?_)
            rw [if_pos (by rfl)]
            go_simp
            have HE5 := Lib.hid hHeld
            refine hK.out _ _ ?_
            clear hK K hHeld
            try simp only [Act.put, List.setIfInBounds_toArray, List.set_cons_zero, List.set_cons_succ]
            refine wpAnyW_done (by kernel_rfl) ?_ _
            refine NoPanic.normal ?_
            have HBy5 := Lib.hid (HBwr.out.trans (HE5.out.mono HBwr.out.size))
            have hsz5 := HE5.out.size
            go_wp2_with fail
            have HS : (fun V => Below y5.heap.size y5 V) _ := below_drawn (Below.refl _ _)
            refine wp_region_noPanic ?_
            refine wp_region_waits (S := (fun V => Below y5.heap.size y5 V)) [13] (by kernel_rfl) HS (fun hHeld => ?_)
            clear HS
            refine wpAnyW_take (i := 0) (v := _) (by simp only [List.getElem?_toArray, List.getElem?_cons_zero]; rfl) (by kernel_rfl) (by kernel_rfl) (by kernel_rfl) (by kernel_rfl) (by kernel_rfl) (fun _ _ _ h => h) (yB (ty := 27) (by rfl) rfl rfl (fun V h => HX5.out.later h) Try.underlying27 rfl infoS) (by assumption) ?_
            try simp only [Act.put, List.setIfInBounds_toArray, List.set_cons_zero, List.set_cons_succ]
            refine wpAnyW_take (i := 1) (v := ?_) (by simp only [List.getElem?_toArray, List.getElem?_cons_succ, List.getElem?_cons_zero]; rfl) (by kernel_rfl) (by kernel_rfl) (by kernel_rfl) (by kernel_rfl) (by kernel_rfl) (fun _ _ _ h => h) (Or.inl ⟨by rfl, ?_⟩) (by assumption) ?_
            rotate_left 1
            · (intro w' hSw; go_simp; try with_reducible rfl)
            try simp only [Act.put, List.setIfInBounds_toArray, List.set_cons_zero, List.set_cons_succ]
            refine wpAnyW_take (i := 2) (v := ?_) (by simp only [List.getElem?_toArray, List.getElem?_cons_succ, List.getElem?_cons_zero]; rfl) (by kernel_rfl) (by kernel_rfl) (by kernel_rfl) (by kernel_rfl) (by kernel_rfl) (fun _ _ _ h => h) (Or.inl ⟨by rfl, ?_⟩) (by assumption) ?_
            rotate_left 1
            · (intro w' hSw; go_simp; try with_reducible rfl)
            try simp only [Act.put, List.setIfInBounds_toArray, List.set_cons_zero, List.set_cons_succ]
            refine wpAnyW_take (i := 3) (v := ?_) (by simp only [List.getElem?_toArray, List.getElem?_cons_succ, List.getElem?_cons_zero]; rfl) (by kernel_rfl) (by kernel_rfl) (by kernel_rfl) (by kernel_rfl) (by kernel_rfl) (fun _ _ _ h => h) (Or.inl ⟨by rfl, ?_⟩) (by assumption) ?_
            rotate_left 1
            · (intro w' hSw; go_simp; try with_reducible rfl)
            try simp only [Act.put, List.setIfInBounds_toArray, List.set_cons_zero, List.set_cons_succ]
            refine wpAnyW_take (i := 4) (v := ?_) (by simp only [List.getElem?_toArray, List.getElem?_cons_succ, List.getElem?_cons_zero]; rfl) (by kernel_rfl) (by kernel_rfl) (by kernel_rfl) (by kernel_rfl) (by kernel_rfl) (fun _ _ _ h => h) (Or.inl ⟨by rfl, ?_⟩) (by assumption) ?_
            rotate_left 1
            · (intro w' hSw; have hq : w'.cell? ⟨b, off + j, none⟩ = some (.int .u32 (tn.toNat : Int)) := HCE.out _ (HBy5.out.trans (hSw.mono HBy5.out.size)); go_simp; try with_reducible rfl)
            try simp only [Act.put, List.setIfInBounds_toArray, List.set_cons_zero, List.set_cons_succ]
            refine wpAnyW_take (i := 5) (v := ?_) (by simp only [List.getElem?_toArray, List.getElem?_cons_succ, List.getElem?_cons_zero]; rfl) (by kernel_rfl) (by kernel_rfl) (by kernel_rfl) (by kernel_rfl) (by kernel_rfl) (fun _ _ _ h => h) (Or.inl ⟨by rfl, ?_⟩) (by assumption) ?_
            rotate_left 1
            · (intro w' hSw; go_simp; try with_reducible rfl)
            try simp only [Act.put, List.setIfInBounds_toArray, List.set_cons_zero, List.set_cons_succ]
            refine wpAnyW_take (i := 6) (v := ?_) (by simp only [List.getElem?_toArray, List.getElem?_cons_succ, List.getElem?_cons_zero]; rfl) (by kernel_rfl) (by kernel_rfl) (by kernel_rfl) (by kernel_rfl) (by kernel_rfl) (fun _ _ _ h => h) (Or.inl ⟨by rfl, ?_⟩) (by assumption) ?_
            rotate_left 1
            · (intro w' hSw; go_simp; try with_reducible rfl)
            try simp only [Act.put, List.setIfInBounds_toArray, List.set_cons_zero, List.set_cons_succ]
            refine wpAnyW_two (i := 7) (i2 := 11) (by kernel_rfl) (by simp only [List.getElem?_toArray, List.getElem?_cons_succ, List.getElem?_cons_zero]; rfl) (by simp only [List.getElem?_toArray, List.getElem?_cons_succ, List.getElem?_cons_zero]; rfl) (fun K hK => ?_) (fun K hK => ?_)
            · rw [if_pos (by rfl)]
              go_simp
              refine (HAG2.out _ _ (HR5.out.below hHeld)).mono ?_
              rintro _ u6 ⟨A6, k6, rfl, r9, f9, hb⟩
              have HS : (fun V => Below y5.heap.size y5 V) _ := hHeld.trans (hb.mono hHeld.size)
              have HR6 := Lib.hid r9
              have HF6 := Lib.hid (f9.less (show y5.heap.size ≤ _ from hHeld.size))
              clear hHeld hb r9 f9
              go_wp2_with fail
              refine hK.out _ _ HS (fun hHeld => ?_)
              clear hK K HS
              try simp only [Act.put, List.setIfInBounds_toArray, List.set_cons_zero, List.set_cons_succ]
              refine wpAnyW_take (i := 8) (v := ?_) (by simp only [List.getElem?_toArray, List.getElem?_cons_succ, List.getElem?_cons_zero]; rfl) (by kernel_rfl) (by kernel_rfl) (by kernel_rfl) (by kernel_rfl) (by kernel_rfl) (fun _ _ _ h => h) (Or.inl ⟨by rfl, ?_⟩) (by assumption) ?_
              rotate_left 1
              · (intro w' hSw; go_simp; try with_reducible rfl)
              try simp only [Act.put, List.setIfInBounds_toArray, List.set_cons_zero, List.set_cons_succ]
              refine wpAnyW_take (i := 9) (v := ?_) (by simp only [List.getElem?_toArray, List.getElem?_cons_succ, List.getElem?_cons_zero]; rfl) (by kernel_rfl) (by kernel_rfl) (by kernel_rfl) (by kernel_rfl) (by kernel_rfl) (fun _ _ _ h => h) (Or.inl ⟨by rfl, ?_⟩) (by assumption) ?_
              rotate_left 1
              · (intro w' hSw; go_simp; try with_reducible rfl)
              try simp only [Act.put, List.setIfInBounds_toArray, List.set_cons_zero, List.set_cons_succ]
              refine wpAnyW_take (i := 10) (v := ?_) (by simp only [List.getElem?_toArray, List.getElem?_cons_succ, List.getElem?_cons_zero]; rfl) (by kernel_rfl) (by kernel_rfl) (by kernel_rfl) (by kernel_rfl) (by kernel_rfl) (fun _ _ _ h => h) (Or.inl ⟨by rfl, ?_⟩) (by assumption) ?_
              rotate_left 1
              · (intro w' hSw; go_simp; try with_reducible rfl)
              try simp only [Act.put, List.setIfInBounds_toArray, List.set_cons_zero, List.set_cons_succ]
              refine wpAnyW_held (i := 11) (by kernel_rfl) (by simp only [List.getElem?_toArray, List.getElem?_cons_succ, List.getElem?_cons_zero]; rfl) (fun K hK => ?_)
              rw [if_pos (by rfl)]
              obtain ⟨v6, hv6, HX6, HB6, hs6⟩ := one_open u6 27 #[.int .u32 0, .slice none 0 0]
              obtain ⟨g6, hg6⟩ : ∃ g, u6.heap.size = g := ⟨_, rfl⟩
              rw [hg6] at HX6 hs6
              have HS : (fun V => Below y5.heap.size y5 V) _ := hHeld.trans (HB6.out.mono hHeld.size)
              have hz6 : y5.heap.size ≤ g6 := by have := hHeld.size; omega
              clear hHeld
              go_simp
              refine hK.out _ _ HS (fun hHeld => ?_)
              clear hK K HS
              try simp only [Act.put, List.setIfInBounds_toArray, List.set_cons_zero, List.set_cons_succ]
              refine wpAnyW_held (i := 12) (by kernel_rfl) (by simp only [List.getElem?_toArray, List.getElem?_cons_succ, List.getElem?_cons_zero]; rfl) (fun K hK => ?_)
              rw [if_pos (by rfl)]
              refine wpB (ty := 27) #[.int .u32 (c.toNat : Int), .slice A6 l.length k6] rfl rfl rfl HX6.out infoS rfl (cellsS_one _ _ _ _) ?_
              intro y6 ht hg
              have HS : (fun V => Below y5.heap.size y5 V) _ := below_of_grown1 hHeld hg hHeld.size hz6
              replace HR6 := Lib.hid (HR6.out.below (below_of_grown1 HB6.out hg HB6.out.size (Nat.le_of_eq hg6)))
              replace HX6 := Lib.hid ht
              clear ht hg hHeld HB6
              refine hK.out _ _ HS (fun hHeld => ?_)
              clear hK K HS
              try simp only [Act.put, List.setIfInBounds_toArray, List.set_cons_zero, List.set_cons_succ]
              refine wpAnyW_freed (i := 13) (by kernel_rfl) (by kernel_rfl) (by simp only [List.getElem?_toArray, List.getElem?_cons_succ, List.getElem?_cons_zero]; rfl) (fun K hK => ?_)
              rw [if_pos (by rfl)]
              go_simp
              have HE6 := Lib.hid hHeld
              refine hK.out _ _ ?_
              clear hK K hHeld
              try simp only [Act.put, List.setIfInBounds_toArray, List.set_cons_zero, List.set_cons_succ]
              refine wpAnyW_done (by kernel_rfl) ?_ _
              refine NoPanic.normal ?_
              have HX5L := Lib.hid (HX5.out.later HE6.out)
              have HQL := Lib.hid (HQ.out.later (HE5.out.trans (HE6.out.mono HE5.out.size)))
              have HBL := Lib.hid (HBy5.out.trans (HE6.out.mono HBy5.out.size))
              have hsz6 := HE6.out.size
              go_wp2_with (first
                | ((with_reducible refine gate9 ?_); refine ldB (ty := 27) rfl rfl rfl HX5L.out Try.underlying27 rfl infoS ?_)
                | ((with_reducible refine gate9 ?_); refine stB (ty := 27) #[.int .u32 (c.toNat : Int), .slice A5 l.length k5] rfl rfl rfl rfl HQL.out infoS rfl (cellsS_one _ _ _ _) ?_; intro w30 ht hg; have HRX := Lib.hid ((HR5.out.below HE6.out).stays HF5.out hg (by omega)); have hsz30 := hg.size; have HB30 := Lib.hid (below_of_grown1 HBL.out hg HBL.out.size (by omega)); have HG30 := Lib.hid ht; clear ht hg))
              go_roundw
              case rel => exact ⟨j + 1, by omega, by go_num, Lib.hid ⟨s', A5, k5, HAI2.out, HG30.out, HRX.out, HB30.out, by omega⟩⟩
              case measure => simp [intOf]; omega
            · rw [if_pos (by rfl)]
              obtain ⟨v6, hv6, HX6, HB6, hs6⟩ := one_open y5.drew 27 #[.int .u32 0, .slice none 0 0]
              obtain ⟨g6, hg6⟩ : ∃ g, y5.drew.heap.size = g := ⟨_, rfl⟩
              rw [hg6] at HX6 hs6
              have HS : (fun V => Below y5.heap.size y5 V) _ := hHeld.trans (HB6.out.mono hHeld.size)
              have hz6 : y5.heap.size ≤ g6 := by have := hHeld.size; omega
              clear hHeld
              go_simp
              refine hK.out _ _ HS (fun hHeld => ?_)
              clear hK K HS
              try simp only [Act.put, List.setIfInBounds_toArray, List.set_cons_zero, List.set_cons_succ]
              refine wpAnyW_held (i := 7) (by kernel_rfl) (by simp only [List.getElem?_toArray, List.getElem?_cons_succ, List.getElem?_cons_zero]; rfl) (fun K hK => ?_)
              rw [if_pos (by rfl)]
              go_simp
              refine (HAG2.out _ _ (HR5.out.below hHeld)).mono ?_
              rintro _ u6 ⟨A6, k6, rfl, r9, f9, hb⟩
              have HS : (fun V => Below y5.heap.size y5 V) _ := hHeld.trans (hb.mono hHeld.size)
              have HR6 := Lib.hid r9
              have HF6 := Lib.hid (f9.less (show y5.heap.size ≤ _ from hHeld.size))
              have HG6 := Lib.hid f9
              replace HX6 := Lib.hid (HX6.out.later hb)
              clear hHeld hb r9 f9
              go_wp2_with fail
              refine hK.out _ _ HS (fun hHeld => ?_)
              clear hK K HS
              try simp only [Act.put, List.setIfInBounds_toArray, List.set_cons_zero, List.set_cons_succ]
              refine wpAnyW_take (i := 8) (v := ?_) (by simp only [List.getElem?_toArray, List.getElem?_cons_succ, List.getElem?_cons_zero]; rfl) (by kernel_rfl) (by kernel_rfl) (by kernel_rfl) (by kernel_rfl) (by kernel_rfl) (fun _ _ _ h => h) (Or.inl ⟨by rfl, ?_⟩) (by assumption) ?_
              rotate_left 1
              · (intro w' hSw; go_simp; try with_reducible rfl)
              try simp only [Act.put, List.setIfInBounds_toArray, List.set_cons_zero, List.set_cons_succ]
              refine wpAnyW_take (i := 9) (v := ?_) (by simp only [List.getElem?_toArray, List.getElem?_cons_succ, List.getElem?_cons_zero]; rfl) (by kernel_rfl) (by kernel_rfl) (by kernel_rfl) (by kernel_rfl) (by kernel_rfl) (fun _ _ _ h => h) (Or.inl ⟨by rfl, ?_⟩) (by assumption) ?_
              rotate_left 1
              · (intro w' hSw; go_simp; try with_reducible rfl)
              try simp only [Act.put, List.setIfInBounds_toArray, List.set_cons_zero, List.set_cons_succ]
              refine wpAnyW_take (i := 10) (v := ?_) (by simp only [List.getElem?_toArray, List.getElem?_cons_succ, List.getElem?_cons_zero]; rfl) (by kernel_rfl) (by kernel_rfl) (by kernel_rfl) (by kernel_rfl) (by kernel_rfl) (fun _ _ _ h => h) (Or.inl ⟨by rfl, ?_⟩) (by assumption) ?_
              rotate_left 1
              · (intro w' hSw; go_simp; try with_reducible rfl)
              try simp only [Act.put, List.setIfInBounds_toArray, List.set_cons_zero, List.set_cons_succ]
              refine wpAnyW_held (i := 12) (by kernel_rfl) (by simp only [List.getElem?_toArray, List.getElem?_cons_succ, List.getElem?_cons_zero]; rfl) (fun K hK => ?_)
              rw [if_pos (by rfl)]
              refine wpB (ty := 27) #[.int .u32 (c.toNat : Int), .slice A6 l.length k6] rfl rfl rfl HX6.out infoS rfl (cellsS_one _ _ _ _) ?_
              intro y6 ht hg
              have HS : (fun V => Below y5.heap.size y5 V) _ := below_of_grown1 hHeld hg hHeld.size hz6
              replace HR6 := Lib.hid (HR6.out.stays HG6.out hg (by omega))
              replace HX6 := Lib.hid ht
              clear ht hg hHeld HB6
              refine hK.out _ _ HS (fun hHeld => ?_)
              clear hK K HS
              try simp only [Act.put, List.setIfInBounds_toArray, List.set_cons_zero, List.set_cons_succ]
              refine wpAnyW_freed (i := 13) (by kernel_rfl) (by kernel_rfl) (by simp only [List.getElem?_toArray, List.getElem?_cons_succ, List.getElem?_cons_zero]; rfl) (fun K hK => ?_)
              rw [if_pos (by rfl)]
              go_simp
              have HE6 := Lib.hid hHeld
              refine hK.out _ _ ?_
              clear hK K hHeld
              try simp only [Act.put, List.setIfInBounds_toArray, List.set_cons_zero, List.set_cons_succ]
              refine wpAnyW_done (by kernel_rfl) ?_ _
              refine NoPanic.normal ?_
              have HX5L := Lib.hid (HX5.out.later HE6.out)
              have HQL := Lib.hid (HQ.out.later (HE5.out.trans (HE6.out.mono HE5.out.size)))
              have HBL := Lib.hid (HBy5.out.trans (HE6.out.mono HBy5.out.size))
              have hsz6 := HE6.out.size
              go_wp2_with (first
                | ((with_reducible refine gate9 ?_); refine ldB (ty := 27) rfl rfl rfl HX5L.out Try.underlying27 rfl infoS ?_)
                | ((with_reducible refine gate9 ?_); refine stB (ty := 27) #[.int .u32 (c.toNat : Int), .slice A5 l.length k5] rfl rfl rfl rfl HQL.out infoS rfl (cellsS_one _ _ _ _) ?_; intro w30 ht hg; have HRX := Lib.hid ((HR5.out.below HE6.out).stays HF5.out hg (by omega)); have hsz30 := hg.size; have HB30 := Lib.hid (below_of_grown1 HBL.out hg HBL.out.size (by omega)); have HG30 := Lib.hid ht; clear ht hg))
              go_roundw
              case rel => exact ⟨j + 1, by omega, by go_num, Lib.hid ⟨s', A5, k5, HAI2.out, HG30.out, HRX.out, HB30.out, by omega⟩⟩
              case measure => simp [intOf]; omega
        · have hjE : j = nd := by omega
          subst hjE
          obtain ⟨f1, f2, f3⟩ := HDN.out s HAI.out
          have hok := HAI.out.ok
          have HU5 := Lib.hid (fun V W h => HUX.out s hok to V W h)
          have HU6 := Lib.hid (fun V W h => HUX.out s hok (-1) V W h)
          have HL6 := Lib.hid (fun V W h => HLX.out s hok V W h)
          rw [f1, HX5E.out] at HU5
          rw [f2] at HU6
          rw [f3] at HL6
          have HAR := Lib.hid (HA3.out.later HBwr.out)
          have HVR : Hid (∀ V, Below wr.heap.size wr V → RowP V (.slice A l.length cap) l) := Lib.hid (fun V hV => HV.out.below (HB3.out.trans ((HBwr.out.trans (hV.mono HBwr.out.size)).mono HB3.out.size)))
          have HBR := Lib.hid (HB3.out.trans (HBwr.out.mono HB3.out.size))
          clear f1 f2 f3 hok
          go_wp2_with fail
          have HS : (fun V => Bx V g13 27 #[.int .u32 (c.toNat : Int), .slice Aq l.length kq] ∧ Bx V w.heap.size 27 #[.int .u32 (c.toNat : Int), .slice A l.length cap] ∧ Below wr.heap.size wr V) _ := ⟨HQ.out.drew, HAR.out.drew, below_drawn (Below.refl _ _)⟩
          refine wp_region_noPanic ?_
          refine wp_region_waits (S := (fun V => Bx V g13 27 #[.int .u32 (c.toNat : Int), .slice Aq l.length kq] ∧ Bx V w.heap.size 27 #[.int .u32 (c.toNat : Int), .slice A l.length cap] ∧ Below wr.heap.size wr V)) [] (by kernel_rfl) HS (fun hHeld => ?_)
          clear HS
          refine wpAnyW_take (i := 0) (v := _) (by simp only [List.getElem?_toArray, List.getElem?_cons_zero]; rfl) (by kernel_rfl) (by kernel_rfl) (by kernel_rfl) (by kernel_rfl) (by kernel_rfl) (fun _ _ _ h => h) (yB (ty := 27) (by rfl) rfl rfl (fun V h => h.1) Try.underlying27 rfl infoS) (by assumption) ?_
          try simp only [Act.put, List.setIfInBounds_toArray, List.set_cons_zero, List.set_cons_succ]
          refine wpAnyW_take (i := 1) (v := ?_) (by simp only [List.getElem?_toArray, List.getElem?_cons_succ, List.getElem?_cons_zero]; rfl) (by kernel_rfl) (by kernel_rfl) (by kernel_rfl) (by kernel_rfl) (by kernel_rfl) (fun _ _ _ h => h) (Or.inl ⟨by rfl, ?_⟩) (by assumption) ?_
          rotate_left 1
          · (intro w' hSw; go_simp; try with_reducible rfl)
          try simp only [Act.put, List.setIfInBounds_toArray, List.set_cons_zero, List.set_cons_succ]
          refine wpAnyW_take (i := 3) (v := ?_) (by simp only [List.getElem?_toArray, List.getElem?_cons_succ, List.getElem?_cons_zero]; rfl) (by kernel_rfl) (by kernel_rfl) (by kernel_rfl) (by kernel_rfl) (by kernel_rfl) (fun _ _ _ h => h) (Or.inl ⟨by rfl, ?_⟩) (by assumption) ?_
          rotate_left 1
          · (intro w' hSw; go_simp; try with_reducible rfl)
          try simp only [Act.put, List.setIfInBounds_toArray, List.set_cons_zero, List.set_cons_succ]
          refine wpAnyW_take (i := 4) (v := ?_) (by simp only [List.getElem?_toArray, List.getElem?_cons_succ, List.getElem?_cons_zero]; rfl) (by kernel_rfl) (by kernel_rfl) (by kernel_rfl) (by kernel_rfl) (by kernel_rfl) (fun _ _ _ h => h) (Or.inl ⟨by rfl, ?_⟩) (by assumption) ?_
          rotate_left 1
          · (intro w' hSw; go_simp; try with_reducible rfl)
          try simp only [Act.put, List.setIfInBounds_toArray, List.set_cons_zero, List.set_cons_succ]
          refine wpAnyW_take (i := 5) (v := ?_) (by simp only [List.getElem?_toArray, List.getElem?_cons_succ, List.getElem?_cons_zero]; rfl) (by kernel_rfl) (by kernel_rfl) (by kernel_rfl) (by kernel_rfl) (by kernel_rfl) (fun _ _ _ h => h) (Or.inl ⟨by rfl, ?_⟩) (by assumption) ?_
          rotate_left 1
          · (intro w' hSw; go_simp; try with_reducible rfl)
          try simp only [Act.put, List.setIfInBounds_toArray, List.set_cons_zero, List.set_cons_succ]
          refine wpAnyW_held (i := 2) (by kernel_rfl) (by simp only [List.getElem?_toArray, List.getElem?_cons_succ, List.getElem?_cons_zero]; rfl) (fun K hK => ?_)
          rw [if_pos (by rfl)]
          go_simp
          refine (HU5.out _ _ (HRS.out.below hHeld.2.2)).mono ?_
          rintro _ w9 ⟨rfl, hb⟩
          have HS : (fun V => Bx V g13 27 #[.int .u32 (c.toNat : Int), .slice Aq l.length kq] ∧ Bx V w.heap.size 27 #[.int .u32 (c.toNat : Int), .slice A l.length cap] ∧ Below wr.heap.size wr V) _ := ⟨hHeld.1.later hb, hHeld.2.1.later hb, hHeld.2.2.trans (hb.mono hHeld.2.2.size)⟩
          clear hHeld hb
          go_wp2_with fail
          refine hK.out _ _ HS (fun hHeld => ?_)
          clear hK K HS
          try simp only [Act.put, List.setIfInBounds_toArray, List.set_cons_zero, List.set_cons_succ]
          refine wpAnyW_take (i := 6) (v := ?_) (by simp only [List.getElem?_toArray, List.getElem?_cons_succ, List.getElem?_cons_zero]; rfl) (by kernel_rfl) (by kernel_rfl) (by kernel_rfl) (by kernel_rfl) (by kernel_rfl) (fun _ _ _ h => h) (Or.inl ⟨by rfl, ?_⟩) (by assumption) ?_
          rotate_left 1
          · (intro w' hSw; go_simp; try with_reducible rfl)
          try simp only [Act.put, List.setIfInBounds_toArray, List.set_cons_zero, List.set_cons_succ]
          refine wpAnyW_take (i := 7) (v := ?_) (by simp only [List.getElem?_toArray, List.getElem?_cons_succ, List.getElem?_cons_zero]; rfl) (by kernel_rfl) (by kernel_rfl) (by kernel_rfl) (by kernel_rfl) (by kernel_rfl) (fun _ _ _ h => h) (Or.inl ⟨by rfl, ?_⟩) (by assumption) ?_
          rotate_left 1
          · (intro w' hSw; go_simp; try with_reducible rfl)
          try simp only [Act.put, List.setIfInBounds_toArray, List.set_cons_zero, List.set_cons_succ]
          refine wpAnyW_take (i := 8) (v := _) (by simp only [List.getElem?_toArray, List.getElem?_cons_succ, List.getElem?_cons_zero]; rfl) (by kernel_rfl) (by kernel_rfl) (by kernel_rfl) (by kernel_rfl) (by kernel_rfl) (fun _ _ _ h => h) (yB (ty := 27) (by rfl) rfl rfl (fun V h => h.1) Try.underlying27 rfl infoS) (by assumption) ?_
          try simp only [Act.put, List.setIfInBounds_toArray, List.set_cons_zero, List.set_cons_succ]
          refine wpAnyW_take (i := 10) (v := _) (by simp only [List.getElem?_toArray, List.getElem?_cons_succ, List.getElem?_cons_zero]; rfl) (by kernel_rfl) (by kernel_rfl) (by kernel_rfl) (by kernel_rfl) (by kernel_rfl) (fun _ _ _ h => h) (yB (ty := 27) (by rfl) rfl rfl (fun V h => h.2.1) Try.underlying27 rfl infoS) (by assumption) ?_
          try simp only [Act.put, List.setIfInBounds_toArray, List.set_cons_zero, List.set_cons_succ]
          refine wpAnyW_held (i := 9) (by kernel_rfl) (by simp only [List.getElem?_toArray, List.getElem?_cons_succ, List.getElem?_cons_zero]; rfl) (fun K hK => ?_)
          rw [if_pos (by rfl)]
          go_simp
          refine (HU6.out _ _ (HRS.out.below hHeld.2.2)).mono ?_
          rintro _ w9 ⟨rfl, hb⟩
          have HS : (fun V => Bx V g13 27 #[.int .u32 (c.toNat : Int), .slice Aq l.length kq] ∧ Bx V w.heap.size 27 #[.int .u32 (c.toNat : Int), .slice A l.length cap] ∧ Below wr.heap.size wr V) _ := ⟨hHeld.1.later hb, hHeld.2.1.later hb, hHeld.2.2.trans (hb.mono hHeld.2.2.size)⟩
          clear hHeld hb
          go_wp2_with fail
          refine hK.out _ _ HS (fun hHeld => ?_)
          clear hK K HS
          try simp only [Act.put, List.setIfInBounds_toArray, List.set_cons_zero, List.set_cons_succ]
          refine wpAnyW_held (i := 11) (by kernel_rfl) (by simp only [List.getElem?_toArray, List.getElem?_cons_succ, List.getElem?_cons_zero]; rfl) (fun K hK => ?_)
          rw [if_pos (by rfl)]
          go_simp
          refine (HU3.out _ _ (HVR.out _ hHeld.2.2)).mono ?_
          rintro _ w9 ⟨rfl, hb⟩
          have HS : (fun V => Bx V g13 27 #[.int .u32 (c.toNat : Int), .slice Aq l.length kq] ∧ Bx V w.heap.size 27 #[.int .u32 (c.toNat : Int), .slice A l.length cap] ∧ Below wr.heap.size wr V) _ := ⟨hHeld.1.later hb, hHeld.2.1.later hb, hHeld.2.2.trans (hb.mono hHeld.2.2.size)⟩
          clear hHeld hb
          go_wp2_with fail
          refine hK.out _ _ HS (fun hHeld => ?_)
          clear hK K HS
          try simp only [Act.put, List.setIfInBounds_toArray, List.set_cons_zero, List.set_cons_succ]
          refine wpAnyW_take (i := 12) (v := ?_) (by simp only [List.getElem?_toArray, List.getElem?_cons_succ, List.getElem?_cons_zero]; rfl) (by kernel_rfl) (by kernel_rfl) (by kernel_rfl) (by kernel_rfl) (by kernel_rfl) (fun _ _ _ h => h) (Or.inl ⟨by rfl, ?_⟩) (by assumption) ?_
          rotate_left 1
          · (intro w' hSw; go_simp; try with_reducible rfl)
          try simp only [Act.put, List.setIfInBounds_toArray, List.set_cons_zero, List.set_cons_succ]
          refine wpAnyW_take (i := 13) (v := ?_) (by simp only [List.getElem?_toArray, List.getElem?_cons_succ, List.getElem?_cons_zero]; rfl) (by kernel_rfl) (by kernel_rfl) (by kernel_rfl) (by kernel_rfl) (by kernel_rfl) (fun _ _ _ h => h) (Or.inl ⟨by rfl, ?_⟩) (by assumption) ?_
          rotate_left 1
          · (intro w' hSw; go_simp; try with_reducible rfl)
          try simp only [Act.put, List.setIfInBounds_toArray, List.set_cons_zero, List.set_cons_succ]
          refine wpAnyW_take (i := 14) (v := ?_) (by simp only [List.getElem?_toArray, List.getElem?_cons_succ, List.getElem?_cons_zero]; rfl) (by kernel_rfl) (by kernel_rfl) (by kernel_rfl) (by kernel_rfl) (by kernel_rfl) (fun _ _ _ h => h) (Or.inl ⟨by rfl, ?_⟩) (by assumption) ?_
          rotate_left 1
          · (intro w' hSw; go_simp; try with_reducible rfl)
          try simp only [Act.put, List.setIfInBounds_toArray, List.set_cons_zero, List.set_cons_succ]
          refine wpAnyW_take (i := 15) (v := _) (by simp only [List.getElem?_toArray, List.getElem?_cons_succ, List.getElem?_cons_zero]; rfl) (by kernel_rfl) (by kernel_rfl) (by kernel_rfl) (by kernel_rfl) (by kernel_rfl) (fun _ _ _ h => h) (yB (ty := 27) (by rfl) rfl rfl (fun V h => h.1) Try.underlying27 rfl infoS) (by assumption) ?_
          try simp only [Act.put, List.setIfInBounds_toArray, List.set_cons_zero, List.set_cons_succ]
          refine wpAnyW_take (i := 18) (v := ?_) (by simp only [List.getElem?_toArray, List.getElem?_cons_succ, List.getElem?_cons_zero]; rfl) (by kernel_rfl) (by kernel_rfl) (by kernel_rfl) (by kernel_rfl) (by kernel_rfl) (fun _ _ _ h => h) (Or.inl ⟨by rfl, ?_⟩) (by assumption) ?_
          rotate_left 1
          · (intro w' hSw; go_simp; try with_reducible rfl)
          try simp only [Act.put, List.setIfInBounds_toArray, List.set_cons_zero, List.set_cons_succ]
          refine wpAnyW_held (i := 16) (by kernel_rfl) (by simp only [List.getElem?_toArray, List.getElem?_cons_succ, List.getElem?_cons_zero]; rfl) (fun K hK => ?_)
          rw [if_pos (by rfl)]
          go_simp
          refine (HL6.out _ _ (HRS.out.below hHeld.2.2)).mono ?_
          rintro _ w9 ⟨A9, k9, rfl, -, hb⟩
          have HS : (fun V => Bx V g13 27 #[.int .u32 (c.toNat : Int), .slice Aq l.length kq] ∧ Bx V w.heap.size 27 #[.int .u32 (c.toNat : Int), .slice A l.length cap] ∧ Below wr.heap.size wr V) _ := ⟨hHeld.1.later hb, hHeld.2.1.later hb, hHeld.2.2.trans (hb.mono hHeld.2.2.size)⟩
          clear hHeld hb
          go_wp2_with fail
          refine hK.out _ _ HS (fun hHeld => ?_)
          clear hK K HS
          try simp only [Act.put, List.setIfInBounds_toArray, List.set_cons_zero, List.set_cons_succ]
          refine wpAnyW_take (i := 17) (v := ?_) (by simp only [List.getElem?_toArray, List.getElem?_cons_succ, List.getElem?_cons_zero]; rfl) (by kernel_rfl) (by kernel_rfl) (by kernel_rfl) (by kernel_rfl) (by kernel_rfl) (fun _ _ _ h => h) (Or.inl ⟨by rfl, ?_⟩) (by assumption) ?_
          rotate_left 1
          · (intro w' hSw; go_simp; try with_reducible rfl)
          try simp only [Act.put, List.setIfInBounds_toArray, List.set_cons_zero, List.set_cons_succ]
          refine wpAnyW_take (i := 19) (v := ?_) (by simp only [List.getElem?_toArray, List.getElem?_cons_succ, List.getElem?_cons_zero]; rfl) (by kernel_rfl) (by kernel_rfl) (by kernel_rfl) (by kernel_rfl) (by kernel_rfl) (fun _ _ _ h => h) (Or.inl ⟨by rfl, ?_⟩) (by assumption) ?_
          rotate_left 1
          · (intro w' hSw; go_simp; try with_reducible rfl)
          try simp only [Act.put, List.setIfInBounds_toArray, List.set_cons_zero, List.set_cons_succ]
          refine wpAnyW_take (i := 20) (v := ?_) (by simp only [List.getElem?_toArray, List.getElem?_cons_succ, List.getElem?_cons_zero]; rfl) (by kernel_rfl) (by kernel_rfl) (by kernel_rfl) (by kernel_rfl) (by kernel_rfl) (fun _ _ _ h => h) (Or.inl ⟨by rfl, ?_⟩) (by assumption) ?_
          rotate_left 1
          · (intro w' hSw; go_simp; try with_reducible rfl)
          try simp only [Act.put, List.setIfInBounds_toArray, List.set_cons_zero, List.set_cons_succ]
          refine wpAnyW_take (i := 21) (v := ?_) (by simp only [List.getElem?_toArray, List.getElem?_cons_succ, List.getElem?_cons_zero]; rfl) (by kernel_rfl) (by kernel_rfl) (by kernel_rfl) (by kernel_rfl) (by kernel_rfl) (fun _ _ _ h => h) (Or.inl ⟨by rfl, ?_⟩) (by assumption) ?_
          rotate_left 1
          · (intro w' hSw; go_simp; try with_reducible rfl)
          try simp only [Act.put, List.setIfInBounds_toArray, List.set_cons_zero, List.set_cons_succ]
          refine wpAnyW_take (i := 22) (v := _) (by simp only [List.getElem?_toArray, List.getElem?_cons_succ, List.getElem?_cons_zero]; rfl) (by kernel_rfl) (by kernel_rfl) (by kernel_rfl) (by kernel_rfl) (by kernel_rfl) (fun _ _ _ h => h) (yB (ty := 27) (by rfl) rfl rfl (fun V h => h.1) Try.underlying27 rfl infoS) (by assumption) ?_
          try simp only [Act.put, List.setIfInBounds_toArray, List.set_cons_zero, List.set_cons_succ]
          refine wpAnyW_take (i := 24) (v := _) (by simp only [List.getElem?_toArray, List.getElem?_cons_succ, List.getElem?_cons_zero]; rfl) (by kernel_rfl) (by kernel_rfl) (by kernel_rfl) (by kernel_rfl) (by kernel_rfl) (fun _ _ _ h => h) (yB (ty := 27) (by rfl) rfl rfl (fun V h => h.2.1) Try.underlying27 rfl infoS) (by assumption) ?_
          try simp only [Act.put, List.setIfInBounds_toArray, List.set_cons_zero, List.set_cons_succ]
          refine wpAnyW_held (i := 23) (by kernel_rfl) (by simp only [List.getElem?_toArray, List.getElem?_cons_succ, List.getElem?_cons_zero]; rfl) (fun K hK => ?_)
          rw [if_pos (by rfl)]
          go_simp
          refine (HNX.out _ _ _).mono ?_
          rintro _ w9 ⟨rfl, hb⟩
          have HS : (fun V => Bx V g13 27 #[.int .u32 (c.toNat : Int), .slice Aq l.length kq] ∧ Bx V w.heap.size 27 #[.int .u32 (c.toNat : Int), .slice A l.length cap] ∧ Below wr.heap.size wr V) _ := ⟨hHeld.1.later hb, hHeld.2.1.later hb, hHeld.2.2.trans (hb.mono hHeld.2.2.size)⟩
          clear hHeld hb
          go_wp2_with fail
          refine hK.out _ _ HS (fun hHeld => ?_)
          clear hK K HS
          try simp only [Act.put, List.setIfInBounds_toArray, List.set_cons_zero, List.set_cons_succ]
          refine wpAnyW_held (i := 25) (by kernel_rfl) (by simp only [List.getElem?_toArray, List.getElem?_cons_succ, List.getElem?_cons_zero]; rfl) (fun K hK => ?_)
          rw [if_pos (by rfl)]
          go_simp
          refine (HNX.out _ _ _).mono ?_
          rintro _ w9 ⟨rfl, hb⟩
          have HS : (fun V => Bx V g13 27 #[.int .u32 (c.toNat : Int), .slice Aq l.length kq] ∧ Bx V w.heap.size 27 #[.int .u32 (c.toNat : Int), .slice A l.length cap] ∧ Below wr.heap.size wr V) _ := ⟨hHeld.1.later hb, hHeld.2.1.later hb, hHeld.2.2.trans (hb.mono hHeld.2.2.size)⟩
          clear hHeld hb
          go_wp2_with fail
          refine hK.out _ _ HS (fun hHeld => ?_)
          clear hK K HS
          try simp only [Act.put, List.setIfInBounds_toArray, List.set_cons_zero, List.set_cons_succ]
          refine wpAnyW_take (i := 26) (v := ?_) (by simp only [List.getElem?_toArray, List.getElem?_cons_succ, List.getElem?_cons_zero]; rfl) (by kernel_rfl) (by kernel_rfl) (by kernel_rfl) (by kernel_rfl) (by kernel_rfl) (fun _ _ _ h => h) (Or.inl ⟨by rfl, ?_⟩) (by assumption) ?_
          rotate_left 1
          · (intro w' hSw; go_simp; try with_reducible rfl)
          try simp only [Act.put, List.setIfInBounds_toArray, List.set_cons_zero, List.set_cons_succ]
          refine wpAnyW_take (i := 27) (v := ?_) (by simp only [List.getElem?_toArray, List.getElem?_cons_succ, List.getElem?_cons_zero]; rfl) (by kernel_rfl) (by kernel_rfl) (by kernel_rfl) (by kernel_rfl) (by kernel_rfl) (fun _ _ _ h => h) (Or.inl ⟨by rfl, ?_⟩) (by assumption) ?_
          rotate_left 1
          · (intro w' hSw; go_simp; try with_reducible rfl)
          try simp only [Act.put, List.setIfInBounds_toArray, List.set_cons_zero, List.set_cons_succ]
          refine wpAnyW_take (i := 28) (v := ?_) (by simp only [List.getElem?_toArray, List.getElem?_cons_succ, List.getElem?_cons_zero]; rfl) (by kernel_rfl) (by kernel_rfl) (by kernel_rfl) (by kernel_rfl) (by kernel_rfl) (fun _ _ _ h => h) (Or.inl ⟨by rfl, ?_⟩) (by assumption) ?_
          rotate_left 1
          · (intro w' hSw; go_simp; try with_reducible rfl)
          try simp only [Act.put, List.setIfInBounds_toArray, List.set_cons_zero, List.set_cons_succ]
          have HE := Lib.hid hHeld.2.2
          clear hHeld
          refine wpAnyW_done (by kernel_rfl) ?_ _
          refine NoPanic.normal ?_
          go_wp2_with fail
          go_ret
          exact ⟨rfl, HBR.out.trans (HE.out.mono HBR.out.size)⟩
  · have HRI := Lib.hid (fun v W h => right_any c l hlen false ⟨fun e => (by cases e), fun e => absurd e hOK⟩ v W h)
    clear hOK
    go_enter Try.func5, Try.ntmps5
    go_wp2_with (first
      | (go_at_call 7; (with_reducible refine (HSH.out _).mono ?_); rintro e w1 ⟨rfl, hb⟩; replace HA := Lib.hid (HA.out.later hb); replace HB := Lib.hid (HB.out.trans (hb.mono HB.out.size)); clear hb)
      | ((with_reducible refine gate9 ?_); refine ldB (ty := 27) (cs := #[.int .u32 (c.toNat : Int), .slice A l.length cap]) rfl rfl rfl HA.out Try.underlying27 rfl infoS ?_)
      | (go_at_call 17; (with_reducible refine (HAS.out _ (HV.out.below HB.out)).mono ?_); rintro e w2 ⟨A2, k2, rfl, hr, hb⟩; have HR2 := Lib.hid hr; replace HA := Lib.hid (HA.out.later hb); replace HB := Lib.hid (HB.out.trans (hb.mono HB.out.size)); clear hr hb)
      | (go_at_call 16; (with_reducible refine (HRI.out _ _ HR2.out).mono ?_); rintro e w3 ⟨rfl, hb⟩; replace HA := Lib.hid (HA.out.later hb); replace HB := Lib.hid (HB.out.trans (hb.mono HB.out.size)); clear hb))
    go_ret
    exact ⟨rfl, HB.out⟩

set_option maxRecDepth 100000 in
theorem lifted (os : Os) (started : os.Started) (H : Type) (enc : TypeId × Value → H) :
    ReturnsInHanded {} Try.checked os 5 .any (Rows.sentLossesSpec.pre6 enc Try.prog Try.f5 Rows.sentLossesRow.domain false) (Rows.sentLossesSpec.post enc Try.prog Try.f5 false true false false) := by
  refine returnsInHanded_of_change_sized (C := Try.checked) own started (by kernel_rfl) Try.func5
    (ChangeSpec.witness6 (enc := enc) (C := Try.checked) false ⟨#[], #[.agg #[.int .u32 0, .slice none 0 0], .int .i64 0, .int .i64 0, .int .i64 0], []⟩ 8 (by kernel_rfl) (by kernel_rfl) (by kernel_rfl) (by kernel_rfl)) ?_
  intro W base args ds gs before hval0 hW _ hreach _
  have hval : ∀ (j : Nat) t v, Try.f5.params[j]? = some t → args[j]? = some v → Value.okWide Try.prog W .any base t v := hval0
  obtain ⟨p, q, hA0, _, _, _, _⟩ := id hW
  have hA : DataW.TrodAll enc Try.prog W 0 (fun _ => true) true Try.f5.params.toList args.toList ds p := hA0
  rw [Try.params5] at hA hval
  obtain ⟨v0, vs0, d0, ds0, p0, q0, hargs, rfl, rfl, h0, r0⟩ := trodAll_cons hA
  obtain ⟨v1, vs1, d1, ds1, p1, q1, rfl, rfl, rfl, h1, r1⟩ := trodAll_cons r0
  obtain ⟨v2, vs2, d2, ds2, p2, q2, rfl, rfl, rfl, h2, r2⟩ := trodAll_cons r1
  obtain ⟨v3, vs3, d3, ds3, p3, q3, rfl, rfl, rfl, h3, r3⟩ := trodAll_cons r2
  obtain ⟨rfl, rfl, rfl⟩ := trodAll_nil r3
  obtain rfl : args = #[v0, v1, v2, v3] := by cases args; simp_all
  obtain ⟨c0, V0, l0, rfl, ro0, wf0, rb0⟩ := sent_in (hval 0 27 v0 rfl rfl) h0
  have sz0 := rb0 (fun n hn => by simpa using List.all_eq_true.1 hreach n (DataW.weights_mem_each (j := 0) (t := 27) (by kernel_rfl) rfl n hn))
  obtain ⟨a1, rfl, rfl, rfl, w1⟩ := open_int Try.underlying3 (hval 1 3 v1 rfl rfl) h1
  obtain ⟨a2, rfl, rfl, rfl, w2⟩ := open_int Try.underlying3 (hval 2 3 v2 rfl rfl) h2
  obtain ⟨a3, rfl, rfl, rfl, w3⟩ := open_int Try.underlying3 (hval 3 3 v3 rfl rfl) h3
  refine (walk c0 l0 V0 a1 a2 a3 sz0 W ro0).mono fun e W' ⟨he, hg⟩ => ?_
  subst he
  exact ⟨_, rfl, law_post laidOut Try.underlying4 (by kernel_rfl) (by kernel_rfl) rfl hW (by simp [Rows.sentLossesSpec]) hg⟩

theorem proved : Rows.SentLossesSaid :=
  OpenClaim.holds_of_wide 5 Try.f5 rfl rfl rfl rfl rfl rfl rfl ⟨rfl, rfl, rfl, rfl, rfl⟩ rfl rfl rfl rfl rfl (by kernel_rfl) Try.func5 (by kernel_rfl)
    (of_decide_eq_true (by kernel_rfl)) (by unfold Func.isWrapper; first | (rw [if_pos (by decide +kernel)]; kernel_rfl) | (rw [if_neg (by decide +kernel)]; exact ⟨rfl, rfl⟩))
    (fun os started H enc _ => lifted os started H enc)
#print axioms proved
end Go.Proofs.Ytghgbfdofbnegaa.sentLosses
