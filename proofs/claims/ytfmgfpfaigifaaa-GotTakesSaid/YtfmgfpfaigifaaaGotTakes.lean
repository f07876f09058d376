/-
  What is when a number comes, whether it is fresh, and whether it came: any right got, any number.
-/
import Derived.Test.YtfmgfpfaigifaaaLift
import Derived.Test.YtfmgfpfaigifaaaArgs
import Derived.Test.YtfmgfpfaigifaaaGl
namespace Go.Proofs.Ytfmgfpfaigifaaa.gotTakes
open Go.ChangeShapes Go.WideShapes Go.ChangeAt Go.RowKit
set_option linter.unusedVariables false
set_option linter.unusedSimpArgs false

set_option maxHeartbeats 4000000 in
set_option maxRecDepth 100000 in
theorem walk (c : UInt32) (ab du : List UInt32) (va vd : Value) (n : UInt32) (w : World) (h1 : RowE enc32 w va ab) (h2 : RowE enc32 w vd du) : Calls Try.prog 3 #[.agg #[.int .u32 (c.toNat : Int), va, vd], .int .u32 (n.toNat : Int)] w fun e w' => e = .returned (.bool true) ∧ Below w.heap.size w w' := by
  have HSH := Lib.hid (fun W => shown_any W)
  have hcl := c.toNat_lt
  obtain ⟨A, k, rfl, hk1, hk2, -⟩ := id h1
  obtain ⟨A', k', rfl, hk3, hk4, -⟩ := id h2
  have hma : ab.length ≤ maxLen := by omega
  have hmd : du.length ≤ maxLen := by omega
  have hmI : (ab.length : Int) ≤ 9223372036854775807 := by unfold maxLen at hma; omega
  have HBX := Bx.fresh w 25 #[.int .u32 (c.toNat : Int), .slice A ab.length k, .slice A' du.length k']
  have HB := Lib.hid ((Below.refl w.heap.size w).alloc (Nat.le_refl _) (.cells #[.int .u32 (c.toNat : Int), .slice A ab.length k, .slice A' du.length k'] 25))
  have HK : Hid (AllG [⟨25, w.heap.size, c, ab, du, .slice A ab.length k, .slice A' du.length k'⟩] (w.alloc (.cells #[.int .u32 (c.toNat : Int), .slice A ab.length k, .slice A' du.length k'] 25))) := Lib.hid (fun x hx => by rw [List.mem_singleton.1 hx]; exact ⟨HBX, h1.below HB.out, h2.below HB.out⟩)
  clear h1 h2 HBX hk1 hk2 hk3 hk4
  by_cases hr : RightG ⟨c, ab, du⟩
  · have HRT := Lib.hid (fun va vd W h h' => right_yes c ab du hma hmd va vd W h h' hr)
    by_cases h60 : ab.length ≤ 60
    · have q60 : ¬ (60 : Int) < (ab.length : Int) := by omega
      have hdd := hr.dups
      have hd6 : du.length ≤ 1000000 := by have := hr.dups; dsimp only at this; omega
      have ha6 : ab.length ≤ 1000000 := by omega
      have HTK := Lib.hid (fun va vd W h h' => take_any c ab du ha6 hd6 va vd W h h' n hr)
      have HRK := Lib.hid (fun va vd W h h' => rtake_any c ab du ha6 hd6 va vd W h h' n hr (by omega))
      have HHS := Lib.hid (fun va vd W h h' => has_any c ab du ha6 hd6 va vd W h h' n)
      have HRH := Lib.hid (fun va vd W h h' => rhas_any c ab du ha6 hd6 va vd W h h' n)
      have hlr : (takeG ⟨c, ab, du⟩ n).1.ab.length ≤ 1000000 ∧ (takeG ⟨c, ab, du⟩ n).1.du.length ≤ 1000000 := take_small n hr (by show ab.length ≤ 900000; omega)
      generalize takeG ⟨c, ab, du⟩ n = RR at *
      obtain ⟨⟨cR, aR, dR⟩, bR⟩ := RR
      obtain ⟨hl1, hl2⟩ := hlr
      have hcR := cR.toNat_lt
      have HSM := Lib.hid (fun va vd va2 vd2 W h1 h2 h3 h4 => same_any cR aR dR hl1 hl2 va vd va2 vd2 W h1 h2 h3 h4)
      generalize hasB ⟨c, ab, du⟩ n = hB at *
      have HNW := Lib.hid (fun W => new_any n W)
      have HRN := Lib.hid (fun W => rnew_any n W)
      generalize n - 1 = y at *
      have hy := y.toNat_lt
      have HSY := Lib.hid (fun va vd va2 vd2 W h1 h2 h3 h4 => same_any y [] [] (by decide) (by decide) va vd va2 vd2 W h1 h2 h3 h4)
      clear hr hdd
      go_enter Try.func3, Try.ntmps3
      go_wp2_with (first
    | (go_at_call 10; (with_reducible refine (HSH.out _).mono ?_); rintro e w1 ⟨rfl, hb⟩; replace HK := Lib.hid (HK.out.later hb); replace HB := Lib.hid (HB.out.trans (hb.mono HB.out.size)); clear hb; have c0 := ((show Bx _ (w.heap.size) 25 #[.int .u32 (c.toNat : Int), .slice A ab.length k, .slice A' du.length k'] from (AllG.nth HK.out 0 rfl).1)).cell 0 (.int .u32 (c.toNat : Int)) rfl; have c1 := ((show Bx _ (w.heap.size) 25 #[.int .u32 (c.toNat : Int), .slice A ab.length k, .slice A' du.length k'] from (AllG.nth HK.out 0 rfl).1)).cell 1 (.slice A ab.length k) rfl; have c2 := ((show Bx _ (w.heap.size) 25 #[.int .u32 (c.toNat : Int), .slice A ab.length k, .slice A' du.length k'] from (AllG.nth HK.out 0 rfl).1)).cell 2 (.slice A' du.length k') rfl)
    | ((with_reducible refine gate9 ?_); refine ldB (ty := 25) rfl rfl rfl (show Bx _ (w.heap.size) 25 #[.int .u32 (c.toNat : Int), .slice A ab.length k, .slice A' du.length k'] from (AllG.nth HK.out 0 rfl).1) Try.underlying25 rfl infoG ?_)
    | (go_at_call 12; (with_reducible refine (as_any c.toNat hcl A A' _ k _ k' _).mono ?_); rintro e w1 ⟨rfl, hb⟩; replace HK := Lib.hid (HK.out.later hb); replace HB := Lib.hid (HB.out.trans (hb.mono HB.out.size)); clear hb)
    | (go_at_call 11; have hr9 := (show RowE enc32 _ (.slice A ab.length k) ab from (AllG.nth HK.out 0 rfl).2.1); have hd9 := (show RowE enc32 _ (.slice A' du.length k') du from (AllG.nth HK.out 0 rfl).2.2); (with_reducible refine (HRT.out _ _ _ hr9 hd9).mono ?_); clear hr9 hd9; rintro e w1 ⟨rfl, hb⟩; replace HK := Lib.hid (HK.out.later hb); replace HB := Lib.hid (HB.out.trans (hb.mono HB.out.size)); clear hb; have c0 := ((show Bx _ (w.heap.size) 25 #[.int .u32 (c.toNat : Int), .slice A ab.length k, .slice A' du.length k'] from (AllG.nth HK.out 0 rfl).1)).cell 0 (.int .u32 (c.toNat : Int)) rfl; have c1 := ((show Bx _ (w.heap.size) 25 #[.int .u32 (c.toNat : Int), .slice A ab.length k, .slice A' du.length k'] from (AllG.nth HK.out 0 rfl).1)).cell 1 (.slice A ab.length k) rfl; have c2 := ((show Bx _ (w.heap.size) 25 #[.int .u32 (c.toNat : Int), .slice A ab.length k, .slice A' du.length k'] from (AllG.nth HK.out 0 rfl).1)).cell 2 (.slice A' du.length k') rfl))
      have hr9 := (show RowE enc32 _ (.slice A ab.length k) ab from (AllG.nth HK.out 0 rfl).2.1)
      have hd9 := (show RowE enc32 _ (.slice A' du.length k') du from (AllG.nth HK.out 0 rfl).2.2)
      refine (HTK.out _ _ _ hr9 hd9).mono ?_
      rintro e w1 ⟨va9, vd9, rfl, hra, hrd, -, -, hb⟩
      clear hr9 hd9
      obtain ⟨A5, k5, rfl, -, -, -⟩ := id hra
      obtain ⟨A6, k6, rfl, -, -, -⟩ := id hrd
      replace HK := Lib.hid (HK.out.later hb)
      replace HB := Lib.hid (HB.out.trans (hb.mono HB.out.size))
      have HRX := Lib.hid (And.intro hra hrd)
      clear hra hrd hb c0 c1 c2
      obtain ⟨W2, hW2, HQ9, HB2, hs2⟩ := one_open w1 25 #[.int .u32 0, .slice none 0 0, .slice none 0 0]
      obtain ⟨g1, hg1⟩ : ∃ g, w1.heap.size = g := ⟨_, rfl⟩
      rw [hg1] at HQ9
      go_wp2_with (first
    | ((with_reducible refine gate9 ?_); refine stB (ty := 25) #[.int .u32 (cR.toNat : Int), .slice A5 aR.length k5, .slice A6 dR.length k6] rfl rfl rfl rfl HQ9.out infoG rfl (cellsG_one _ _ _ _ _ _ _) ?_; intro w3 ht hg; replace HB2 := Lib.hid (below_of_grown1 HB2.out hg HB2.out.size (Nat.le_of_eq hg1)); replace HK : Hid (AllG [⟨25, w.heap.size, c, ab, du, .slice A ab.length k, .slice A' du.length k'⟩, ⟨25, g1, cR, aR, dR, .slice A5 aR.length k5, .slice A6 dR.length k6⟩] w3) := Lib.hid ((HK.out.later HB2.out).snoc (x := ⟨25, g1, cR, aR, dR, .slice A5 aR.length k5, .slice A6 dR.length k6⟩) ⟨ht, HRX.out.1.below HB2.out, HRX.out.2.below HB2.out⟩); replace HB := Lib.hid (HB.out.trans (HB2.out.mono HB.out.size)); clear ht hg HB2 HRX HQ9; have c0 := ((show Bx _ (w.heap.size) 25 #[.int .u32 (c.toNat : Int), .slice A ab.length k, .slice A' du.length k'] from (AllG.nth HK.out 0 rfl).1)).cell 0 (.int .u32 (c.toNat : Int)) rfl; have c1 := ((show Bx _ (w.heap.size) 25 #[.int .u32 (c.toNat : Int), .slice A ab.length k, .slice A' du.length k'] from (AllG.nth HK.out 0 rfl).1)).cell 1 (.slice A ab.length k) rfl; have c2 := ((show Bx _ (w.heap.size) 25 #[.int .u32 (c.toNat : Int), .slice A ab.length k, .slice A' du.length k'] from (AllG.nth HK.out 0 rfl).1)).cell 2 (.slice A' du.length k') rfl)
    | ((with_reducible refine gate9 ?_); refine ldB (ty := 25) rfl rfl rfl (show Bx _ (w.heap.size) 25 #[.int .u32 (c.toNat : Int), .slice A ab.length k, .slice A' du.length k'] from (AllG.nth HK.out 0 rfl).1) Try.underlying25 rfl infoG ?_)
    | (go_at_call 12; (with_reducible refine (as_any c.toNat hcl A A' _ k _ k' _).mono ?_); rintro e w1 ⟨rfl, hb⟩; replace HK := Lib.hid (HK.out.later hb); replace HB := Lib.hid (HB.out.trans (hb.mono HB.out.size)); clear hb))
      have hr9 := (show RowE enc32 _ (.slice A ab.length k) ab from (AllG.nth HK.out 0 rfl).2.1)
      have hd9 := (show RowE enc32 _ (.slice A' du.length k') du from (AllG.nth HK.out 0 rfl).2.2)
      refine (HRK.out _ _ _ hr9 hd9).mono ?_
      rintro e w1 ⟨va9, vd9, rfl, hra, hrd, hb⟩
      clear hr9 hd9
      obtain ⟨A7, k7, rfl, -, -, -⟩ := id hra
      obtain ⟨A8, k8, rfl, -, -, -⟩ := id hrd
      replace HK := Lib.hid (HK.out.later hb)
      replace HB := Lib.hid (HB.out.trans (hb.mono HB.out.size))
      have HRX := Lib.hid (And.intro hra hrd)
      clear hra hrd hb c0 c1 c2
      obtain ⟨W2, hW2, HQ9, HB2, hs2⟩ := one_open w1 28 #[.int .u32 0, .slice none 0 0, .slice none 0 0]
      obtain ⟨g2, hg2⟩ : ∃ g, w1.heap.size = g := ⟨_, rfl⟩
      rw [hg2] at HQ9
      go_wp2_with (first
    | ((with_reducible refine gate9 ?_); refine stB (ty := 28) #[.int .u32 (cR.toNat : Int), .slice A7 aR.length k7, .slice A8 dR.length k8] rfl rfl rfl rfl HQ9.out infoR rfl (cellsG_one _ _ _ _ _ _ _) ?_; intro w3 ht hg; replace HB2 := Lib.hid (below_of_grown1 HB2.out hg HB2.out.size (Nat.le_of_eq hg2)); replace HK : Hid (AllG [⟨25, w.heap.size, c, ab, du, .slice A ab.length k, .slice A' du.length k'⟩, ⟨25, g1, cR, aR, dR, .slice A5 aR.length k5, .slice A6 dR.length k6⟩, ⟨28, g2, cR, aR, dR, .slice A7 aR.length k7, .slice A8 dR.length k8⟩] w3) := Lib.hid ((HK.out.later HB2.out).snoc (x := ⟨28, g2, cR, aR, dR, .slice A7 aR.length k7, .slice A8 dR.length k8⟩) ⟨ht, HRX.out.1.below HB2.out, HRX.out.2.below HB2.out⟩); replace HB := Lib.hid (HB.out.trans (HB2.out.mono HB.out.size)); clear ht hg HB2 HRX HQ9; have c0 := ((show Bx _ (w.heap.size) 25 #[.int .u32 (c.toNat : Int), .slice A ab.length k, .slice A' du.length k'] from (AllG.nth HK.out 0 rfl).1)).cell 0 (.int .u32 (c.toNat : Int)) rfl; have c1 := ((show Bx _ (w.heap.size) 25 #[.int .u32 (c.toNat : Int), .slice A ab.length k, .slice A' du.length k'] from (AllG.nth HK.out 0 rfl).1)).cell 1 (.slice A ab.length k) rfl; have c2 := ((show Bx _ (w.heap.size) 25 #[.int .u32 (c.toNat : Int), .slice A ab.length k, .slice A' du.length k'] from (AllG.nth HK.out 0 rfl).1)).cell 2 (.slice A' du.length k') rfl))
      refine wp_region_noPanic ?_
      have HS := Lib.hid HK.out.drew
      replace HB := Lib.hid (below_drawn HB.out)
      clear HK c0 c1 c2
      refine wp_region_waits (S := fun V => AllG [⟨25, w.heap.size, c, ab, du, .slice A ab.length k, .slice A' du.length k'⟩, ⟨25, g1, cR, aR, dR, .slice A5 aR.length k5, .slice A6 dR.length k6⟩, ⟨28, g2, cR, aR, dR, .slice A7 aR.length k7, .slice A8 dR.length k8⟩] V) [27] (by kernel_rfl) HS.out (fun hHeld => ?_)
      refine wpAnyW_take (i := 0) (v := _) (by simp only [List.getElem?_toArray, List.getElem?_cons_zero]; rfl) (by kernel_rfl) (by kernel_rfl) (by kernel_rfl) (by kernel_rfl) (by kernel_rfl) (fun _ _ _ h => h) (yB (ty := 25) (by rfl) rfl rfl (fun V h => (show Bx V (g1) 25 #[.int .u32 (cR.toNat : Int), .slice A5 aR.length k5, .slice A6 dR.length k6] from (AllG.nth h 1 rfl).1)) Try.underlying25 rfl infoG) (by assumption) ?_
      try simp only [Act.put, List.setIfInBounds_toArray, List.set_cons_zero, List.set_cons_succ]
      refine wpAnyW_take (i := 2) (v := _) (by simp only [List.getElem?_toArray, List.getElem?_cons_succ, List.getElem?_cons_zero]; rfl) (by kernel_rfl) (by kernel_rfl) (by kernel_rfl) (by kernel_rfl) (by kernel_rfl) (fun _ _ _ h => h) (yB (ty := 28) (by rfl) rfl rfl (fun V h => (show Bx V (g2) 28 #[.int .u32 (cR.toNat : Int), .slice A7 aR.length k7, .slice A8 dR.length k8] from (AllG.nth h 2 rfl).1)) Try.underlying28 rfl infoR) (by assumption) ?_
      try simp only [Act.put, List.setIfInBounds_toArray, List.set_cons_zero, List.set_cons_succ]
      refine wpAnyW_held (i := 1) (by kernel_rfl) (by simp only [List.getElem?_toArray, List.getElem?_cons_succ, List.getElem?_cons_zero]; rfl) (fun K hK => ?_)
      rw [if_pos (by rfl)]
      go_simp
      refine (as_any cR.toNat hcR _ _ _ _ _ _ _).mono ?_
      rintro _ w7 ⟨rfl, hb⟩
      clear hHeld
      replace HS := Lib.hid (HS.out.later hb)
      replace HB := Lib.hid (HB.out.trans (hb.mono HB.out.size))
      clear hb
      go_wp2_with fail
      refine hK.out _ _ HS.out (fun hHeld => ?_)
      clear hK K
      try simp only [Act.put, List.setIfInBounds_toArray, List.set_cons_zero, List.set_cons_succ]
      refine wpAnyW_held (i := 3) (by kernel_rfl) (by simp only [List.getElem?_toArray, List.getElem?_cons_succ, List.getElem?_cons_zero]; rfl) (fun K hK => ?_)
      rw [if_pos (by rfl)]
      go_simp
      refine (HSM.out _ _ _ _ _ (show RowE enc32 _ (.slice A5 aR.length k5) aR from (AllG.nth HS.out 1 rfl).2.1) (show RowE enc32 _ (.slice A6 dR.length k6) dR from (AllG.nth HS.out 1 rfl).2.2) (show RowE enc32 _ (.slice A7 aR.length k7) aR from (AllG.nth HS.out 2 rfl).2.1) (show RowE enc32 _ (.slice A8 dR.length k8) dR from (AllG.nth HS.out 2 rfl).2.2)).mono ?_
      rintro _ w7 ⟨rfl, hb⟩
      clear hHeld
      replace HS := Lib.hid (HS.out.later hb)
      replace HB := Lib.hid (HB.out.trans (hb.mono HB.out.size))
      clear hb
      go_wp2_with fail
      refine hK.out _ _ HS.out (fun hHeld => ?_)
      clear hK K
      try simp only [Act.put, List.setIfInBounds_toArray, List.set_cons_zero, List.set_cons_succ]
      refine wpAnyW_take (i := 4) (v := ?_) (by simp only [List.getElem?_toArray, List.getElem?_cons_succ, List.getElem?_cons_zero]; rfl) (by kernel_rfl) (by kernel_rfl) (by kernel_rfl) (by kernel_rfl) (by kernel_rfl) (fun _ _ _ h => h) (Or.inl ⟨by rfl, ?_⟩) (by assumption) ?_
      rotate_left 1
      · (intro w' hSw; go_simp; try with_reducible rfl)
      try simp only [Act.put, List.setIfInBounds_toArray, List.set_cons_zero, List.set_cons_succ]
      refine wpAnyW_take (i := 5) (v := ?_) (by simp only [List.getElem?_toArray, List.getElem?_cons_succ, List.getElem?_cons_zero]; rfl) (by kernel_rfl) (by kernel_rfl) (by kernel_rfl) (by kernel_rfl) (by kernel_rfl) (fun _ _ _ h => h) (Or.inl ⟨by rfl, ?_⟩) (by assumption) ?_
      rotate_left 1
      · (intro w' hSw; go_simp; try with_reducible rfl)
      try simp only [Act.put, List.setIfInBounds_toArray, List.set_cons_zero, List.set_cons_succ]
      refine wpAnyW_take (i := 6) (v := ?_) (by simp only [List.getElem?_toArray, List.getElem?_cons_succ, List.getElem?_cons_zero]; rfl) (by kernel_rfl) (by kernel_rfl) (by kernel_rfl) (by kernel_rfl) (by kernel_rfl) (fun _ _ _ h => h) (Or.inl ⟨by rfl, ?_⟩) (by assumption) ?_
      rotate_left 1
      · (intro w' hSw; go_simp; try with_reducible rfl)
      try simp only [Act.put, List.setIfInBounds_toArray, List.set_cons_zero, List.set_cons_succ]
      refine wpAnyW_take (i := 7) (v := ?_) (by simp only [List.getElem?_toArray, List.getElem?_cons_succ, List.getElem?_cons_zero]; rfl) (by kernel_rfl) (by kernel_rfl) (by kernel_rfl) (by kernel_rfl) (by kernel_rfl) (fun _ _ _ h => h) (Or.inl ⟨by rfl, ?_⟩) (by assumption) ?_
      rotate_left 1
      · (intro w' hSw; go_simp; try with_reducible rfl)
      try simp only [Act.put, List.setIfInBounds_toArray, List.set_cons_zero, List.set_cons_succ]
      refine wpAnyW_take (i := 8) (v := ?_) (by simp only [List.getElem?_toArray, List.getElem?_cons_succ, List.getElem?_cons_zero]; rfl) (by kernel_rfl) (by kernel_rfl) (by kernel_rfl) (by kernel_rfl) (by kernel_rfl) (fun _ _ _ h => h) (Or.inl ⟨by rfl, ?_⟩) (by assumption) ?_
      rotate_left 1
      · (intro w' hSw; go_simp; try with_reducible rfl)
      try simp only [Act.put, List.setIfInBounds_toArray, List.set_cons_zero, List.set_cons_succ]
      refine wpAnyW_take (i := 9) (v := ?_) (by simp only [List.getElem?_toArray, List.getElem?_cons_succ, List.getElem?_cons_zero]; rfl) (by kernel_rfl) (by kernel_rfl) (by kernel_rfl) (by kernel_rfl) (by kernel_rfl) (fun _ _ _ h => h) (Or.inl ⟨by rfl, ?_⟩) (by assumption) ?_
      rotate_left 1
      · (intro w' hSw; go_simp; try with_reducible rfl)
      try simp only [Act.put, List.setIfInBounds_toArray, List.set_cons_zero, List.set_cons_succ]
      refine wpAnyW_take (i := 10) (v := _) (by simp only [List.getElem?_toArray, List.getElem?_cons_succ, List.getElem?_cons_zero]; rfl) (by kernel_rfl) (by kernel_rfl) (by kernel_rfl) (by kernel_rfl) (by kernel_rfl) (fun _ _ _ h => h) (yB (ty := 25) (by rfl) rfl rfl (fun V h => (show Bx V (w.heap.size) 25 #[.int .u32 (c.toNat : Int), .slice A ab.length k, .slice A' du.length k'] from (AllG.nth h 0 rfl).1)) Try.underlying25 rfl infoG) (by assumption) ?_
      try simp only [Act.put, List.setIfInBounds_toArray, List.set_cons_zero, List.set_cons_succ]
      refine wpAnyW_take (i := 11) (v := ?_) (by simp only [List.getElem?_toArray, List.getElem?_cons_succ, List.getElem?_cons_zero]; rfl) (by kernel_rfl) (by kernel_rfl) (by kernel_rfl) (by kernel_rfl) (by kernel_rfl) (fun _ _ _ h => h) (Or.inl ⟨by rfl, ?_⟩) (by assumption) ?_
      rotate_left 1
      · (intro w' hSw; go_simp; try with_reducible rfl)
      try simp only [Act.put, List.setIfInBounds_toArray, List.set_cons_zero, List.set_cons_succ]
      refine wpAnyW_take (i := 13) (v := _) (by simp only [List.getElem?_toArray, List.getElem?_cons_succ, List.getElem?_cons_zero]; rfl) (by kernel_rfl) (by kernel_rfl) (by kernel_rfl) (by kernel_rfl) (by kernel_rfl) (fun _ _ _ h => h) (yB (ty := 25) (by rfl) rfl rfl (fun V h => (show Bx V (w.heap.size) 25 #[.int .u32 (c.toNat : Int), .slice A ab.length k, .slice A' du.length k'] from (AllG.nth h 0 rfl).1)) Try.underlying25 rfl infoG) (by assumption) ?_
      try simp only [Act.put, List.setIfInBounds_toArray, List.set_cons_zero, List.set_cons_succ]
      refine wpAnyW_take (i := 15) (v := ?_) (by simp only [List.getElem?_toArray, List.getElem?_cons_succ, List.getElem?_cons_zero]; rfl) (by kernel_rfl) (by kernel_rfl) (by kernel_rfl) (by kernel_rfl) (by kernel_rfl) (fun _ _ _ h => h) (Or.inl ⟨by rfl, ?_⟩) (by assumption) ?_
      rotate_left 1
      · (intro w' hSw; go_simp; try with_reducible rfl)
      try simp only [Act.put, List.setIfInBounds_toArray, List.set_cons_zero, List.set_cons_succ]
      refine wpAnyW_held (i := 12) (by kernel_rfl) (by simp only [List.getElem?_toArray, List.getElem?_cons_succ, List.getElem?_cons_zero]; rfl) (fun K hK => ?_)
      rw [if_pos (by rfl)]
      go_simp
      refine (HHS.out _ _ _ (show RowE enc32 _ (.slice A ab.length k) ab from (AllG.nth HS.out 0 rfl).2.1) (show RowE enc32 _ (.slice A' du.length k') du from (AllG.nth HS.out 0 rfl).2.2)).mono ?_
      rintro _ w7 ⟨rfl, hb⟩
      clear hHeld
      replace HS := Lib.hid (HS.out.later hb)
      replace HB := Lib.hid (HB.out.trans (hb.mono HB.out.size))
      clear hb
      go_wp2_with fail
      refine hK.out _ _ HS.out (fun hHeld => ?_)
      clear hK K
      try simp only [Act.put, List.setIfInBounds_toArray, List.set_cons_zero, List.set_cons_succ]
      refine wpAnyW_held (i := 14) (by kernel_rfl) (by simp only [List.getElem?_toArray, List.getElem?_cons_succ, List.getElem?_cons_zero]; rfl) (fun K hK => ?_)
      rw [if_pos (by rfl)]
      go_simp
      refine (as_any c.toNat hcl _ _ _ _ _ _ _).mono ?_
      rintro _ w7 ⟨rfl, hb⟩
      clear hHeld
      replace HS := Lib.hid (HS.out.later hb)
      replace HB := Lib.hid (HB.out.trans (hb.mono HB.out.size))
      clear hb
      go_wp2_with fail
      refine hK.out _ _ HS.out (fun hHeld => ?_)
      clear hK K
      try simp only [Act.put, List.setIfInBounds_toArray, List.set_cons_zero, List.set_cons_succ]
      refine wpAnyW_held (i := 16) (by kernel_rfl) (by simp only [List.getElem?_toArray, List.getElem?_cons_succ, List.getElem?_cons_zero]; rfl) (fun K hK => ?_)
      rw [if_pos (by rfl)]
      go_simp
      refine (HRH.out _ _ _ (show RowE enc32 _ (.slice A ab.length k) ab from (AllG.nth HS.out 0 rfl).2.1) (show RowE enc32 _ (.slice A' du.length k') du from (AllG.nth HS.out 0 rfl).2.2)).mono ?_
      rintro _ w7 ⟨rfl, hb⟩
      clear hHeld
      replace HS := Lib.hid (HS.out.later hb)
      replace HB := Lib.hid (HB.out.trans (hb.mono HB.out.size))
      clear hb
      go_wp2_with fail
      refine hK.out _ _ HS.out (fun hHeld => ?_)
      clear hK K
      try simp only [Act.put, List.setIfInBounds_toArray, List.set_cons_zero, List.set_cons_succ]
      refine wpAnyW_take (i := 17) (v := ?_) (by simp only [List.getElem?_toArray, List.getElem?_cons_succ, List.getElem?_cons_zero]; rfl) (by kernel_rfl) (by kernel_rfl) (by kernel_rfl) (by kernel_rfl) (by kernel_rfl) (fun _ _ _ h => h) (Or.inl ⟨by rfl, ?_⟩) (by assumption) ?_
      rotate_left 1
      · (intro w' hSw; go_simp; try with_reducible rfl)
      try simp only [Act.put, List.setIfInBounds_toArray, List.set_cons_zero, List.set_cons_succ]
      refine wpAnyW_take (i := 18) (v := ?_) (by simp only [List.getElem?_toArray, List.getElem?_cons_succ, List.getElem?_cons_zero]; rfl) (by kernel_rfl) (by kernel_rfl) (by kernel_rfl) (by kernel_rfl) (by kernel_rfl) (fun _ _ _ h => h) (Or.inl ⟨by rfl, ?_⟩) (by assumption) ?_
      rotate_left 1
      · (intro w' hSw; go_simp; try with_reducible rfl)
      try simp only [Act.put, List.setIfInBounds_toArray, List.set_cons_zero, List.set_cons_succ]
      refine wpAnyW_take (i := 19) (v := ?_) (by simp only [List.getElem?_toArray, List.getElem?_cons_succ, List.getElem?_cons_zero]; rfl) (by kernel_rfl) (by kernel_rfl) (by kernel_rfl) (by kernel_rfl) (by kernel_rfl) (fun _ _ _ h => h) (Or.inl ⟨by rfl, ?_⟩) (by assumption) ?_
      rotate_left 1
      · (intro w' hSw; go_simp; try with_reducible rfl)
      try simp only [Act.put, List.setIfInBounds_toArray, List.set_cons_zero, List.set_cons_succ]
      refine wpAnyW_take (i := 20) (v := ?_) (by simp only [List.getElem?_toArray, List.getElem?_cons_succ, List.getElem?_cons_zero]; rfl) (by kernel_rfl) (by kernel_rfl) (by kernel_rfl) (by kernel_rfl) (by kernel_rfl) (fun _ _ _ h => h) (Or.inl ⟨by rfl, ?_⟩) (by assumption) ?_
      rotate_left 1
      · (intro w' hSw; go_simp; try with_reducible rfl)
      try simp only [Act.put, List.setIfInBounds_toArray, List.set_cons_zero, List.set_cons_succ]
      refine wpAnyW_take (i := 23) (v := ?_) (by simp only [List.getElem?_toArray, List.getElem?_cons_succ, List.getElem?_cons_zero]; rfl) (by kernel_rfl) (by kernel_rfl) (by kernel_rfl) (by kernel_rfl) (by kernel_rfl) (fun _ _ _ h => h) (Or.inl ⟨by rfl, ?_⟩) (by assumption) ?_
      rotate_left 1
      · (intro w' hSw; go_simp; try with_reducible rfl)
      try simp only [Act.put, List.setIfInBounds_toArray, List.set_cons_zero, List.set_cons_succ]
      refine wpAnyW_held (i := 21) (by kernel_rfl) (by simp only [List.getElem?_toArray, List.getElem?_cons_succ, List.getElem?_cons_zero]; rfl) (fun K hK => ?_)
      rw [if_pos (by rfl)]
      go_simp
      refine (HNW.out _).mono ?_
      rintro _ w7 ⟨rfl, hb⟩
      clear hHeld
      replace HS := Lib.hid (HS.out.later hb)
      replace HB := Lib.hid (HB.out.trans (hb.mono HB.out.size))
      clear hb
      go_wp2_with fail
      refine hK.out _ _ HS.out (fun hHeld => ?_)
      clear hK K
      try simp only [Act.put, List.setIfInBounds_toArray, List.set_cons_zero, List.set_cons_succ]
      refine wpAnyW_held (i := 22) (by kernel_rfl) (by simp only [List.getElem?_toArray, List.getElem?_cons_succ, List.getElem?_cons_zero]; rfl) (fun K hK => ?_)
      rw [if_pos (by rfl)]
      go_simp
      refine (as_any y.toNat hy _ _ _ _ _ _ _).mono ?_
      rintro _ w7 ⟨rfl, hb⟩
      clear hHeld
      replace HS := Lib.hid (HS.out.later hb)
      replace HB := Lib.hid (HB.out.trans (hb.mono HB.out.size))
      clear hb
      go_wp2_with fail
      refine hK.out _ _ HS.out (fun hHeld => ?_)
      clear hK K
      try simp only [Act.put, List.setIfInBounds_toArray, List.set_cons_zero, List.set_cons_succ]
      refine wpAnyW_held (i := 24) (by kernel_rfl) (by simp only [List.getElem?_toArray, List.getElem?_cons_succ, List.getElem?_cons_zero]; rfl) (fun K hK => ?_)
      rw [if_pos (by rfl)]
      go_simp
      refine (HRN.out _).mono ?_
      rintro _ w7 ⟨rfl, hb⟩
      clear hHeld
      replace HS := Lib.hid (HS.out.later hb)
      replace HB := Lib.hid (HB.out.trans (hb.mono HB.out.size))
      clear hb
      go_wp2_with fail
      refine hK.out _ _ HS.out (fun hHeld => ?_)
      clear hK K
      try simp only [Act.put, List.setIfInBounds_toArray, List.set_cons_zero, List.set_cons_succ]
      refine wpAnyW_held (i := 25) (by kernel_rfl) (by simp only [List.getElem?_toArray, List.getElem?_cons_succ, List.getElem?_cons_zero]; rfl) (fun K hK => ?_)
      rw [if_pos (by rfl)]
      go_simp
      refine (HSY.out _ _ _ _ _ (RowE.nil enc32 _) (RowE.nil enc32 _) (RowE.nil enc32 _) (RowE.nil enc32 _)).mono ?_
      rintro _ w7 ⟨rfl, hb⟩
      clear hHeld
      replace HS := Lib.hid (HS.out.later hb)
      replace HB := Lib.hid (HB.out.trans (hb.mono HB.out.size))
      clear hb
      go_wp2_with fail
      refine hK.out _ _ HS.out (fun hHeld => ?_)
      clear hK K
      try simp only [Act.put, List.setIfInBounds_toArray, List.set_cons_zero, List.set_cons_succ]
      refine wpAnyW_take (i := 26) (v := ?_) (by simp only [List.getElem?_toArray, List.getElem?_cons_succ, List.getElem?_cons_zero]; rfl) (by kernel_rfl) (by kernel_rfl) (by kernel_rfl) (by kernel_rfl) (by kernel_rfl) (fun _ _ _ h => h) (Or.inl ⟨by rfl, ?_⟩) (by assumption) ?_
      rotate_left 1
      · (intro w' hSw; go_simp; try with_reducible rfl)
      try simp only [Act.put, List.setIfInBounds_toArray, List.set_cons_zero, List.set_cons_succ]
      refine wpAnyW_freed (i := 27) (by kernel_rfl) (by kernel_rfl) (by simp only [List.getElem?_toArray, List.getElem?_cons_succ, List.getElem?_cons_zero]; rfl) (fun K hK => ?_)
      rw [if_pos (by rfl)]
      go_simp
      refine hK.out _ _ ?_
      clear hK K
      try simp only [Act.put, List.setIfInBounds_toArray, List.set_cons_zero, List.set_cons_succ]
      refine wpAnyW_done (by kernel_rfl) ?_ _
      refine NoPanic.normal ?_
      go_wp2_with fail
      go_ret
      exact ⟨rfl, HB.out⟩
    · have q60 : (60 : Int) < (ab.length : Int) := by omega
      go_enter Try.func3, Try.ntmps3
      go_wp2_with (first
    | (go_at_call 10; (with_reducible refine (HSH.out _).mono ?_); rintro e w1 ⟨rfl, hb⟩; replace HK := Lib.hid (HK.out.later hb); replace HB := Lib.hid (HB.out.trans (hb.mono HB.out.size)); clear hb; have c0 := ((show Bx _ (w.heap.size) 25 #[.int .u32 (c.toNat : Int), .slice A ab.length k, .slice A' du.length k'] from (AllG.nth HK.out 0 rfl).1)).cell 0 (.int .u32 (c.toNat : Int)) rfl; have c1 := ((show Bx _ (w.heap.size) 25 #[.int .u32 (c.toNat : Int), .slice A ab.length k, .slice A' du.length k'] from (AllG.nth HK.out 0 rfl).1)).cell 1 (.slice A ab.length k) rfl; have c2 := ((show Bx _ (w.heap.size) 25 #[.int .u32 (c.toNat : Int), .slice A ab.length k, .slice A' du.length k'] from (AllG.nth HK.out 0 rfl).1)).cell 2 (.slice A' du.length k') rfl)
    | ((with_reducible refine gate9 ?_); refine ldB (ty := 25) rfl rfl rfl (show Bx _ (w.heap.size) 25 #[.int .u32 (c.toNat : Int), .slice A ab.length k, .slice A' du.length k'] from (AllG.nth HK.out 0 rfl).1) Try.underlying25 rfl infoG ?_)
    | (go_at_call 12; (with_reducible refine (as_any c.toNat hcl A A' _ k _ k' _).mono ?_); rintro e w1 ⟨rfl, hb⟩; replace HK := Lib.hid (HK.out.later hb); replace HB := Lib.hid (HB.out.trans (hb.mono HB.out.size)); clear hb)
    | (go_at_call 11; have hr9 := (show RowE enc32 _ (.slice A ab.length k) ab from (AllG.nth HK.out 0 rfl).2.1); have hd9 := (show RowE enc32 _ (.slice A' du.length k') du from (AllG.nth HK.out 0 rfl).2.2); (with_reducible refine (HRT.out _ _ _ hr9 hd9).mono ?_); clear hr9 hd9; rintro e w1 ⟨rfl, hb⟩; replace HK := Lib.hid (HK.out.later hb); replace HB := Lib.hid (HB.out.trans (hb.mono HB.out.size)); clear hb; have c0 := ((show Bx _ (w.heap.size) 25 #[.int .u32 (c.toNat : Int), .slice A ab.length k, .slice A' du.length k'] from (AllG.nth HK.out 0 rfl).1)).cell 0 (.int .u32 (c.toNat : Int)) rfl; have c1 := ((show Bx _ (w.heap.size) 25 #[.int .u32 (c.toNat : Int), .slice A ab.length k, .slice A' du.length k'] from (AllG.nth HK.out 0 rfl).1)).cell 1 (.slice A ab.length k) rfl; have c2 := ((show Bx _ (w.heap.size) 25 #[.int .u32 (c.toNat : Int), .slice A ab.length k, .slice A' du.length k'] from (AllG.nth HK.out 0 rfl).1)).cell 2 (.slice A' du.length k') rfl))
      go_ret
      exact ⟨rfl, HB.out⟩
  · have HRT := Lib.hid (fun va vd W h h' => right_no c ab du hma hmd va vd W h h' hr)
    clear hr
    go_enter Try.func3, Try.ntmps3
    go_wp2_with (first
    | (go_at_call 10; (with_reducible refine (HSH.out _).mono ?_); rintro e w1 ⟨rfl, hb⟩; replace HK := Lib.hid (HK.out.later hb); replace HB := Lib.hid (HB.out.trans (hb.mono HB.out.size)); clear hb; skip)
    | ((with_reducible refine gate9 ?_); refine ldB (ty := 25) rfl rfl rfl (show Bx _ (w.heap.size) 25 #[.int .u32 (c.toNat : Int), .slice A ab.length k, .slice A' du.length k'] from (AllG.nth HK.out 0 rfl).1) Try.underlying25 rfl infoG ?_)
    | (go_at_call 12; (with_reducible refine (as_any c.toNat hcl A A' _ k _ k' _).mono ?_); rintro e w1 ⟨rfl, hb⟩; replace HK := Lib.hid (HK.out.later hb); replace HB := Lib.hid (HB.out.trans (hb.mono HB.out.size)); clear hb)
    | (go_at_call 11; have hr9 := (show RowE enc32 _ (.slice A ab.length k) ab from (AllG.nth HK.out 0 rfl).2.1); have hd9 := (show RowE enc32 _ (.slice A' du.length k') du from (AllG.nth HK.out 0 rfl).2.2); (with_reducible refine (HRT.out _ _ _ hr9 hd9).mono ?_); clear hr9 hd9; rintro e w1 ⟨rfl, hb⟩; replace HK := Lib.hid (HK.out.later hb); replace HB := Lib.hid (HB.out.trans (hb.mono HB.out.size)); clear hb; have c0 := ((show Bx _ (w.heap.size) 25 #[.int .u32 (c.toNat : Int), .slice A ab.length k, .slice A' du.length k'] from (AllG.nth HK.out 0 rfl).1)).cell 0 (.int .u32 (c.toNat : Int)) rfl; have c1 := ((show Bx _ (w.heap.size) 25 #[.int .u32 (c.toNat : Int), .slice A ab.length k, .slice A' du.length k'] from (AllG.nth HK.out 0 rfl).1)).cell 1 (.slice A ab.length k) rfl; have c2 := ((show Bx _ (w.heap.size) 25 #[.int .u32 (c.toNat : Int), .slice A ab.length k, .slice A' du.length k'] from (AllG.nth HK.out 0 rfl).1)).cell 2 (.slice A' du.length k') rfl))
    go_ret
    exact ⟨rfl, HB.out⟩

set_option maxRecDepth 100000 in
theorem lifted (os : Os) (started : os.Started) (H : Type) (enc : TypeId × Value → H) :
    ReturnsInHanded {} Try.checked os 3 .any (Rows.gotTakesSpec.pre6 enc Try.prog Try.f3 Rows.gotTakesRow.domain false) (Rows.gotTakesSpec.post enc Try.prog Try.f3 false true false false) := by
  refine returnsInHanded_of_change_sized (C := Try.checked) own started (by kernel_rfl) Try.func3
    (ChangeSpec.witness6 (enc := enc) (C := Try.checked) false ⟨#[], #[.agg #[.int .u32 0, .slice none 0 0, .slice none 0 0], .int .u32 0], []⟩ 8 (by kernel_rfl) (by kernel_rfl) (by kernel_rfl) (by kernel_rfl)) ?_
  intro W base args ds gs before hval0 hW _ hreach _
  have hval : ∀ (j : Nat) t v, Try.f3.params[j]? = some t → args[j]? = some v → Value.okWide Try.prog W .any base t v := hval0
  obtain ⟨p, q, hA0, _, _, _, _⟩ := id hW
  have hA : DataW.TrodAll enc Try.prog W 0 (fun _ => true) true Try.f3.params.toList args.toList ds p := hA0
  rw [Try.params3] at hA hval
  obtain ⟨v0, vs0, d0, ds0, p0, q0, hargs, rfl, rfl, h0, r0⟩ := trodAll_cons hA
  obtain ⟨v1, vs1, d1, ds1, p1, q1, rfl, rfl, rfl, h1, r1⟩ := trodAll_cons r0
  obtain ⟨rfl, rfl, rfl⟩ := trodAll_nil r1
  obtain rfl : args = #[v0, v1] := by cases args; simp_all
  obtain ⟨c0, ab0, du0, va0, vd0, rfl, ra0, rd0⟩ := got_in (hval 0 25 v0 rfl rfl) h0
  obtain ⟨a1, rfl, rfl, rfl, w1⟩ := open_int Try.underlying22 (hval 1 22 v1 rfl rfl) h1
  obtain ⟨n1, _, rfl⟩ := u32_of a1 w1
  refine (walk c0 ab0 du0 va0 vd0 n1 W ra0 rd0).mono fun e W' ⟨he, hg⟩ => ?_
  subst he
  exact ⟨_, rfl, law_post laidOut Try.underlying4 (by kernel_rfl) (by kernel_rfl) rfl hW (by simp [Rows.gotTakesSpec]) hg⟩

theorem proved : Rows.GotTakesSaid :=
  OpenClaim.holds_of_wide 3 Try.f3 rfl rfl rfl rfl rfl rfl rfl ⟨rfl, rfl, rfl, rfl, rfl⟩ rfl rfl rfl rfl rfl (by kernel_rfl) Try.func3 (by kernel_rfl)
    (of_decide_eq_true (by kernel_rfl)) (by unfold Func.isWrapper; first | (rw [if_pos (by decide +kernel)]; kernel_rfl) | (rw [if_neg (by decide +kernel)]; exact ⟨rfl, rfl⟩))
    (fun os started H enc _ => lifted os started H enc)
#print axioms proved
end Go.Proofs.Ytfmgfpfaigifaaa.gotTakes
