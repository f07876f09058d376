/-
  The gaps in what came, the last number, the missing ones, and the chunk that tells them, are as the chapter says: any right got, any window.
-/
import Derived.Test.YtfdnphkdpmlbnaaLift
import Derived.Test.YtfdnphkdpmlbnaaArgs
import Derived.Test.YtfdnphkdpmlbnaaGl
import Derived.Test.YtfdnphkdpmlbnaaHa
namespace Go.Proofs.Ytfdnphkdpmlbnaa.gotTells
open Go.ChangeShapes Go.WideShapes Go.ChangeAt Go.RowKit
set_option linter.unusedVariables false
set_option linter.unusedSimpArgs false

set_option maxHeartbeats 4000000 in
set_option maxRecDepth 100000 in
theorem walk (c : UInt32) (ab du : List UInt32) (va vd : Value) (win : UInt32) (w : World) (h1 : RowE enc32 w va ab) (h2 : RowE enc32 w vd du) : Calls Try.prog 4 #[.agg #[.int .u32 (c.toNat : Int), va, vd], .int .u32 (win.toNat : Int)] w fun e w' => e = .returned (.bool true) ∧ Below w.heap.size w w' := by
  have HSH := Lib.hid (fun W => shown_any W)
  have hcl := c.toNat_lt
  have hwl := win.toNat_lt
  obtain ⟨A, k, rfl, hk1, hk2, -⟩ := id h1
  obtain ⟨A', k', rfl, hk3, hk4, -⟩ := id h2
  have hma : ab.length ≤ maxLen := by omega
  have hmd : du.length ≤ maxLen := by omega
  have hmI : (ab.length : Int) ≤ 9223372036854775807 := by unfold maxLen at hma; omega
  have HBX := Bx.fresh w 25 #[.int .u32 (c.toNat : Int), .slice A ab.length k, .slice A' du.length k']
  have HB := Lib.hid ((Below.refl w.heap.size w).alloc (Nat.le_refl _) (.cells #[.int .u32 (c.toNat : Int), .slice A ab.length k, .slice A' du.length k'] 25))
  have HK : Hid (AllG [⟨25, w.heap.size, c, ab, du, .slice A ab.length k, .slice A' du.length k'⟩] (w.alloc (.cells #[.int .u32 (c.toNat : Int), .slice A ab.length k, .slice A' du.length k'] 25))) := Lib.hid (fun x hx => by rw [List.mem_singleton.1 hx]; exact ⟨HBX, h1.below HB.out, h2.below HB.out⟩)
  clear h1 h2 HBX hk1 hk2 hk3 hk4
  by_cases hr : RightG ⟨c, ab, du⟩
  · have HRT := Lib.hid (fun va vd W h h' => right_yes c ab du hma hmd va vd W h h' hr)
    by_cases h60 : ab.length ≤ 60
    · have q60 : ¬ (60 : Int) < (ab.length : Int) := by omega
      have hd1 : du.length ≤ 100 := hr.dups
      have hd6 : du.length ≤ 1000000 := by omega
      have ha6 : ab.length ≤ 1000000 := by omega
      have HRGA := Lib.hid (fun va vd W h h' => rgaps_any c ab du (by omega) hd6 va vd W h h' hr)
      have HSK := Lib.hid (fun va vd W h h' => sack_any c ab du ha6 hd6 va vd W h h' win.toNat)
      have HGP0 := Lib.hid (fun va vd W h h' => gaps_any c ab du ha6 hd6 va vd W h h')
      have HMS0 := Lib.hid (fun va vd W h h' => missing_any c ab du ha6 hd6 va vd W h h' hr)
      have HMR0 := Lib.hid (fun va vd W h h' => rmissing_any c ab du ha6 hd6 va vd W h h' hr)
      have HLS0 := Lib.hid (fun va vd W h h' => last_any c ab du ha6 hd6 va vd W h h')
      have HLR0 := Lib.hid (fun va vd W h h' => rlast_any c ab du ha6 hd6 va vd W h h')
      have HNA := Lib.hid (fun v1 v2 W h h' => nums_same ab ha6 v1 v2 W h h')
      have HND := Lib.hid (fun v1 v2 W h h' => nums_same du hd6 v1 v2 W h h')
      have hml : (missG ⟨c, ab, du⟩).length ≤ 1000000 := by
        unfold missG missTo
        refine Nat.le_trans (List.length_filter_le _ _) ?_
        rw [List.length_map, List.length_range']
        by_cases h0 : ab.length = 0
        · have : lastG ⟨c, ab, du⟩ = c := if_pos h0
          show key c (lastG ⟨c, ab, du⟩) ≤ _
          rw [this, key_self]; omega
        · have := (miss_last hr (by omega)).2.1
          show key c (lastG ⟨c, ab, du⟩) ≤ _
          omega
      have HNM := Lib.hid (fun v1 v2 W h h' => nums_same (missG ⟨c, ab, du⟩) hml v1 v2 W h h')
      have HAP := Lib.hid (gaps_apart hr)
      have hgl : (gapsG ⟨c, ab, du⟩).length ≤ 100 := by rw [gapsG_len]; omega
      have HGW : Hid (∀ g ∈ gapsG ⟨c, ab, du⟩, g.1 < 65536 ∧ g.2 < 65536) := Lib.hid (fun g hg => by
        obtain ⟨p, _, rfl⟩ := List.mem_map.1 (List.mem_of_mem_take hg)
        unfold gapOf
        exact ⟨Nat.mod_lt _ (by omega), Nat.mod_lt _ (by omega)⟩)
      generalize missG ⟨c, ab, du⟩ = ml at *
      generalize lastG ⟨c, ab, du⟩ = la at *
      clear hr hml
      go_enter Try.func4, Try.ntmps4
      go_wp2_with (first
    | (go_at_call 10; (with_reducible refine (HSH.out _).mono ?_); rintro e w1 ⟨rfl, hb⟩; replace HK := Lib.hid (HK.out.later hb); replace HB := Lib.hid (HB.out.trans (hb.mono HB.out.size)); clear hb; have c0 := ((show Bx _ (w.heap.size) 25 #[.int .u32 (c.toNat : Int), .slice A ab.length k, .slice A' du.length k'] from (AllG.nth HK.out 0 rfl).1)).cell 0 (.int .u32 (c.toNat : Int)) rfl; have c1 := ((show Bx _ (w.heap.size) 25 #[.int .u32 (c.toNat : Int), .slice A ab.length k, .slice A' du.length k'] from (AllG.nth HK.out 0 rfl).1)).cell 1 (.slice A ab.length k) rfl; have c2 := ((show Bx _ (w.heap.size) 25 #[.int .u32 (c.toNat : Int), .slice A ab.length k, .slice A' du.length k'] from (AllG.nth HK.out 0 rfl).1)).cell 2 (.slice A' du.length k') rfl)
    | ((with_reducible refine gate9 ?_); refine ldB (ty := 25) rfl rfl rfl (show Bx _ (w.heap.size) 25 #[.int .u32 (c.toNat : Int), .slice A ab.length k, .slice A' du.length k'] from (AllG.nth HK.out 0 rfl).1) Try.underlying25 rfl infoG ?_)
    | (go_at_call 12; (with_reducible refine (as_any c.toNat hcl A A' _ k _ k' _).mono ?_); rintro e w1 ⟨rfl, hb⟩; replace HK := Lib.hid (HK.out.later hb); replace HB := Lib.hid (HB.out.trans (hb.mono HB.out.size)); clear hb)
    | (go_at_call 11; have hr9 := (show RowE enc32 _ (.slice A ab.length k) ab from (AllG.nth HK.out 0 rfl).2.1); have hd9 := (show RowE enc32 _ (.slice A' du.length k') du from (AllG.nth HK.out 0 rfl).2.2); (with_reducible refine (HRT.out _ _ _ hr9 hd9).mono ?_); clear hr9 hd9; rintro e w1 ⟨rfl, hb⟩; replace HK := Lib.hid (HK.out.later hb); replace HB := Lib.hid (HB.out.trans (hb.mono HB.out.size)); clear hb; have c0 := ((show Bx _ (w.heap.size) 25 #[.int .u32 (c.toNat : Int), .slice A ab.length k, .slice A' du.length k'] from (AllG.nth HK.out 0 rfl).1)).cell 0 (.int .u32 (c.toNat : Int)) rfl; have c1 := ((show Bx _ (w.heap.size) 25 #[.int .u32 (c.toNat : Int), .slice A ab.length k, .slice A' du.length k'] from (AllG.nth HK.out 0 rfl).1)).cell 1 (.slice A ab.length k) rfl; have c2 := ((show Bx _ (w.heap.size) 25 #[.int .u32 (c.toNat : Int), .slice A ab.length k, .slice A' du.length k'] from (AllG.nth HK.out 0 rfl).1)).cell 2 (.slice A' du.length k') rfl))
      have hr9 := (show RowE enc32 _ (.slice A ab.length k) ab from (AllG.nth HK.out 0 rfl).2.1)
      have hd9 := (show RowE enc32 _ (.slice A' du.length k') du from (AllG.nth HK.out 0 rfl).2.2)
      refine (HRGA.out _ _ _ hr9 hd9).mono ?_
      clear hr9 hd9 c0 c1 c2
      rintro e w5 ⟨vg0, rfl, hog, hb⟩
      obtain ⟨Ar, kr, rfl, -, -, -⟩ := hog.slice
      have HRR := Lib.hid (rowG_of_own hog)
      replace HK := Lib.hid (HK.out.later hb)
      replace HB := Lib.hid (HB.out.trans (hb.mono HB.out.size))
      clear hb
      clear hog HRGA
      go_wp2_with (first
    | ((with_reducible refine gate9 ?_); refine ldB (ty := 25) rfl rfl rfl (show Bx _ (w.heap.size) 25 #[.int .u32 (c.toNat : Int), .slice A ab.length k, .slice A' du.length k'] from (AllG.nth HK.out 0 rfl).1) Try.underlying25 rfl infoG ?_))
      have hr9 := (show RowE enc32 _ (.slice A ab.length k) ab from (AllG.nth HK.out 0 rfl).2.1)
      have hd9 := (show RowE enc32 _ (.slice A' du.length k') du from (AllG.nth HK.out 0 rfl).2.2)
      refine (HSK.out _ _ _ hr9 hd9).mono ?_
      clear hr9 hd9
      rintro e w6 ⟨Ag, kg, Ad, kd, Aa, ka, rfl, ho1, hrd, hra, hb⟩
      have HRG1 := Lib.hid (rowG_of_own ho1)
      have HRD := Lib.hid hrd
      have HRA := Lib.hid hra
      replace HRR := Lib.hid (HRR.out.below hb)
      replace HK := Lib.hid (HK.out.later hb)
      replace HB := Lib.hid (HB.out.trans (hb.mono HB.out.size))
      clear hb
      clear ho1 hrd hra HSK
      dsimp only at HRG1 HRD HRA
      generalize gapsG ⟨c, ab, du⟩ = gs at *
      have HSG := Lib.hid (fun v1 v2 W h h' => samegaps_any gs (by omega) v1 v2 W h h')
      obtain ⟨W9, hW9, HC, HH, HB9, hs9⟩ := two_open w6 44 25 #[.int .i64 0, .int .i64 0, .int .u32 0, .int .u32 0, .int .u32 0, .int .u32 0, .int .u16 0, .int .u16 0, .int .u16 0, .int .u16 0, .slice none 0 0, .slice none 0 0, .slice none 0 0, .string ⟨#[]⟩] #[.int .u32 0, .slice none 0 0, .slice none 0 0]
      obtain ⟨g2, hg2⟩ : ∃ g, w6.heap.size = g := ⟨_, rfl⟩
      rw [hg2] at HC HH
      have HGP := Lib.hid (fun W (h : TeS w w.heap.size g2 (g2 + 1) c.toNat win.toNat ab du gs (.slice A ab.length k) (.slice A' du.length k') (.slice Ag gs.length kg) (.slice Ad du.length kd) (.slice Aa ab.length ka) (.slice Ar gs.length kr) W) => HGP0.out _ _ W h.ra h.rd)
      have HMS := Lib.hid (fun W (h : TeS w w.heap.size g2 (g2 + 1) c.toNat win.toNat ab du gs (.slice A ab.length k) (.slice A' du.length k') (.slice Ag gs.length kg) (.slice Ad du.length kd) (.slice Aa ab.length ka) (.slice Ar gs.length kr) W) => HMS0.out _ _ W h.ra h.rd)
      have HMR := Lib.hid (fun W (h : TeS w w.heap.size g2 (g2 + 1) c.toNat win.toNat ab du gs (.slice A ab.length k) (.slice A' du.length k') (.slice Ag gs.length kg) (.slice Ad du.length kd) (.slice Aa ab.length ka) (.slice Ar gs.length kr) W) => HMR0.out _ _ W h.ra h.rd)
      have HLS := Lib.hid (fun W (h : TeS w w.heap.size g2 (g2 + 1) c.toNat win.toNat ab du gs (.slice A ab.length k) (.slice A' du.length k') (.slice Ag gs.length kg) (.slice Ad du.length kd) (.slice Aa ab.length ka) (.slice Ar gs.length kr) W) => HLS0.out _ _ W h.ra h.rd)
      have HLR := Lib.hid (fun W (h : TeS w w.heap.size g2 (g2 + 1) c.toNat win.toNat ab du gs (.slice A ab.length k) (.slice A' du.length k') (.slice Ag gs.length kg) (.slice Ad du.length kd) (.slice Aa ab.length ka) (.slice Ar gs.length kr) W) => HLR0.out _ _ W h.ra h.rd)
      have HCR : Hid (∀ W, TeS w w.heap.size g2 (g2 + 1) c.toNat win.toNat ab du gs (.slice A ab.length k) (.slice A' du.length k') (.slice Ag gs.length kg) (.slice Ad du.length kd) (.slice Aa ab.length ka) (.slice Ar gs.length kr) W → Calls Try.prog 24 #[.agg #[.int .i64 3, .int .i64 0, .int .u32 (c.toNat : Int), .int .u32 0, .int .u32 (win.toNat : Int), .int .u32 0, .int .u16 0, .int .u16 0, .int .u16 0, .int .u16 0, .slice Ag gs.length kg, .slice Ad du.length kd, .slice none 0 0, .string ⟨#[]⟩]] W fun e W' => e = .returned (.bool true) ∧ Below W.heap.size W W') := Lib.hid (fun W h => by
        have h9 := ckright_any (sackK c.toNat win.toNat gs (du.map (·.toNat))) (sackK_wf hcl hwl HGW.out (fun d hd => by
          obtain ⟨x, _, rfl⟩ := List.mem_map.1 hd
          exact x.toNat_lt)) (by show gs.length ≤ _; omega) (by show (du.map (·.toNat)).length ≤ _; rw [List.length_map]; omega) (by show 0 ≤ _; omega) (fun x hx => by cases hx) (by show 0 ≤ _; omega) _ _ _ W ⟨h.rg, rowN_of_rowE h.rdd, RowI.nil W⟩
        rw [sackK_built hgl (by rw [List.length_map]; exact hd1) HAP.out] at h9
        exact h9)
      clear HGP0 HMS0 HMR0 HLS0 HLR0 HAP HGW
      generalize la.toNat = lan at *
      go_wp2_with (first
    | ((with_reducible refine gate9 ?_); refine stB (ty := 44) #[.int .i64 3, .int .i64 0, .int .u32 (c.toNat : Int), .int .u32 0, .int .u32 (win.toNat : Int), .int .u32 0, .int .u16 0, .int .u16 0, .int .u16 0, .int .u16 0, .slice Ag gs.length kg, .slice Ad du.length kd, .slice none 0 0, .string ⟨#[]⟩] rfl rfl rfl rfl HC.out infoC rfl (cellsT_one _ _ _ _ _ _ _ _) ?_; intro w10 ht hg; replace HH := Lib.hid (HH.out.kept hg (by omega)); replace HB9 := Lib.hid (below_of_grown1 HB9.out hg HB9.out.size (Nat.le_of_eq hg2)); replace HC := Lib.hid ht; clear ht hg)
    | ((with_reducible refine gate9 ?_); refine stB (ty := 25) #[.int .u32 (c.toNat : Int), .slice Aa ab.length ka, .slice none 0 0] rfl rfl rfl rfl HH.out infoG rfl (cellsG_one _ _ _ _ _ _ _) ?_; intro w11 ht hg; replace HC := Lib.hid (HC.out.kept hg (by omega)); replace HB9 := Lib.hid (below_of_grown1 HB9.out hg HB9.out.size (by omega)); have HT : Hid (TeS w w.heap.size g2 (g2 + 1) c.toNat win.toNat ab du gs (.slice A ab.length k) (.slice A' du.length k') (.slice Ag gs.length kg) (.slice Ad du.length kd) (.slice Aa ab.length ka) (.slice Ar gs.length kr) w11) := Lib.hid ⟨(show Bx _ (w.heap.size) 25 #[.int .u32 (c.toNat : Int), .slice A ab.length k, .slice A' du.length k'] from (AllG.nth HK.out 0 rfl).1).later HB9.out, HC.out, ht, (show RowE enc32 _ (.slice A ab.length k) ab from (AllG.nth HK.out 0 rfl).2.1).below HB9.out, (show RowE enc32 _ (.slice A' du.length k') du from (AllG.nth HK.out 0 rfl).2.2).below HB9.out, HRD.out.below HB9.out, HRA.out.below HB9.out, HRG1.out.below HB9.out, HRR.out.below HB9.out, HB.out.trans (HB9.out.mono HB.out.size)⟩; clear ht hg HB9 HC HH HK HRD HRA HRG1 HRR; have f0 := HT.out.qc.cell 0 (.int .i64 3) rfl; have f1 := HT.out.qc.cell 1 (.int .i64 0) rfl; have f2 := HT.out.qc.cell 2 (.int .u32 (c.toNat : Int)) rfl; have f4 := HT.out.qc.cell 4 (.int .u32 (win.toNat : Int)) rfl; have f10 := HT.out.qc.cell 10 (.slice Ag gs.length kg) rfl; have f11 := HT.out.qc.cell 11 (.slice Ad du.length kd) rfl; have f12 := HT.out.qc.cell 12 (.slice none 0 0) rfl; have f13 := HT.out.qc.cell 13 (.string ⟨#[]⟩) rfl; have d0 := HT.out.q0.cell 0 (.int .u32 (c.toNat : Int)) rfl; have d2 := HT.out.q0.cell 2 (.slice A' du.length k') rfl)
    | (go_at_call 22; (with_reducible refine (HSG.out _ _ _ HT.out.rg HT.out.rr).mono ?_); rintro e w12 ⟨rfl, hb⟩; replace HT := Lib.hid (HT.out.later hb); clear hb f0 f1 f2 f4 f10 f11 f12 f13 d0 d2; have f0 := HT.out.qc.cell 0 (.int .i64 3) rfl; have f1 := HT.out.qc.cell 1 (.int .i64 0) rfl; have f2 := HT.out.qc.cell 2 (.int .u32 (c.toNat : Int)) rfl; have f4 := HT.out.qc.cell 4 (.int .u32 (win.toNat : Int)) rfl; have f10 := HT.out.qc.cell 10 (.slice Ag gs.length kg) rfl; have f11 := HT.out.qc.cell 11 (.slice Ad du.length kd) rfl; have f12 := HT.out.qc.cell 12 (.slice none 0 0) rfl; have f13 := HT.out.qc.cell 13 (.string ⟨#[]⟩) rfl; have d0 := HT.out.q0.cell 0 (.int .u32 (c.toNat : Int)) rfl; have d2 := HT.out.q0.cell 2 (.slice A' du.length k') rfl)
    | (go_at_call 23; (with_reducible refine (HND.out _ _ _ HT.out.rdd HT.out.rd).mono ?_); rintro e w12 ⟨rfl, hb⟩; replace HT := Lib.hid (HT.out.later hb); clear hb f0 f1 f2 f4 f10 f11 f12 f13 d0 d2; have f0 := HT.out.qc.cell 0 (.int .i64 3) rfl; have f1 := HT.out.qc.cell 1 (.int .i64 0) rfl; have f2 := HT.out.qc.cell 2 (.int .u32 (c.toNat : Int)) rfl; have f4 := HT.out.qc.cell 4 (.int .u32 (win.toNat : Int)) rfl; have f10 := HT.out.qc.cell 10 (.slice Ag gs.length kg) rfl; have f11 := HT.out.qc.cell 11 (.slice Ad du.length kd) rfl; have f12 := HT.out.qc.cell 12 (.slice none 0 0) rfl; have f13 := HT.out.qc.cell 13 (.string ⟨#[]⟩) rfl; have d0 := HT.out.q0.cell 0 (.int .u32 (c.toNat : Int)) rfl; have d2 := HT.out.q0.cell 2 (.slice A' du.length k') rfl))
      clear f0 f1 f2 f4 f10 f11 f12 f13 d0 d2
      refine wp_region_noPanic ?_
      refine wp_region_waits (S := (fun V => TeS w w.heap.size g2 (g2 + 1) c.toNat win.toNat ab du gs (.slice A ab.length k) (.slice A' du.length k') (.slice Ag gs.length kg) (.slice Ad du.length kd) (.slice Aa ab.length ka) (.slice Ar gs.length kr) V)) [] (by kernel_rfl) HT.out.drew (fun hHeld => ?_)
      clear HT
      refine wpAnyW_take (i := 0) (v := ?_) (by simp only [List.getElem?_toArray, List.getElem?_cons_zero]; rfl) (by kernel_rfl) (by kernel_rfl) (by kernel_rfl) (by kernel_rfl) (by kernel_rfl) (fun _ _ _ h => h) (Or.inl ⟨by rfl, ?_⟩) (by assumption) ?_
      rotate_left 1
      · (intro w' hSw; go_simp; try with_reducible rfl)
      try simp only [Act.put, List.setIfInBounds_toArray, List.set_cons_zero, List.set_cons_succ]
      refine wpAnyW_take (i := 1) (v := ?_) (by simp only [List.getElem?_toArray, List.getElem?_cons_succ, List.getElem?_cons_zero]; rfl) (by kernel_rfl) (by kernel_rfl) (by kernel_rfl) (by kernel_rfl) (by kernel_rfl) (fun _ _ _ h => h) (Or.inl ⟨by rfl, ?_⟩) (by assumption) ?_
      rotate_left 1
      · (intro w' hSw; go_simp; try with_reducible rfl)
      try simp only [Act.put, List.setIfInBounds_toArray, List.set_cons_zero, List.set_cons_succ]
      refine wpAnyW_take (i := 2) (v := _) (by simp only [List.getElem?_toArray, List.getElem?_cons_succ, List.getElem?_cons_zero]; rfl) (by kernel_rfl) (by kernel_rfl) (by kernel_rfl) (by kernel_rfl) (by kernel_rfl) (fun _ _ _ h => h) (yB (ty := 44) (by rfl) rfl rfl (fun V h => h.qc) Try.underlying44 rfl infoC) (by assumption) ?_
      try simp only [Act.put, List.setIfInBounds_toArray, List.set_cons_zero, List.set_cons_succ]
      refine wpAnyW_held (i := 3) (by kernel_rfl) (by simp only [List.getElem?_toArray, List.getElem?_cons_succ, List.getElem?_cons_zero]; rfl) (fun K hK => ?_)
      rw [if_pos (by rfl)]
      go_simp
      refine (HCR.out _ hHeld).mono ?_
      rintro _ w9 ⟨rfl, hb⟩
      have HS := hHeld.later hb
      clear hHeld hb
      go_wp2_with fail
      refine hK.out _ _ HS (fun hHeld => ?_)
      clear hK K HS
      try simp only [Act.put, List.setIfInBounds_toArray, List.set_cons_zero, List.set_cons_succ]
      refine wpAnyW_take (i := 4) (v := ?_) (by simp only [List.getElem?_toArray, List.getElem?_cons_succ, List.getElem?_cons_zero]; rfl) (by kernel_rfl) (by kernel_rfl) (by kernel_rfl) (by kernel_rfl) (by kernel_rfl) (fun _ _ _ h => h) (Or.inl ⟨by rfl, ?_⟩) (by assumption) ?_
      rotate_left 1
      · (intro w' hSw; go_simp; try with_reducible rfl)
      try simp only [Act.put, List.setIfInBounds_toArray, List.set_cons_zero, List.set_cons_succ]
      refine wpAnyW_take (i := 5) (v := ?_) (by simp only [List.getElem?_toArray, List.getElem?_cons_succ, List.getElem?_cons_zero]; rfl) (by kernel_rfl) (by kernel_rfl) (by kernel_rfl) (by kernel_rfl) (by kernel_rfl) (fun _ _ _ h => h) (Or.inl ⟨by rfl, ?_⟩) (by assumption) ?_
      rotate_left 1
      · (intro w' hSw; go_simp; try with_reducible rfl)
      try simp only [Act.put, List.setIfInBounds_toArray, List.set_cons_zero, List.set_cons_succ]
      refine wpAnyW_take (i := 6) (v := ?_) (by simp only [List.getElem?_toArray, List.getElem?_cons_succ, List.getElem?_cons_zero]; rfl) (by kernel_rfl) (by kernel_rfl) (by kernel_rfl) (by kernel_rfl) (by kernel_rfl) (fun _ _ _ h => h) (Or.inl ⟨by rfl, ?_⟩) (by assumption) ?_
      rotate_left 1
      · (intro w' hSw; go_simp; try with_reducible rfl)
      try simp only [Act.put, List.setIfInBounds_toArray, List.set_cons_zero, List.set_cons_succ]
      refine wpAnyW_take (i := 7) (v := ?_) (by simp only [List.getElem?_toArray, List.getElem?_cons_succ, List.getElem?_cons_zero]; rfl) (by kernel_rfl) (by kernel_rfl) (by kernel_rfl) (by kernel_rfl) (by kernel_rfl) (fun _ _ _ h => h) (Or.inl ⟨by rfl, ?_⟩) (by assumption) ?_
      rotate_left 1
      · (intro w' hSw; have hq : w'.cell? ⟨g2 + 1, 0, none⟩ = some (.int .u32 (c.toNat : Int)) := hSw.qh.cell 0 (.int .u32 (c.toNat : Int)) rfl; go_simp; try with_reducible rfl)
      try simp only [Act.put, List.setIfInBounds_toArray, List.set_cons_zero, List.set_cons_succ]
      refine wpAnyW_take (i := 8) (v := ?_) (by simp only [List.getElem?_toArray, List.getElem?_cons_succ, List.getElem?_cons_zero]; rfl) (by kernel_rfl) (by kernel_rfl) (by kernel_rfl) (by kernel_rfl) (by kernel_rfl) (fun _ _ _ h => h) (Or.inl ⟨by rfl, ?_⟩) (by assumption) ?_
      rotate_left 1
      · (intro w' hSw; go_simp; try with_reducible rfl)
      try simp only [Act.put, List.setIfInBounds_toArray, List.set_cons_zero, List.set_cons_succ]
      refine wpAnyW_take (i := 9) (v := ?_) (by simp only [List.getElem?_toArray, List.getElem?_cons_succ, List.getElem?_cons_zero]; rfl) (by kernel_rfl) (by kernel_rfl) (by kernel_rfl) (by kernel_rfl) (by kernel_rfl) (fun _ _ _ h => h) (Or.inl ⟨by rfl, ?_⟩) (by assumption) ?_
      rotate_left 1
      · (intro w' hSw; have hq : w'.cell? ⟨w.heap.size, 0, none⟩ = some (.int .u32 (c.toNat : Int)) := hSw.q0.cell 0 (.int .u32 (c.toNat : Int)) rfl; go_simp; try with_reducible rfl)
      try simp only [Act.put, List.setIfInBounds_toArray, List.set_cons_zero, List.set_cons_succ]
      refine wpAnyW_take (i := 10) (v := ?_) (by simp only [List.getElem?_toArray, List.getElem?_cons_succ, List.getElem?_cons_zero]; rfl) (by kernel_rfl) (by kernel_rfl) (by kernel_rfl) (by kernel_rfl) (by kernel_rfl) (fun _ _ _ h => h) (Or.inl ⟨by rfl, ?_⟩) (by assumption) ?_
      rotate_left 1
      · (intro w' hSw; go_simp; try with_reducible rfl)
      try simp only [Act.put, List.setIfInBounds_toArray, List.set_cons_zero, List.set_cons_succ]
      refine wpAnyW_take (i := 11) (v := ?_) (by simp only [List.getElem?_toArray, List.getElem?_cons_succ, List.getElem?_cons_zero]; rfl) (by kernel_rfl) (by kernel_rfl) (by kernel_rfl) (by kernel_rfl) (by kernel_rfl) (fun _ _ _ h => h) (Or.inl ⟨by rfl, ?_⟩) (by assumption) ?_
      rotate_left 1
      · (intro w' hSw; go_simp; try with_reducible rfl)
      try simp only [Act.put, List.setIfInBounds_toArray, List.set_cons_zero, List.set_cons_succ]
      refine wpAnyW_take (i := 12) (v := ?_) (by simp only [List.getElem?_toArray, List.getElem?_cons_succ, List.getElem?_cons_zero]; rfl) (by kernel_rfl) (by kernel_rfl) (by kernel_rfl) (by kernel_rfl) (by kernel_rfl) (fun _ _ _ h => h) (Or.inl ⟨by rfl, ?_⟩) (by assumption) ?_
      rotate_left 1
      · (intro w' hSw; go_simp; try with_reducible rfl)
      try simp only [Act.put, List.setIfInBounds_toArray, List.set_cons_zero, List.set_cons_succ]
      refine wpAnyW_take (i := 13) (v := ?_) (by simp only [List.getElem?_toArray, List.getElem?_cons_succ, List.getElem?_cons_zero]; rfl) (by kernel_rfl) (by kernel_rfl) (by kernel_rfl) (by kernel_rfl) (by kernel_rfl) (fun _ _ _ h => h) (Or.inl ⟨by rfl, ?_⟩) (by assumption) ?_
      rotate_left 1
      · (intro w' hSw; go_simp; try with_reducible rfl)
      try simp only [Act.put, List.setIfInBounds_toArray, List.set_cons_zero, List.set_cons_succ]
      refine wpAnyW_take (i := 14) (v := ?_) (by simp only [List.getElem?_toArray, List.getElem?_cons_succ, List.getElem?_cons_zero]; rfl) (by kernel_rfl) (by kernel_rfl) (by kernel_rfl) (by kernel_rfl) (by kernel_rfl) (fun _ _ _ h => h) (Or.inl ⟨by rfl, ?_⟩) (by assumption) ?_
      rotate_left 1
      · (intro w' hSw; have hq : w'.cell? ⟨g2 + 1, 1, none⟩ = some (.slice Aa ab.length ka) := hSw.qh.cell 1 (.slice Aa ab.length ka) rfl; go_simp; try with_reducible rfl)
      try simp only [Act.put, List.setIfInBounds_toArray, List.set_cons_zero, List.set_cons_succ]
      refine wpAnyW_take (i := 15) (v := ?_) (by simp only [List.getElem?_toArray, List.getElem?_cons_succ, List.getElem?_cons_zero]; rfl) (by kernel_rfl) (by kernel_rfl) (by kernel_rfl) (by kernel_rfl) (by kernel_rfl) (fun _ _ _ h => h) (Or.inl ⟨by rfl, ?_⟩) (by assumption) ?_
      rotate_left 1
      · (intro w' hSw; go_simp; try with_reducible rfl)
      try simp only [Act.put, List.setIfInBounds_toArray, List.set_cons_zero, List.set_cons_succ]
      refine wpAnyW_take (i := 16) (v := ?_) (by simp only [List.getElem?_toArray, List.getElem?_cons_succ, List.getElem?_cons_zero]; rfl) (by kernel_rfl) (by kernel_rfl) (by kernel_rfl) (by kernel_rfl) (by kernel_rfl) (fun _ _ _ h => h) (Or.inl ⟨by rfl, ?_⟩) (by assumption) ?_
      rotate_left 1
      · (intro w' hSw; have hq : w'.cell? ⟨w.heap.size, 1, none⟩ = some (.slice A ab.length k) := hSw.q0.cell 1 (.slice A ab.length k) rfl; go_simp; try with_reducible rfl)
      try simp only [Act.put, List.setIfInBounds_toArray, List.set_cons_zero, List.set_cons_succ]
      refine wpAnyW_held (i := 17) (by kernel_rfl) (by simp only [List.getElem?_toArray, List.getElem?_cons_succ, List.getElem?_cons_zero]; rfl) (fun K hK => ?_)
      rw [if_pos (by rfl)]
      go_simp
      refine (HNA.out _ _ _ hHeld.raa hHeld.ra).mono ?_
      rintro _ w9 ⟨rfl, hb⟩
      have HS := hHeld.later hb
      clear hHeld hb
      go_wp2_with fail
      refine hK.out _ _ HS (fun hHeld => ?_)
      clear hK K HS
      try simp only [Act.put, List.setIfInBounds_toArray, List.set_cons_zero, List.set_cons_succ]
      refine wpAnyW_take (i := 18) (v := ?_) (by simp only [List.getElem?_toArray, List.getElem?_cons_succ, List.getElem?_cons_zero]; rfl) (by kernel_rfl) (by kernel_rfl) (by kernel_rfl) (by kernel_rfl) (by kernel_rfl) (fun _ _ _ h => h) (Or.inl ⟨by rfl, ?_⟩) (by assumption) ?_
      rotate_left 1
      · (intro w' hSw; go_simp; try with_reducible rfl)
      try simp only [Act.put, List.setIfInBounds_toArray, List.set_cons_zero, List.set_cons_succ]
      refine wpAnyW_take (i := 19) (v := ?_) (by simp only [List.getElem?_toArray, List.getElem?_cons_succ, List.getElem?_cons_zero]; rfl) (by kernel_rfl) (by kernel_rfl) (by kernel_rfl) (by kernel_rfl) (by kernel_rfl) (fun _ _ _ h => h) (Or.inl ⟨by rfl, ?_⟩) (by assumption) ?_
      rotate_left 1
      · (intro w' hSw; go_simp; try with_reducible rfl)
      try simp only [Act.put, List.setIfInBounds_toArray, List.set_cons_zero, List.set_cons_succ]
      refine wpAnyW_take (i := 20) (v := ?_) (by simp only [List.getElem?_toArray, List.getElem?_cons_succ, List.getElem?_cons_zero]; rfl) (by kernel_rfl) (by kernel_rfl) (by kernel_rfl) (by kernel_rfl) (by kernel_rfl) (fun _ _ _ h => h) (Or.inl ⟨by rfl, ?_⟩) (by assumption) ?_
      rotate_left 1
      · (intro w' hSw; go_simp; try with_reducible rfl)
      try simp only [Act.put, List.setIfInBounds_toArray, List.set_cons_zero, List.set_cons_succ]
      refine wpAnyW_take (i := 21) (v := ?_) (by simp only [List.getElem?_toArray, List.getElem?_cons_succ, List.getElem?_cons_zero]; rfl) (by kernel_rfl) (by kernel_rfl) (by kernel_rfl) (by kernel_rfl) (by kernel_rfl) (fun _ _ _ h => h) (Or.inl ⟨by rfl, ?_⟩) (by assumption) ?_
      rotate_left 1
      · (intro w' hSw; have hq : w'.cell? ⟨g2 + 1, 2, none⟩ = some (.slice none 0 0) := hSw.qh.cell 2 (.slice none 0 0) rfl; go_simp; try with_reducible rfl)
      try simp only [Act.put, List.setIfInBounds_toArray, List.set_cons_zero, List.set_cons_succ]
      refine wpAnyW_take (i := 22) (v := ?_) (by simp only [List.getElem?_toArray, List.getElem?_cons_succ, List.getElem?_cons_zero]; rfl) (by kernel_rfl) (by kernel_rfl) (by kernel_rfl) (by kernel_rfl) (by kernel_rfl) (fun _ _ _ h => h) (Or.inl ⟨by rfl, ?_⟩) (by assumption) ?_
      rotate_left 1
      · (intro w' hSw; go_simp; try with_reducible rfl)
      try simp only [Act.put, List.setIfInBounds_toArray, List.set_cons_zero, List.set_cons_succ]
      refine wpAnyW_take (i := 23) (v := ?_) (by simp only [List.getElem?_toArray, List.getElem?_cons_succ, List.getElem?_cons_zero]; rfl) (by kernel_rfl) (by kernel_rfl) (by kernel_rfl) (by kernel_rfl) (by kernel_rfl) (fun _ _ _ h => h) (Or.inl ⟨by rfl, ?_⟩) (by assumption) ?_
      rotate_left 1
      · (intro w' hSw; go_simp; try with_reducible rfl)
      try simp only [Act.put, List.setIfInBounds_toArray, List.set_cons_zero, List.set_cons_succ]
      refine wpAnyW_take (i := 24) (v := ?_) (by simp only [List.getElem?_toArray, List.getElem?_cons_succ, List.getElem?_cons_zero]; rfl) (by kernel_rfl) (by kernel_rfl) (by kernel_rfl) (by kernel_rfl) (by kernel_rfl) (fun _ _ _ h => h) (Or.inl ⟨by rfl, ?_⟩) (by assumption) ?_
      rotate_left 1
      · (intro w' hSw; go_simp; try with_reducible rfl)
      try simp only [Act.put, List.setIfInBounds_toArray, List.set_cons_zero, List.set_cons_succ]
      refine wpAnyW_take (i := 25) (v := ?_) (by simp only [List.getElem?_toArray, List.getElem?_cons_succ, List.getElem?_cons_zero]; rfl) (by kernel_rfl) (by kernel_rfl) (by kernel_rfl) (by kernel_rfl) (by kernel_rfl) (fun _ _ _ h => h) (Or.inl ⟨by rfl, ?_⟩) (by assumption) ?_
      rotate_left 1
      · (intro w' hSw; go_simp; try with_reducible rfl)
      try simp only [Act.put, List.setIfInBounds_toArray, List.set_cons_zero, List.set_cons_succ]
      refine wpAnyW_take (i := 26) (v := _) (by simp only [List.getElem?_toArray, List.getElem?_cons_succ, List.getElem?_cons_zero]; rfl) (by kernel_rfl) (by kernel_rfl) (by kernel_rfl) (by kernel_rfl) (by kernel_rfl) (fun _ _ _ h => h) (yB (ty := 25) (by rfl) rfl rfl (fun V h => h.q0) Try.underlying25 rfl infoG) (by assumption) ?_
      try simp only [Act.put, List.setIfInBounds_toArray, List.set_cons_zero, List.set_cons_succ]
      refine wpAnyW_take (i := 28) (v := ?_) (by simp only [List.getElem?_toArray, List.getElem?_cons_succ, List.getElem?_cons_zero]; rfl) (by kernel_rfl) (by kernel_rfl) (by kernel_rfl) (by kernel_rfl) (by kernel_rfl) (fun _ _ _ h => h) (Or.inl ⟨by rfl, ?_⟩) (by assumption) ?_
      rotate_left 1
      · (intro w' hSw; go_simp; try with_reducible rfl)
      try simp only [Act.put, List.setIfInBounds_toArray, List.set_cons_zero, List.set_cons_succ]
      refine wpAnyW_held (i := 27) (by kernel_rfl) (by simp only [List.getElem?_toArray, List.getElem?_cons_succ, List.getElem?_cons_zero]; rfl) (fun K hK => ?_)
      rw [if_pos (by rfl)]
      go_simp
      refine (HGP.out _ hHeld).mono ?_
      rintro _ w9 ⟨v9, rfl, ho9, hb⟩
      have HS := hHeld.later hb
      obtain ⟨A7, k7, rfl, -, -, -⟩ := ho9.slice
      have HG7 := Lib.hid (rowG_of_own ho9)
      clear ho9
      clear hHeld hb
      go_wp2_with fail
      refine hK.out _ _ HS (fun hHeld => ?_)
      clear hK K HS
      try simp only [Act.put, List.setIfInBounds_toArray, List.set_cons_zero, List.set_cons_succ]
      refine wpAnyW_held (i := 29) (by kernel_rfl) (by simp only [List.getElem?_toArray, List.getElem?_cons_succ, List.getElem?_cons_zero]; rfl) (fun K hK => ?_)
      rw [if_pos (by rfl)]
      go_simp
      refine (HSG.out _ _ _ HG7.out hHeld.rr).mono ?_
      rintro _ w9 ⟨rfl, hb⟩
      have HS := hHeld.later hb
      clear HG7
      clear hHeld hb
      go_wp2_with fail
      refine hK.out _ _ HS (fun hHeld => ?_)
      clear hK K HS
      try simp only [Act.put, List.setIfInBounds_toArray, List.set_cons_zero, List.set_cons_succ]
      refine wpAnyW_take (i := 30) (v := ?_) (by simp only [List.getElem?_toArray, List.getElem?_cons_succ, List.getElem?_cons_zero]; rfl) (by kernel_rfl) (by kernel_rfl) (by kernel_rfl) (by kernel_rfl) (by kernel_rfl) (fun _ _ _ h => h) (Or.inl ⟨by rfl, ?_⟩) (by assumption) ?_
      rotate_left 1
      · (intro w' hSw; go_simp; try with_reducible rfl)
      try simp only [Act.put, List.setIfInBounds_toArray, List.set_cons_zero, List.set_cons_succ]
      refine wpAnyW_take (i := 31) (v := ?_) (by simp only [List.getElem?_toArray, List.getElem?_cons_succ, List.getElem?_cons_zero]; rfl) (by kernel_rfl) (by kernel_rfl) (by kernel_rfl) (by kernel_rfl) (by kernel_rfl) (fun _ _ _ h => h) (Or.inl ⟨by rfl, ?_⟩) (by assumption) ?_
      rotate_left 1
      · (intro w' hSw; go_simp; try with_reducible rfl)
      try simp only [Act.put, List.setIfInBounds_toArray, List.set_cons_zero, List.set_cons_succ]
      refine wpAnyW_take (i := 32) (v := _) (by simp only [List.getElem?_toArray, List.getElem?_cons_succ, List.getElem?_cons_zero]; rfl) (by kernel_rfl) (by kernel_rfl) (by kernel_rfl) (by kernel_rfl) (by kernel_rfl) (fun _ _ _ h => h) (yB (ty := 25) (by rfl) rfl rfl (fun V h => h.q0) Try.underlying25 rfl infoG) (by assumption) ?_
      try simp only [Act.put, List.setIfInBounds_toArray, List.set_cons_zero, List.set_cons_succ]
      refine wpAnyW_take (i := 34) (v := _) (by simp only [List.getElem?_toArray, List.getElem?_cons_succ, List.getElem?_cons_zero]; rfl) (by kernel_rfl) (by kernel_rfl) (by kernel_rfl) (by kernel_rfl) (by kernel_rfl) (fun _ _ _ h => h) (yB (ty := 25) (by rfl) rfl rfl (fun V h => h.q0) Try.underlying25 rfl infoG) (by assumption) ?_
      try simp only [Act.put, List.setIfInBounds_toArray, List.set_cons_zero, List.set_cons_succ]
      refine wpAnyW_held (i := 33) (by kernel_rfl) (by simp only [List.getElem?_toArray, List.getElem?_cons_succ, List.getElem?_cons_zero]; rfl) (fun K hK => ?_)
      rw [if_pos (by rfl)]
      go_simp
      refine (HLS.out _ hHeld).mono ?_
      rintro _ w9 ⟨rfl, hb⟩
      have HS := hHeld.later hb
      clear hHeld hb
      go_wp2_with fail
      refine hK.out _ _ HS (fun hHeld => ?_)
      clear hK K HS
      try simp only [Act.put, List.setIfInBounds_toArray, List.set_cons_zero, List.set_cons_succ]
      refine wpAnyW_held (i := 35) (by kernel_rfl) (by simp only [List.getElem?_toArray, List.getElem?_cons_succ, List.getElem?_cons_zero]; rfl) (fun K hK => ?_)
      rw [if_pos (by rfl)]
      go_simp
      refine (as_any c.toNat hcl A A' _ k _ k' _).mono ?_
      rintro _ w9 ⟨rfl, hb⟩
      have HS := hHeld.later hb
      clear hHeld hb
      go_wp2_with fail
      refine hK.out _ _ HS (fun hHeld => ?_)
      clear hK K HS
      try simp only [Act.put, List.setIfInBounds_toArray, List.set_cons_zero, List.set_cons_succ]
      refine wpAnyW_held (i := 36) (by kernel_rfl) (by simp only [List.getElem?_toArray, List.getElem?_cons_succ, List.getElem?_cons_zero]; rfl) (fun K hK => ?_)
      rw [if_pos (by rfl)]
      go_simp
      refine (HLR.out _ hHeld).mono ?_
      rintro _ w9 ⟨rfl, hb⟩
      have HS := hHeld.later hb
      clear hHeld hb
      go_wp2_with fail
      refine hK.out _ _ HS (fun hHeld => ?_)
      clear hK K HS
      try simp only [Act.put, List.setIfInBounds_toArray, List.set_cons_zero, List.set_cons_succ]
      refine wpAnyW_take (i := 37) (v := ?_) (by simp only [List.getElem?_toArray, List.getElem?_cons_succ, List.getElem?_cons_zero]; rfl) (by kernel_rfl) (by kernel_rfl) (by kernel_rfl) (by kernel_rfl) (by kernel_rfl) (fun _ _ _ h => h) (Or.inl ⟨by rfl, ?_⟩) (by assumption) ?_
      rotate_left 1
      · (intro w' hSw; go_simp; try with_reducible rfl)
      try simp only [Act.put, List.setIfInBounds_toArray, List.set_cons_zero, List.set_cons_succ]
      refine wpAnyW_take (i := 38) (v := ?_) (by simp only [List.getElem?_toArray, List.getElem?_cons_succ, List.getElem?_cons_zero]; rfl) (by kernel_rfl) (by kernel_rfl) (by kernel_rfl) (by kernel_rfl) (by kernel_rfl) (fun _ _ _ h => h) (Or.inl ⟨by rfl, ?_⟩) (by assumption) ?_
      rotate_left 1
      · (intro w' hSw; go_simp; try with_reducible rfl)
      try simp only [Act.put, List.setIfInBounds_toArray, List.set_cons_zero, List.set_cons_succ]
      refine wpAnyW_take (i := 39) (v := ?_) (by simp only [List.getElem?_toArray, List.getElem?_cons_succ, List.getElem?_cons_zero]; rfl) (by kernel_rfl) (by kernel_rfl) (by kernel_rfl) (by kernel_rfl) (by kernel_rfl) (fun _ _ _ h => h) (Or.inl ⟨by rfl, ?_⟩) (by assumption) ?_
      rotate_left 1
      · (intro w' hSw; go_simp; try with_reducible rfl)
      try simp only [Act.put, List.setIfInBounds_toArray, List.set_cons_zero, List.set_cons_succ]
      refine wpAnyW_take (i := 40) (v := _) (by simp only [List.getElem?_toArray, List.getElem?_cons_succ, List.getElem?_cons_zero]; rfl) (by kernel_rfl) (by kernel_rfl) (by kernel_rfl) (by kernel_rfl) (by kernel_rfl) (fun _ _ _ h => h) (yB (ty := 25) (by rfl) rfl rfl (fun V h => h.q0) Try.underlying25 rfl infoG) (by assumption) ?_
      try simp only [Act.put, List.setIfInBounds_toArray, List.set_cons_zero, List.set_cons_succ]
      refine wpAnyW_take (i := 42) (v := _) (by simp only [List.getElem?_toArray, List.getElem?_cons_succ, List.getElem?_cons_zero]; rfl) (by kernel_rfl) (by kernel_rfl) (by kernel_rfl) (by kernel_rfl) (by kernel_rfl) (fun _ _ _ h => h) (yB (ty := 25) (by rfl) rfl rfl (fun V h => h.q0) Try.underlying25 rfl infoG) (by assumption) ?_
      try simp only [Act.put, List.setIfInBounds_toArray, List.set_cons_zero, List.set_cons_succ]
      refine wpAnyW_held (i := 41) (by kernel_rfl) (by simp only [List.getElem?_toArray, List.getElem?_cons_succ, List.getElem?_cons_zero]; rfl) (fun K hK => ?_)
      rw [if_pos (by rfl)]
      go_simp
      refine (HMS.out _ hHeld).mono ?_
      rintro _ w9 ⟨A7, k7, rfl, ho9, -, hb⟩
      have HS := hHeld.later hb
      have HM7 := Lib.hid (rowE_of_ownG ho9)
      clear ho9
      clear hHeld hb
      go_wp2_with fail
      refine hK.out _ _ HS (fun hHeld => ?_)
      clear hK K HS
      try simp only [Act.put, List.setIfInBounds_toArray, List.set_cons_zero, List.set_cons_succ]
      refine wpAnyW_held (i := 43) (by kernel_rfl) (by simp only [List.getElem?_toArray, List.getElem?_cons_succ, List.getElem?_cons_zero]; rfl) (fun K hK => ?_)
      rw [if_pos (by rfl)]
      go_simp
      refine (as_any c.toNat hcl A A' _ k _ k' _).mono ?_
      rintro _ w9 ⟨rfl, hb⟩
      have HS := hHeld.later hb
      replace HM7 := Lib.hid (HM7.out.below hb)
      clear hHeld hb
      go_wp2_with fail
      refine hK.out _ _ HS (fun hHeld => ?_)
      clear hK K HS
      try simp only [Act.put, List.setIfInBounds_toArray, List.set_cons_zero, List.set_cons_succ]
      refine wpAnyW_held (i := 44) (by kernel_rfl) (by simp only [List.getElem?_toArray, List.getElem?_cons_succ, List.getElem?_cons_zero]; rfl) (fun K hK => ?_)
      rw [if_pos (by rfl)]
      go_simp
      refine (HMR.out _ hHeld).mono ?_
      rintro _ w9 ⟨A8, k8, rfl, ho9, hb⟩
      have HS := hHeld.later hb
      have HM8 := Lib.hid (rowE_of_ownG ho9)
      replace HM7 := Lib.hid (HM7.out.below hb)
      clear ho9
      clear hHeld hb
      go_wp2_with fail
      refine hK.out _ _ HS (fun hHeld => ?_)
      clear hK K HS
      try simp only [Act.put, List.setIfInBounds_toArray, List.set_cons_zero, List.set_cons_succ]
      refine wpAnyW_held (i := 45) (by kernel_rfl) (by simp only [List.getElem?_toArray, List.getElem?_cons_succ, List.getElem?_cons_zero]; rfl) (fun K hK => ?_)
      rw [if_pos (by rfl)]
      go_simp
      refine (HNM.out _ _ _ HM7.out HM8.out).mono ?_
      rintro _ w9 ⟨rfl, hb⟩
      have HS := hHeld.later hb
      clear HM7 HM8
      clear hHeld hb
      go_wp2_with fail
      refine hK.out _ _ HS (fun hHeld => ?_)
      clear hK K HS
      try simp only [Act.put, List.setIfInBounds_toArray, List.set_cons_zero, List.set_cons_succ]
      refine wpAnyW_take (i := 46) (v := ?_) (by simp only [List.getElem?_toArray, List.getElem?_cons_succ, List.getElem?_cons_zero]; rfl) (by kernel_rfl) (by kernel_rfl) (by kernel_rfl) (by kernel_rfl) (by kernel_rfl) (fun _ _ _ h => h) (Or.inl ⟨by rfl, ?_⟩) (by assumption) ?_
      rotate_left 1
      · (intro w' hSw; go_simp; try with_reducible rfl)
      try simp only [Act.put, List.setIfInBounds_toArray, List.set_cons_zero, List.set_cons_succ]
      refine wpAnyW_take (i := 47) (v := ?_) (by simp only [List.getElem?_toArray, List.getElem?_cons_succ, List.getElem?_cons_zero]; rfl) (by kernel_rfl) (by kernel_rfl) (by kernel_rfl) (by kernel_rfl) (by kernel_rfl) (fun _ _ _ h => h) (Or.inl ⟨by rfl, ?_⟩) (by assumption) ?_
      rotate_left 1
      · (intro w' hSw; go_simp; try with_reducible rfl)
      try simp only [Act.put, List.setIfInBounds_toArray, List.set_cons_zero, List.set_cons_succ]
      have HF := Lib.hid hHeld.below
      clear hHeld
      refine wpAnyW_done (by kernel_rfl) ?_ _
      refine NoPanic.normal ?_
      go_wp2_with fail
      go_ret
      exact ⟨rfl, HF.out⟩
    · have q60 : (60 : Int) < (ab.length : Int) := by omega
      clear hr
      go_enter Try.func4, Try.ntmps4
      go_wp2_with (first
    | (go_at_call 10; (with_reducible refine (HSH.out _).mono ?_); rintro e w1 ⟨rfl, hb⟩; replace HK := Lib.hid (HK.out.later hb); replace HB := Lib.hid (HB.out.trans (hb.mono HB.out.size)); clear hb; have c0 := ((show Bx _ (w.heap.size) 25 #[.int .u32 (c.toNat : Int), .slice A ab.length k, .slice A' du.length k'] from (AllG.nth HK.out 0 rfl).1)).cell 0 (.int .u32 (c.toNat : Int)) rfl; have c1 := ((show Bx _ (w.heap.size) 25 #[.int .u32 (c.toNat : Int), .slice A ab.length k, .slice A' du.length k'] from (AllG.nth HK.out 0 rfl).1)).cell 1 (.slice A ab.length k) rfl; have c2 := ((show Bx _ (w.heap.size) 25 #[.int .u32 (c.toNat : Int), .slice A ab.length k, .slice A' du.length k'] from (AllG.nth HK.out 0 rfl).1)).cell 2 (.slice A' du.length k') rfl)
    | ((with_reducible refine gate9 ?_); refine ldB (ty := 25) rfl rfl rfl (show Bx _ (w.heap.size) 25 #[.int .u32 (c.toNat : Int), .slice A ab.length k, .slice A' du.length k'] from (AllG.nth HK.out 0 rfl).1) Try.underlying25 rfl infoG ?_)
    | (go_at_call 12; (with_reducible refine (as_any c.toNat hcl A A' _ k _ k' _).mono ?_); rintro e w1 ⟨rfl, hb⟩; replace HK := Lib.hid (HK.out.later hb); replace HB := Lib.hid (HB.out.trans (hb.mono HB.out.size)); clear hb)
    | (go_at_call 11; have hr9 := (show RowE enc32 _ (.slice A ab.length k) ab from (AllG.nth HK.out 0 rfl).2.1); have hd9 := (show RowE enc32 _ (.slice A' du.length k') du from (AllG.nth HK.out 0 rfl).2.2); (with_reducible refine (HRT.out _ _ _ hr9 hd9).mono ?_); clear hr9 hd9; rintro e w1 ⟨rfl, hb⟩; replace HK := Lib.hid (HK.out.later hb); replace HB := Lib.hid (HB.out.trans (hb.mono HB.out.size)); clear hb; have c0 := ((show Bx _ (w.heap.size) 25 #[.int .u32 (c.toNat : Int), .slice A ab.length k, .slice A' du.length k'] from (AllG.nth HK.out 0 rfl).1)).cell 0 (.int .u32 (c.toNat : Int)) rfl; have c1 := ((show Bx _ (w.heap.size) 25 #[.int .u32 (c.toNat : Int), .slice A ab.length k, .slice A' du.length k'] from (AllG.nth HK.out 0 rfl).1)).cell 1 (.slice A ab.length k) rfl; have c2 := ((show Bx _ (w.heap.size) 25 #[.int .u32 (c.toNat : Int), .slice A ab.length k, .slice A' du.length k'] from (AllG.nth HK.out 0 rfl).1)).cell 2 (.slice A' du.length k') rfl))
      go_ret
      exact ⟨rfl, HB.out⟩
  · have HRT := Lib.hid (fun va vd W h h' => right_no c ab du hma hmd va vd W h h' hr)
    clear hr
    go_enter Try.func4, Try.ntmps4
    go_wp2_with (first
    | (go_at_call 10; (with_reducible refine (HSH.out _).mono ?_); rintro e w1 ⟨rfl, hb⟩; replace HK := Lib.hid (HK.out.later hb); replace HB := Lib.hid (HB.out.trans (hb.mono HB.out.size)); clear hb; skip)
    | ((with_reducible refine gate9 ?_); refine ldB (ty := 25) rfl rfl rfl (show Bx _ (w.heap.size) 25 #[.int .u32 (c.toNat : Int), .slice A ab.length k, .slice A' du.length k'] from (AllG.nth HK.out 0 rfl).1) Try.underlying25 rfl infoG ?_)
    | (go_at_call 12; (with_reducible refine (as_any c.toNat hcl A A' _ k _ k' _).mono ?_); rintro e w1 ⟨rfl, hb⟩; replace HK := Lib.hid (HK.out.later hb); replace HB := Lib.hid (HB.out.trans (hb.mono HB.out.size)); clear hb)
    | (go_at_call 11; have hr9 := (show RowE enc32 _ (.slice A ab.length k) ab from (AllG.nth HK.out 0 rfl).2.1); have hd9 := (show RowE enc32 _ (.slice A' du.length k') du from (AllG.nth HK.out 0 rfl).2.2); (with_reducible refine (HRT.out _ _ _ hr9 hd9).mono ?_); clear hr9 hd9; rintro e w1 ⟨rfl, hb⟩; replace HK := Lib.hid (HK.out.later hb); replace HB := Lib.hid (HB.out.trans (hb.mono HB.out.size)); clear hb; have c0 := ((show Bx _ (w.heap.size) 25 #[.int .u32 (c.toNat : Int), .slice A ab.length k, .slice A' du.length k'] from (AllG.nth HK.out 0 rfl).1)).cell 0 (.int .u32 (c.toNat : Int)) rfl; have c1 := ((show Bx _ (w.heap.size) 25 #[.int .u32 (c.toNat : Int), .slice A ab.length k, .slice A' du.length k'] from (AllG.nth HK.out 0 rfl).1)).cell 1 (.slice A ab.length k) rfl; have c2 := ((show Bx _ (w.heap.size) 25 #[.int .u32 (c.toNat : Int), .slice A ab.length k, .slice A' du.length k'] from (AllG.nth HK.out 0 rfl).1)).cell 2 (.slice A' du.length k') rfl))
    go_ret
    exact ⟨rfl, HB.out⟩

set_option maxRecDepth 100000 in
theorem lifted (os : Os) (started : os.Started) (H : Type) (enc : TypeId × Value → H) :
    ReturnsInHanded {} Try.checked os 4 .any (Rows.gotTellsSpec.pre6 enc Try.prog Try.f4 Rows.gotTellsRow.domain false) (Rows.gotTellsSpec.post enc Try.prog Try.f4 false true false false) := by
  refine returnsInHanded_of_change_sized (C := Try.checked) own started (by kernel_rfl) Try.func4
    (ChangeSpec.witness6 (enc := enc) (C := Try.checked) false ⟨#[], #[.agg #[.int .u32 0, .slice none 0 0, .slice none 0 0], .int .u32 0], []⟩ 8 (by kernel_rfl) (by kernel_rfl) (by kernel_rfl) (by kernel_rfl)) ?_
  intro W base args ds gs before hval0 hW _ hreach _
  have hval : ∀ (j : Nat) t v, Try.f4.params[j]? = some t → args[j]? = some v → Value.okWide Try.prog W .any base t v := hval0
  obtain ⟨p, q, hA0, _, _, _, _⟩ := id hW
  have hA : DataW.TrodAll enc Try.prog W 0 (fun _ => true) true Try.f4.params.toList args.toList ds p := hA0
  rw [Try.params4] at hA hval
  obtain ⟨v0, vs0, d0, ds0, p0, q0, hargs, rfl, rfl, h0, r0⟩ := trodAll_cons hA
  obtain ⟨v1, vs1, d1, ds1, p1, q1, rfl, rfl, rfl, h1, r1⟩ := trodAll_cons r0
  obtain ⟨rfl, rfl, rfl⟩ := trodAll_nil r1
  obtain rfl : args = #[v0, v1] := by cases args; simp_all
  obtain ⟨c0, ab0, du0, va0, vd0, rfl, ra0, rd0⟩ := got_in (hval 0 25 v0 rfl rfl) h0
  obtain ⟨a1, rfl, rfl, rfl, w1⟩ := open_int Try.underlying22 (hval 1 22 v1 rfl rfl) h1
  obtain ⟨n1, _, rfl⟩ := u32_of a1 w1
  refine (walk c0 ab0 du0 va0 vd0 n1 W ra0 rd0).mono fun e W' ⟨he, hg⟩ => ?_
  subst he
  exact ⟨_, rfl, law_post laidOut Try.underlying4 (by kernel_rfl) (by kernel_rfl) rfl hW (by simp [Rows.gotTellsSpec]) hg⟩

theorem proved : Rows.GotTellsSaid :=
  OpenClaim.holds_of_wide 4 Try.f4 rfl rfl rfl rfl rfl rfl rfl ⟨rfl, rfl, rfl, rfl, rfl⟩ rfl rfl rfl rfl rfl (by kernel_rfl) Try.func4 (by kernel_rfl)
    (of_decide_eq_true (by kernel_rfl)) (by unfold Func.isWrapper; first | (rw [if_pos (by decide +kernel)]; kernel_rfl) | (rw [if_neg (by decide +kernel)]; exact ⟨rfl, rfl⟩))
    (fun os started H enc _ => lifted os started H enc)
#print axioms proved
end Go.Proofs.Ytfdnphkdpmlbnaa.gotTells
