/-
  A packet is filled: a contract (the walk).
-/
import Derived.Test.YtlbaockipeojhaaGreatFillA
import Derived.WalkMore
namespace Go.Proofs.YtlbaockipeojhaaGreat
open Go.RowKit
set_option linter.unusedVariables false
set_option linter.unusedSimpArgs false
set_option maxRecDepth 100000

theorem built_le (c : Ck) : (buildC c).1.size ≤ 1400 := by
  by_cases h : (buildC c).2 = 0
  · exact (built_size h).2.1
  · rw [buildC_none h]
    decide
set_option maxHeartbeats 16000000 in
theorem fill_any (f t g : Nat) (l : List Cv) (hl : l.length ≤ 100000) (V : Value) (most : Int) (hm1 : 100 ≤ most) (hm2 : most ≤ 1500) (w : World) (h : Rk w V l) (hf : ∀ x ∈ l, FitC x.c) :
    Calls Tryz.prog 39 #[.agg (cellsP f t g (.slice none 0 0)), V, .int .i64 most] w fun e w' => ∃ V' l', e = .returned (.tuple #[.agg (cellsP f t g V'), .int .i64 (((fillF f t g most [] (ckV l) 12 0).2 : Nat) : Int)]) ∧ RkF w.heap.size w' V' l' ∧ ckV l' = (fillF f t g most [] (ckV l) 12 0).1 ∧ Below w.heap.size w w' := by
  generalize hR : fillF f t g most [] (ckV l) 12 0 = R
  have HK := Lib.hid h
  have HFT := Lib.hid hf
  have HPS := Lib.hid pkSize
  have HCS := Lib.hid ckSize
  obtain ⟨A, cap, rfl, hcap, hmax, hcells⟩ := h.row
  have HC := Lib.hid hcells
  obtain ⟨i0, hi0, hz0, hz1, hz2⟩ := info_parts infoCk8
  have HI := Lib.hid hi0
  have HZ0 := Lib.hid hz0
  have HZ1 := Lib.hid hz1
  have HZ2 := Lib.hid hz2
  clear hi0 hz0 hz1 hz2
  have hlm : (l.length : Int) ≤ 100000 := by omega
  have HS := Lib.hid (flS_new f t g (.slice none 0 0) w rfl)
  clear hcells h hf
  dsimp only [cellsP] at *
  go_enter Tryz.func39, Tryz.ntmps39
  go_wp2_with fail
  go_step3
  go_wp2_with fail
  go_step3
  go_wp2_with fail
  generalize (((w.alloc (.cells #[.int .u16 (f : Int), .int .u16 (t : Int), .int .u32 (g : Int), .slice none 0 0] 26)).alloc (.cells #[.int .u16 0, .int .u16 0, .int .u32 0, .slice none 0 0] 26)).alloc (.cells #[.int .u16 (f : Int), .int .u16 (t : Int), .int .u32 (g : Int), .slice none 0 0] 26)) = w0 at *
  go_loopw [9, 10, 17] (fun s d i wr => ∃ (k sz dn : Nat) (acc : List Cv) (U : Value), k ≤ l.length ∧ s = .int .i64 sz ∧ d = .int .i64 dn ∧ i = .int .i64 k ∧ sz ≤ 1500 ∧ dn ≤ k ∧ acc.length ≤ k ∧ Hid (FlS w.heap.size f t g (.slice none 0 0) w acc U wr ∧ fillF f t g most (ckV acc) ((ckV l).drop k) sz dn = R))
    (fun _ _ i _ => l.length - (intOf i).toNat)
  case atStart => exact ⟨0, 12, 0, [], (.slice none 0 0), Nat.zero_le _, rfl, rfl, rfl, by omega, Nat.le_refl _, Nat.le_refl _, Lib.hid ⟨HS.out, hR⟩⟩
  case round =>
    obtain ⟨k, sz, dn, acc, U, hk, rfl, rfl, rfl, hsz, hdn, hac, HQ⟩ := hrel
    obtain ⟨hs, hrr⟩ := HQ.out
    have HRR := Lib.hid hrr
    obtain ⟨UA, uk, rfl, -⟩ := hs.row.slice
    have HLTU := Lib.hid (fun k (hk : (Value.slice UA acc.length uk).ownBlock = some k) => (hs.row.lt k hk).2)
    clear hrr HQ HS
    by_cases hlt : k < l.length
    · obtain ⟨b, off, rfl, hb, hr⟩ := HC.out (by omega)
      have hp := (HK.out.parts _ (List.getElem_mem hlt)).below hs.below
      have hfit := HFT.out _ (List.getElem_mem hlt)
      have fN := fun hn => (fillF_none (f := f) (t := t) (g := g) (most := most) hlt (ckV acc) sz dn hn).symm.trans HRR.out
      have fF := fun hn hf => (fillF_full (f := f) (t := t) (g := g) (most := most) hlt (ckV acc) sz dn hn hf).symm.trans HRR.out
      have fM := fun hn hf => (fillF_more (f := f) (t := t) (g := g) (most := most) hlt (ckV acc) sz dn hn hf).symm.trans HRR.out
      obtain ⟨CL, hL⟩ := hasL l[k]
      have hr' : wr.rangeAt b (off + k * 14) CL := by rw [← hL.cells]; exact rangeAt_below (hr k hlt) hb hs.below
      clear hr
      generalize l[k] = x at *
      have HR := Lib.hid hr'
      have HL := Lib.hid hL
      have HONE := Lib.hid (hL.one hp)
      have HFN := Lib.hid fN
      have HFF := Lib.hid fF
      have HFM := Lib.hid fM
      have HE0 := Lib.hid (show FlC w.heap.size f t g (.slice none 0 0) w acc (.slice UA acc.length uk) wr.heap.size CL x (wr.alloc (.cells CL.toArray 52)) from
        ⟨hs.later ((Below.refl _ _).alloc (Nat.le_refl _) _), heap_alloc_new _ _, hp.below ((Below.refl _ _).alloc (Nat.le_refl _) _), hs.since⟩)
      have HSZ := Lib.hid (show ∀ W, Parts W x.c x.g x.d x.it → Calls Tryz.prog 62 #[.agg CL.toArray] W fun e w' => e = .returned (.int .i64 ((buildC x.c).1.size : Nat)) ∧ Below W.heap.size W w' from fun W hW => by
        rw [← hL.arr]; exact cksize_any x.c hfit.wf hfit.gl hfit.dl hfit.il hfit.iv hfit.tl _ _ _ W hW)
      have HT0 := Lib.hid (show ∀ W, Parts W x.c x.g x.d x.it → Calls Tryz.prog 40 #[.agg #[.int .u16 (f : Int), .int .u16 (t : Int), .int .u32 (g : Int), .slice none 0 0], .agg CL.toArray] W fun e w' => e = .returned (.bool (takesB f t g [] x.c.type)) ∧ Below W.heap.size W w' from fun W hW => by
        rw [← hL.arr]; exact takes_any f t g _ [] x.c _ _ _ W (RowK.nil W) hW)
      have HT1 := Lib.hid (show ∀ W, RowK W (.slice UA acc.length uk) acc → Parts W x.c x.g x.d x.it → Calls Tryz.prog 40 #[.agg #[.int .u16 (f : Int), .int .u16 (t : Int), .int .u32 (g : Int), (.slice UA acc.length uk)], .agg CL.toArray] W fun e w' => e = .returned (.bool (takesB f t g (typesV acc) x.c.type)) ∧ Below W.heap.size W w' from fun W hV hW => by
        rw [← hL.arr]; exact takes_any f t g _ acc x.c _ _ _ W hV hW)
      have HCP := Lib.hid (show ∀ W, Parts W x.c x.g x.d x.it → Calls Tryz.prog 63 #[.agg CL.toArray] W (GaveF x.c W) from fun W hW => by
        rw [← hL.arr]; exact copyOf_any x.c hfit _ _ _ W hW)
      have hble := built_le x.c
      unfold noneB at HFN HFF HFM
      unfold fullB at HFF HFM
      rw [typesV_ck] at HFF HFM
      generalize (buildC x.c).1.size = m at *
      have q1 : (k : Int) < (l.length : Int) := by omega
      have q2 : (0 : Int) ≤ (k : Int) := by omega
      clear hr' hp hL hfit fN fF fM HC HK HFT hs HRR
      go_wp2_with (first
        | (refine wpList_load_mid rfl 52 (.tmp 19) rfl b (off + k * 14) rfl CL _ HR.out Tryz.underlying52 rfl HL.out.size ?_)
        | (refine wpList_store_row rfl 52 (.tmp 12) (.tmp 20) rfl wr.heap.size CL.toArray rfl rfl 52 _ (heap_alloc_new _ _) HL.out.sizeA (ckZero.trans HL.out.fourteen.symm) HONE.out ?_; rw [World.setRow_alloc_new])
        | (refine wpList_load_row rfl 52 (.tmp 12) rfl wr.heap.size rfl 52 CL.toArray (0, 0) _ (heap_alloc_new _ _) Tryz.underlying52 rfl HL.out.sizeA ?_))
      refine (HSZ.out _ HE0.out.parts).mono ?_
      rintro _ w2 ⟨rfl, hb2⟩
      have HE := Lib.hid (HE0.out.later hb2)
      clear hb2 HE0 HR HSZ
      have z0 : ((m : Int) == 0) = decide (m = 0) := by rw [Bool.eq_iff_iff, beq_iff_eq, decide_eq_true_eq]; omega
      by_cases hm0 : m = 0
      · rw [decide_eq_true hm0] at z0
        have HN := Lib.hid (HFN.out (by rw [decide_eq_true hm0]; rfl))
        go_wp2_with fail
        go_roundw
        case rel => exact ⟨k + 1, sz, dn + 1, acc, _, by omega, rfl, by go_num, by go_num, hsz, by omega, by omega, Lib.hid ⟨HE.out.base, HN.out⟩⟩
        case measure => simp [intOf]; omega
      rw [decide_eq_false hm0] at z0
      simp only [decide_eq_false hm0, Bool.false_or] at HFN HFF HFM
      have v1 : IntKind.i64.wrap (12 + (m : Int)) = 12 + (m : Int) := by rw [IntKind.wrap_i64]; omega
      by_cases h12 : most < 12 + (m : Int)
      · have HN := Lib.hid (HFN.out (by rw [decide_eq_true (by omega)]; rfl))
        go_wp2_with fail
        go_roundw
        case rel => exact ⟨k + 1, sz, dn + 1, acc, _, by omega, rfl, by go_num, by go_num, hsz, by omega, by omega, Lib.hid ⟨HE.out.base, HN.out⟩⟩
        case measure => simp [intOf]; omega
      simp only [show decide (most < ((12 + m : Nat) : Int)) = false from decide_eq_false (by omega), Bool.false_or] at HFN HFF HFM
      obtain ⟨e0, e1, e2, e3⟩ := HE.out.base.e
      go_wp2_with (first
        | (refine wpList_load_row rfl 52 (.tmp 12) rfl wr.heap.size rfl 52 CL.toArray (0, 0) _ HE.out.ck Tryz.underlying52 rfl HL.out.sizeA ?_))
      refine (HT0.out _ HE.out.parts).mono ?_
      rintro _ w3 ⟨rfl, hb3⟩
      replace HE := Lib.hid (HE.out.later hb3)
      clear hb3 HT0 e0 e1 e2 e3
      generalize takesB f t g [] x.c.type = r0 at *
      cases r0
      · have HN := Lib.hid (HFN.out rfl)
        go_wp2_with fail
        go_roundw
        case rel => exact ⟨k + 1, sz, dn + 1, acc, _, by omega, rfl, by go_num, by go_num, hsz, by omega, by omega, Lib.hid ⟨HE.out.base, HN.out⟩⟩
        case measure => simp [intOf]; omega
      have v2 : IntKind.i64.wrap ((sz : Int) + (m : Int)) = ((sz + m : Nat) : Int) := by rw [IntKind.wrap_i64]; omega
      by_cases hsm : most < ((sz + m : Nat) : Int)
      · have HF := Lib.hid (HFF.out rfl (by rw [decide_eq_true hsm]; rfl))
        obtain ⟨p0, p1, p2, p3⟩ := HE.out.base.p
        have HE1 := Lib.hid HE.out.base
        clear HE HL HONE HCP HFN HFF HFM
        have HONEU := Lib.hid (pk_one f t g UA acc.length uk)
        go_wp2_with (first
          | (refine wpList_store_row rfl 26 (.tmp 6) (.tmp 57) rfl (w.heap.size + 1) _ rfl rfl 26 _ HE1.out.out HPS.out rfl HONEU.out ?_))
        try rw [Exit.noGoto_ret]
        have hF := HF.out
        have HB2 := below_setRow (g := w.heap.size + 1) HE1.out.below (by omega) #[.int .u16 (f : Int), .int .u16 (t : Int), .int .u32 (g : Int), (.slice UA acc.length uk)]
        refine bodyPost_ret (results_pk1 (P := Tryz.prog) rfl _ _ (w.heap.size + 1) 26 #[.int .u16 (f : Int), .int .u16 (t : Int), .int .u32 (g : Int), (.slice UA acc.length uk)] (0, 0) _ rfl (setRow_heap _ _ _ _ _ _ HE1.out.out) Tryz.underlying26 rfl HPS.out) rfl ⟨_, acc, ?_, (HE1.out.gone _).base (by omega), by rw [← hF], HB2⟩
        rw [← hF]
        rfl
      simp only [decide_eq_false hsm, Bool.false_or] at HFF HFM
      obtain ⟨p0, p1, p2, p3⟩ := HE.out.base.p
      go_wp2_with (first
        | (refine wpList_load_row rfl 52 (.tmp 12) rfl wr.heap.size rfl 52 CL.toArray (0, 0) _ HE.out.ck Tryz.underlying52 rfl HL.out.sizeA ?_))
      refine (HT1.out _ HE.out.base.rk.row HE.out.parts).mono ?_
      rintro _ w4 ⟨rfl, hb4⟩
      replace HE := Lib.hid (HE.out.later hb4)
      clear hb4 HT1 p0 p1 p2 p3
      generalize takesB f t g (typesV acc) x.c.type = r1 at *
      cases r1
      · have HF := Lib.hid (HFF.out rfl rfl)
        obtain ⟨p0, p1, p2, p3⟩ := HE.out.base.p
        have HE1 := Lib.hid HE.out.base
        clear HE HL HONE HCP HFN HFF HFM
        have HONEU := Lib.hid (pk_one f t g UA acc.length uk)
        go_wp2_with (first
          | (refine wpList_store_row rfl 26 (.tmp 6) (.tmp 57) rfl (w.heap.size + 1) _ rfl rfl 26 _ HE1.out.out HPS.out rfl HONEU.out ?_))
        try rw [Exit.noGoto_ret]
        have hF := HF.out
        have HB2 := below_setRow (g := w.heap.size + 1) HE1.out.below (by omega) #[.int .u16 (f : Int), .int .u16 (t : Int), .int .u32 (g : Int), (.slice UA acc.length uk)]
        refine bodyPost_ret (results_pk1 (P := Tryz.prog) rfl _ _ (w.heap.size + 1) 26 #[.int .u16 (f : Int), .int .u16 (t : Int), .int .u32 (g : Int), (.slice UA acc.length uk)] (0, 0) _ rfl (setRow_heap _ _ _ _ _ _ HE1.out.out) Tryz.underlying26 rfl HPS.out) rfl ⟨_, acc, ?_, (HE1.out.gone _).base (by omega), by rw [← hF], HB2⟩
        rw [← hF]
        rfl
      have HM := Lib.hid (HFM.out rfl rfl)
      clear HFN HFF HFM
      go_wp2_with fail
      refine wp_region_noPanic ?_
      refine wp_region_waits (S := (FlR w.heap.size f t g w (.slice UA acc.length uk) wr.heap.size CL)) [7] (by kernel_rfl) ?_ (fun hHeld => ?_)
      · exact (FlR.mk HE.out.base.pk HE.out.ck HE.out.base.below : FlR w.heap.size f t g w _ wr.heap.size CL w4).later (Below.refl _ _).drew
      refine wpAnyW_take (i := 0) (v := ?_) (by simp only [q9a, q9z]; rfl) (by kernel_rfl) (by kernel_rfl) (by kernel_rfl) (by kernel_rfl) (by kernel_rfl) (fun _ _ _ h => h) (Or.inl ⟨by rfl, ?_⟩) (by assumption) ?_
      rotate_left 1
      · (intro w' hSw; have c0 := hSw.p3; clear hSw; (try dsimp only at hSw); go_simp; try with_reducible rfl)
      try simp only [Act.put, p9a, p9z, p9s]
      refine wpAnyW_take (i := 1) (v := ?_) (by simp only [q9a, q9s, q9z]; rfl) (by kernel_rfl) (by kernel_rfl) (by kernel_rfl) (by kernel_rfl) (by kernel_rfl) (fun _ _ _ h => h) (Or.inl ⟨by rfl, ?_⟩) (by assumption) ?_
      rotate_left 1
      · (intro w' hSw; have c0 := hSw.p3; clear hSw; (try dsimp only at hSw); go_simp; try with_reducible rfl)
      try simp only [Act.put, p9a, p9z, p9s]
      refine wpAnyW_take (i := 2) (v := _) (by simp only [q9a, q9s, q9z]; rfl) (by kernel_rfl) (by kernel_rfl) (by kernel_rfl) (by kernel_rfl) (by kernel_rfl) (fun _ _ _ h => h) (yieldsIf_load_mid (by rfl) 52 (.tmp 12) rfl wr.heap.size 0 (by rfl) CL _ (fun W h => h.range) Tryz.underlying52 rfl HL.out.size) (by assumption) ?_
      try simp only [Act.put, p9a, p9z, p9s]
      refine wpAnyW_held (i := 3) (by kernel_rfl) (by simp only [q9a, q9s, q9z]; rfl) (fun K hK => ?_)
      go_simp
      refine (HCP.out _ HE.out.drew.parts).mono ?_
      rintro _ w5 ⟨g', d', i', rfl, hp5, hb5⟩
      obtain ⟨⟨G1, kg, rfl⟩, ⟨D1, kd, rfl⟩, ⟨I1, ki, rfl⟩⟩ := hp5.now.slices
      have HP5 := Lib.hid (hp5.base (B := w.heap.size + 3) HE.out.drew.base.since)
      have HB5 := Lib.hid (Below.trans (Below.refl w4.heap.size w4).drew hb5)
      have hS := hHeld.later hb5
      clear hHeld hp5 hb5
      dsimp only [cellsC]
      go_wp2_with fail
      refine hK.out _ _ ?_ (fun hHeld => ?_)
      · exact hS
      clear hK K
      try simp only [Act.put, p9a, p9z, p9s]
      refine wpAnyW_held (i := 4) (by kernel_rfl) (by simp only [q9a, q9s, q9z]; rfl) (fun K hK => ?_)
      have hS := hHeld.later ((Below.refl _ _).alloc (Nat.le_refl _) (.cells #[.int .i64 x.c.type, .int .i64 x.c.flags, .int .u32 (x.c.tsn : Int), .int .u32 (x.c.tag : Int), .int .u32 (x.c.window : Int), .int .u32 (x.c.ppid : Int), .int .u16 (x.c.stream : Int), .int .u16 (x.c.ssn : Int), .int .u16 (x.c.outs : Int), .int .u16 (x.c.ins : Int), .slice G1 x.c.gaps.length kg, .slice D1 x.c.dups.length kd, .slice I1 x.c.items.length ki, .string x.c.text] 52))
      clear hHeld
      go_simp
      refine hK.out _ _ ?_ (fun hHeld => ?_)
      · exact hS
      clear hK K
      try simp only [Act.put, p9a, p9z, p9s]
      refine wpAnyW_held (i := 5) (by kernel_rfl) (by simp only [q9a, q9s, q9z]; rfl) (fun K hK => ?_)
      have hz := HE.out.base.since
      have hz5 := HB5.out.size
      have HB6 := Lib.hid (HB5.out.alloc hz5 (.cells #[.int .i64 x.c.type, .int .i64 x.c.flags, .int .u32 (x.c.tsn : Int), .int .u32 (x.c.tag : Int), .int .u32 (x.c.window : Int), .int .u32 (x.c.ppid : Int), .int .u16 (x.c.stream : Int), .int .u16 (x.c.ssn : Int), .int .u16 (x.c.outs : Int), .int .u16 (x.c.ins : Int), .slice G1 x.c.gaps.length kg, .slice D1 x.c.dups.length kd, .slice I1 x.c.items.length ki, .string x.c.text] 52))
      have HO6 := Lib.hid (HE.out.base.row.later HB6.out)
      have HONE5 := Lib.hid (ck_ones x.c G1 D1 I1 kg kd ki)
      refine step_append_base _ (by rfl) (.tmp 24) (.tmp 27) 24 24 (by rfl) (w.heap.size + 3) (by simp; omega) 52 i0 _ 14 128 Tryz.underlying24 (.inr ⟨_, Tryz.underlying24⟩) HI.out HZ0.out HZ1.out HZ2.out rfl _ acc.length _ (by rfl) HO6.out _ 1 [.int .i64 x.c.type, .int .i64 x.c.flags, .int .u32 (x.c.tsn : Int), .int .u32 (x.c.tag : Int), .int .u32 (x.c.window : Int), .int .u32 (x.c.ppid : Int), .int .u16 (x.c.stream : Int), .int .u16 (x.c.ssn : Int), .int .u16 (x.c.outs : Int), .int .u16 (x.c.ins : Int), .slice G1 x.c.gaps.length kg, .slice D1 x.c.dups.length kd, .slice I1 x.c.items.length ki, .string x.c.text] (by rfl) (Fed.block (heap_alloc_new _ _) rfl HONE5.out) (by simp only [maxLen]; omega) (by omega) ?_
      intro v7 w7 hown7 hg7
      obtain ⟨VA, vk, rfl, -⟩ := hown7.slice
      have hS := HE.out.grown HLTU.out HB6.out hg7
      have HN := Lib.hid (FlS.put (x := ⟨x.c, .slice G1 x.c.gaps.length kg, .slice D1 x.c.dups.length kd, .slice I1 x.c.items.length ki⟩) HE.out.base HB6.out (HP5.out.later ((Below.refl _ _).alloc (Nat.le_refl _) _)) hown7 hg7)
      clear hown7 hg7
      refine hK.out _ _ ?_ (fun hHeld => ?_)
      · exact hS
      clear hK K
      try simp only [Act.put, p9a, p9z, p9s]
      refine wpAnyW_take (i := 6) (v := ?_) (by simp only [q9a, q9s, q9z]; rfl) (by kernel_rfl) (by kernel_rfl) (by kernel_rfl) (by kernel_rfl) (by kernel_rfl) (fun _ _ _ h => h) (Or.inl ⟨by rfl, ?_⟩) (by assumption) ?_
      rotate_left 1
      · (intro w' hSw; have c0 := hSw.p3; clear hSw; (try dsimp only at hSw); go_simp; try with_reducible rfl)
      try simp only [Act.put, p9a, p9z, p9s]
      refine wpAnyW_freed (i := 7) (by kernel_rfl) (by kernel_rfl) (by simp only [q9a, q9s, q9z]; rfl) (fun K hK => ?_)
      have c3 := hHeld.p3
      have f3 := frozen_of_row hHeld.pk 3
      clear hHeld
      go_simp
      refine hK.out _ _ ?_
      clear hK K
      try simp only [Act.put, p9a, p9z, p9s]
      refine wpAnyW_done (by kernel_rfl) ?_ _
      refine NoPanic.normal ?_
      clear c3 f3
      go_wp2_with fail
      go_roundw
      case rel => exact ⟨k + 1, sz + m, dn + 1, acc ++ [⟨x.c, .slice G1 x.c.gaps.length kg, .slice D1 x.c.dups.length kd, .slice I1 x.c.items.length ki⟩], _, by omega, by go_num, by go_num, by go_num, by omega, by omega, by rw [List.length_append, List.length_singleton]; omega, Lib.hid ⟨HN.out, by have := HM.out; simpa [ckV] using this⟩⟩
      case measure => simp [intOf]; omega
    · obtain rfl : k = l.length := by omega
      have HF := Lib.hid ((fillF_end l (ckV acc) sz dn).symm.trans HRR.out)
      obtain ⟨p0, p1, p2, p3⟩ := hs.p
      have HE1 := Lib.hid hs
      clear hs HRR HC HK HFT
      have HONEU := Lib.hid (pk_one f t g UA acc.length uk)
      go_wp2_with (first
        | (refine wpList_store_row rfl 26 (.tmp 6) (.tmp 57) rfl (w.heap.size + 1) _ rfl rfl 26 _ HE1.out.out HPS.out rfl HONEU.out ?_))
      try rw [Exit.noGoto_ret]
      have hF := HF.out
      have HB2 := below_setRow (g := w.heap.size + 1) HE1.out.below (by omega) #[.int .u16 (f : Int), .int .u16 (t : Int), .int .u32 (g : Int), (.slice UA acc.length uk)]
      refine bodyPost_ret (results_pk1 (P := Tryz.prog) rfl _ _ (w.heap.size + 1) 26 #[.int .u16 (f : Int), .int .u16 (t : Int), .int .u32 (g : Int), (.slice UA acc.length uk)] (0, 0) _ rfl (setRow_heap _ _ _ _ _ _ HE1.out.out) Tryz.underlying26 rfl HPS.out) rfl ⟨_, acc, ?_, (HE1.out.gone _).base (by omega), by rw [← hF], HB2⟩
      rw [← hF]
      rfl
end Go.Proofs.YtlbaockipeojhaaGreat
