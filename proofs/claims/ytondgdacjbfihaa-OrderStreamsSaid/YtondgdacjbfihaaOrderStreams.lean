/-
  Messages of a stream are told in the order of their numbers, each once, without gaps, in whatever order they come: any first numbers, any order of coming.
-/
import Derived.Test.YtondgdacjbfihaaLift
import Derived.Test.YtondgdacjbfihaaPf
import Derived.Deep.CutBlock
import Derived.Deep.CutRange
import Derived.Deep.Cut
namespace Go.Proofs.Ytondgdacjbfihaa.orderStreams
open Go.ChangeShapes Go.WideShapes Go.ChangeAt Go.RowKit
set_option linter.unusedVariables false
set_option linter.unusedSimpArgs false
set_option maxRecDepth 100000

set_option maxHeartbeats 8000000 in
theorem walk (F : List UInt16) (l : List Int) (hl : ∀ c ∈ l, Fits c) (v v1 : Value) (w : World) (h : RowE enc16 w v F) (h1 : RowE encI w v1 l) : Calls Try.prog 4 #[v, v1] w fun e w' => e = .returned (.bool true) ∧ Below w.heap.size w w' := by
  have HSH := Lib.hid shown_any
  have HV := Lib.hid h1
  have HFI := Lib.hid hl
  have HB := Lib.hid (Below.refl w.heap.size w)
  obtain ⟨Af, cf, rfl, hcf, hrow⟩ := row_at16 h
  obtain ⟨A, cap, rfl, hcap, hmx, hce⟩ := id h1
  have hmxI : (l.length : Int) ≤ 9223372036854775807 := by unfold maxLen at hmx; omega
  have hfxI : (F.length : Int) ≤ 9223372036854775807 := by obtain ⟨_, _, _, q1, q2, _⟩ := id h; unfold maxLen at q2; omega
  obtain ⟨i1, hi1, hy0, hy1, hy2⟩ := info_parts infoA20
  have HI1 := Lib.hid hi1
  have HY0 := Lib.hid hy0
  have HY1 := Lib.hid hy1
  have HY2 := Lib.hid hy2
  obtain ⟨i2, hi2, hu0, hu1, hu2⟩ := info_parts infoIZ
  have HI2 := Lib.hid hi2
  have HU0 := Lib.hid hu0
  have HU1 := Lib.hid hu1
  have HU2 := Lib.hid hu2
  clear h h1 hl hi1 hy0 hy1 hy2 hi2 hu0 hu1 hu2 hce
  by_cases c1 : F.length < 1
  · have q1 : (F.length : Int) < 1 := by omega
    clear hrow
    go_enter Try.func4, Try.ntmps4
    go_wp2_with (first
      | (go_at_call 8; (with_reducible refine (HSH.out _).mono ?_); rintro e w1 ⟨rfl, hb⟩; replace HB := Lib.hid (HB.out.trans (hb.mono HB.out.size)); clear hb))
    go_ret
    exact ⟨rfl, HB.out⟩
  by_cases c2 : 4 < F.length
  · have q1 : ¬ (F.length : Int) < 1 := by omega
    have q2 : (4 : Int) < (F.length : Int) := by omega
    clear hrow
    go_enter Try.func4, Try.ntmps4
    go_wp2_with (first
      | (go_at_call 8; (with_reducible refine (HSH.out _).mono ?_); rintro e w1 ⟨rfl, hb⟩; replace HB := Lib.hid (HB.out.trans (hb.mono HB.out.size)); clear hb))
    go_ret
    exact ⟨rfl, HB.out⟩
  by_cases c3 : 100 < l.length
  · have q1 : ¬ (F.length : Int) < 1 := by omega
    have q2 : ¬ (4 : Int) < (F.length : Int) := by omega
    have q3 : (100 : Int) < (l.length : Int) := by omega
    clear hrow
    go_enter Try.func4, Try.ntmps4
    go_wp2_with (first
      | (go_at_call 8; (with_reducible refine (HSH.out _).mono ?_); rintro e w1 ⟨rfl, hb⟩; replace HB := Lib.hid (HB.out.trans (hb.mono HB.out.size)); clear hb))
    go_ret
    exact ⟨rfl, HB.out⟩
  obtain ⟨bf, of, rfl, hbf0, hff⟩ := hrow (by omega)
  have HFF := Lib.hid hff
  obtain ⟨ns, hns⟩ : ∃ z, F.length = z := ⟨_, rfl⟩
  have HNS0 := Lib.hid hns
  rw [hns] at c1 c2 hfxI HFF ⊢
  have HNS : Hid (0 < ns) := Lib.hid (by omega)
  have HN4 : Hid (ns ≤ 4) := Lib.hid (by omega)
  have HL1 : Hid (l.length ≤ 100) := Lib.hid (by omega)
  have HNW : Hid (∀ V : World, Calls Try.prog 9 #[.int .i64 (ns : Int)] V fun e w' => ∃ A c, e = .returned (.tuple #[.agg #[.slice A ns c, .slice none 0 0], .int .i64 0]) ∧ w'.ownsRow V.heap.size 38 1 (.slice A ns c) ns ((List.replicate ns (0 : UInt16)).map enc16) ∧ Below V.heap.size V w') := Lib.hid (fun V => by
    have h9 := new_any (ns : Int) V
    rw [show newN (ns : Int) = List.replicate ns 0 by unfold newN; rw [if_neg (by omega)]; rfl, show newE (ns : Int) = 0 by unfold newE; rw [if_neg (by omega)], List.length_replicate] at h9
    exact h9)
  have q1 : ¬ (ns : Int) < 1 := by omega
  have q2 : ¬ (4 : Int) < (ns : Int) := by omega
  have q3 : ¬ (100 : Int) < (l.length : Int) := by omega
  clear c1 c2 c3 hff hns hrow
  go_enter Try.func4, Try.ntmps4
  go_wp2_with (first
      | (go_at_call 8; (with_reducible refine (HSH.out _).mono ?_); rintro e w1 ⟨rfl, hb⟩; replace HB := Lib.hid (HB.out.trans (hb.mono HB.out.size)); clear hb)
      | (go_at_call 9; (with_reducible refine (HNW.out _).mono ?_); rintro e w2 ⟨A0, k0, rfl, hown, hb⟩; obtain ⟨bn, ck, ebn, hbB, -, hk1, hk2, hrb⟩ := RowB.of_own hown HNS.out; cases ebn; have RN0 := Lib.hid hrb; have hbw2 : w.heap.size ≤ bn := Nat.le_trans HB.out.size hbB; replace HB := Lib.hid (HB.out.trans (hb.mono HB.out.size)); have hbn2 := hrb.lt; clear hown hb hrb; obtain ⟨W3, hW3, HZ3, HC3, hs3⟩ := one_open w2 27 #[.slice none 0 0, .slice none 0 0]; obtain ⟨gq, hgq0⟩ : ∃ g, w2.heap.size = g := ⟨_, rfl⟩; rw [hgq0] at HZ3; have hbnq : bn < gq := (by rw [← hgq0]; exact hbn2); clear hs3)
      | ((with_reducible refine gate9 ?_); refine stB (ty := 27) #[.slice (some ⟨bn, 0, none⟩) ns k0, .slice none 0 0] rfl rfl rfl rfl HZ3.out infoQ rfl (cellsQ_one _ _ _ _ _ _) ?_; intro w3 ht hg; have hb := below_of_grown1 HC3.out hg HC3.out.size (Nat.le_of_eq hgq0); have HQ := Lib.hid ht; have HN := Lib.hid (RN0.out.later hb); have hgw : w.heap.size ≤ gq := (by have := HB.out.size; omega); replace HB := Lib.hid (HB.out.trans (hb.mono HB.out.size)); clear ht hg hb HZ3 HC3 RN0))
  clear hW3 hgq0
  go_loopw [8] (fun i wr => ∃ j : Nat, j ≤ ns ∧ i = .int .i64 j ∧ Hid (Bx wr gq 27 #[.slice (some ⟨bn, 0, none⟩) ns k0, .slice none 0 0]) ∧ Hid (RowB enc16 wr bn 38 (F.take j ++ List.replicate (ns - j) 0)) ∧ Hid (Below w.heap.size w wr))
    (fun i _ => ns - (intOf i).toNat)
  case atStart => exact ⟨0, Nat.zero_le _, rfl, HQ, HN, HB⟩
  case round =>
    clear HQ HN HB
    obtain ⟨i, hi, rfl, HQ, HN, HB⟩ := hrel
    by_cases hlt : i < ns
    · have x0 := Lib.hid ((HB.out.cell (p := ⟨bf, of + i, none⟩) hbf0).trans (HFF.out i hlt))
      have hbf : bf < wr.heap.size := by have := HB.out.size; omega
      have q4 : (0 : Int) ≤ (i : Int) := by omega
      have q5 : (i : Int) < (ns : Int) := by omega
      have HIL : Hid (i < ns) := Lib.hid hlt
      have HLX : Hid ((F.take i ++ List.replicate (ns - i) 0).length = ns) := Lib.hid (by have := HNS0.out; simp; omega)
      have HNX : Hid ((F.take i ++ List.replicate (ns - i) 0).set i (atN F i) = F.take (i + 1) ++ List.replicate (ns - (i + 1)) 0) := Lib.hid (by have := firsts_next F i (by rw [HNS0.out]; exact hlt); rw [HNS0.out] at this; exact this)
      generalize atN F i = fi at *
      go_wp2_with fail
      have HS : (fun V => Below wr.heap.size wr V) wr.drew := below_drawn (Below.refl _ _)
      refine wp_region_noPanic ?_
      refine wp_region_waits (S := (fun V => Below wr.heap.size wr V)) [8] (by kernel_rfl) HS (fun hHeld => ?_)
      clear HS
      refine wpAnyW_take (i := 0) (v := ?_) (by simp only [List.getElem?_toArray, List.getElem?_cons_zero]; rfl) (by kernel_rfl) (by kernel_rfl) (by kernel_rfl) (by kernel_rfl) (by kernel_rfl) (fun _ _ _ h => h) (Or.inl ⟨by rfl, ?_⟩) (by assumption) ?_
      rotate_left 1
      · (intro w' hSw; go_simp; try with_reducible rfl)
      try simp only [Act.put, List.setIfInBounds_toArray, List.set_cons_zero, List.set_cons_succ]
      refine wpAnyW_take (i := 1) (v := ?_) (by simp only [List.getElem?_toArray, List.getElem?_cons_succ, List.getElem?_cons_zero]; rfl) (by kernel_rfl) (by kernel_rfl) (by kernel_rfl) (by kernel_rfl) (by kernel_rfl) (fun _ _ _ h => h) (Or.inl ⟨by rfl, ?_⟩) (by assumption) ?_
      rotate_left 1
      · (intro w' hSw; have hq := (HQ.out.later hSw).cell 0 (.slice (some ⟨bn, 0, none⟩) ns k0) rfl; go_simp; try with_reducible rfl)
      try simp only [Act.put, List.setIfInBounds_toArray, List.set_cons_zero, List.set_cons_succ]
      refine wpAnyW_take (i := 2) (v := ?_) (by simp only [List.getElem?_toArray, List.getElem?_cons_succ, List.getElem?_cons_zero]; rfl) (by kernel_rfl) (by kernel_rfl) (by kernel_rfl) (by kernel_rfl) (by kernel_rfl) (fun _ _ _ h => h) (Or.inl ⟨by rfl, ?_⟩) (by assumption) ?_
      rotate_left 1
      · (intro w' hSw; go_simp; try with_reducible rfl)
      try simp only [Act.put, List.setIfInBounds_toArray, List.set_cons_zero, List.set_cons_succ]
      refine wpAnyW_take (i := 3) (v := ?_) (by simp only [List.getElem?_toArray, List.getElem?_cons_succ, List.getElem?_cons_zero]; rfl) (by kernel_rfl) (by kernel_rfl) (by kernel_rfl) (by kernel_rfl) (by kernel_rfl) (fun _ _ _ h => h) (Or.inl ⟨by rfl, ?_⟩) (by assumption) ?_
      rotate_left 1
      · (intro w' hSw; go_simp; try with_reducible rfl)
      try simp only [Act.put, List.setIfInBounds_toArray, List.set_cons_zero, List.set_cons_succ]
      refine wpAnyW_take (i := 4) (v := ?_) (by simp only [List.getElem?_toArray, List.getElem?_cons_succ, List.getElem?_cons_zero]; rfl) (by kernel_rfl) (by kernel_rfl) (by kernel_rfl) (by kernel_rfl) (by kernel_rfl) (fun _ _ _ h => h) (Or.inl ⟨by rfl, ?_⟩) (by assumption) ?_
      rotate_left 1
      · (intro w' hSw; go_simp; try with_reducible rfl)
      try simp only [Act.put, List.setIfInBounds_toArray, List.set_cons_zero, List.set_cons_succ]
      refine wpAnyW_take (i := 5) (v := ?_) (by simp only [List.getElem?_toArray, List.getElem?_cons_succ, List.getElem?_cons_zero]; rfl) (by kernel_rfl) (by kernel_rfl) (by kernel_rfl) (by kernel_rfl) (by kernel_rfl) (fun _ _ _ h => h) (Or.inl ⟨by rfl, ?_⟩) (by assumption) ?_
      rotate_left 1
      · (intro w' hSw; go_simp; try with_reducible rfl)
      try simp only [Act.put, List.setIfInBounds_toArray, List.set_cons_zero, List.set_cons_succ]
      refine wpAnyW_take (i := 6) (v := ?_) (by simp only [List.getElem?_toArray, List.getElem?_cons_succ, List.getElem?_cons_zero]; rfl) (by kernel_rfl) (by kernel_rfl) (by kernel_rfl) (by kernel_rfl) (by kernel_rfl) (fun _ _ _ h => h) (Or.inl ⟨by rfl, ?_⟩) (by assumption) ?_
      rotate_left 1
      · (intro w' hSw; have hq := (hSw.cell (p := ⟨bf, of + i, none⟩) hbf).trans x0.out; go_simp; try with_reducible rfl)
      try simp only [Act.put, List.setIfInBounds_toArray, List.set_cons_zero, List.set_cons_succ]
      refine wpAnyW_take (i := 7) (v := ?_) (by simp only [List.getElem?_toArray, List.getElem?_cons_succ, List.getElem?_cons_zero]; rfl) (by kernel_rfl) (by kernel_rfl) (by kernel_rfl) (by kernel_rfl) (by kernel_rfl) (fun _ _ _ h => h) (Or.inl ⟨by rfl, ?_⟩) (by assumption) ?_
      rotate_left 1
      · (intro w' hSw; go_simp; try with_reducible rfl)
      try simp only [Act.put, List.setIfInBounds_toArray, List.set_cons_zero, List.set_cons_succ]
      refine wpAnyW_freed (i := 8) (by kernel_rfl) (by kernel_rfl) (by simp only [List.getElem?_toArray, List.getElem?_cons_succ, List.getElem?_cons_zero]; rfl) (fun K hK => ?_)
      rw [if_pos (by rfl)]
      refine wpR (ty := 38) i fi rfl rfl rfl (HN.out.later hHeld) (by rw [HLX.out]; exact HIL.out) infoH rfl ?_
      intro y9 ht hg he9
      clear he9
      rw [HNX.out] at ht
      replace HN := Lib.hid ht
      replace HQ := Lib.hid ((HQ.out.later hHeld).kept hg (Nat.ne_of_gt hbnq))
      replace HB := Lib.hid (below_of_grown1 (HB.out.trans (hHeld.mono HB.out.size)) hg (HB.out.trans (hHeld.mono HB.out.size)).size hbw2)
      clear ht hg
      refine hK.out _ _ ?_
      clear hK K hHeld
      try simp only [Act.put, List.setIfInBounds_toArray, List.set_cons_zero, List.set_cons_succ]
      refine wpAnyW_done (by kernel_rfl) ?_ _
      refine NoPanic.normal ?_
      go_wp2_with fail
      go_roundw
      case rel => exact ⟨i + 1, by omega, by go_num, HQ, HN, HB⟩
      case measure => simp [intOf]; omega
    · obtain rfl : ns = i := by omega
      have HN9 : Hid (RowB enc16 wr bn 38 F) := Lib.hid (by have h9 := HN.out; rw [Nat.sub_self, List.replicate_zero, List.append_nil, ← HNS0.out, List.take_length] at h9; exact h9)
      have hbq9 := HQ.out.lt
      replace HN := HN9
      clear HN9
      generalize wr = wm at *
      go_wp2_with (first
      | (at_make; refine wpList_make_full _ rfl (.tmp 60) (.tmp 60) 60 rfl wm.heap.size 61 i1 _ 20 Try.underlying60 HI1.out HY0.out HY1.out .i64 .i64 _ _ ns rfl rfl rfl rfl (by rw [HY2.out]; have := HN4.out; omega) (by have := HN4.out; unfold maxLen; omega) (Nat.le_refl _) ?_; intro w5 hown hg5; rw [noflags] at hown; have hb5 := below_none hg5; have HCM := Lib.hid (RowB.of_some2 hown); replace HQ := Lib.hid (HQ.out.later hb5); replace HN := Lib.hid (HN.out.later hb5); replace HB := Lib.hid (HB.out.trans (hb5.mono HB.out.size)); have hs5 := HCM.out.lt; clear hown hg5 hb5)
      | (at_make; refine wpList_make_full _ rfl (.tmp 63) (.tmp 63) 59 rfl w5.heap.size 3 i2 _ 1 Try.underlying59 HI2.out HU0.out HU1.out .i64 .i64 _ _ ns rfl rfl rfl rfl (by rw [HU2.out]; have := HN4.out; omega) (by have := HN4.out; unfold maxLen; omega) (Nat.le_refl _) ?_; intro w6 hown hg6; rw [nocounts] at hown; have hb6 := below_none hg6; have HTD := Lib.hid (RowB.of_some2 hown); replace HCM := Lib.hid (HCM.out.later hb6); replace HQ := Lib.hid (HQ.out.later hb6); replace HN := Lib.hid (HN.out.later hb6); replace HB := Lib.hid (HB.out.trans (hb6.mono HB.out.size)); clear hown hg6 hb6))
      have hw56 := HTD.out.lt
      have hNs : F.length = ns := HNS0.out
      have hRN : Hid (RowE enc16 w6 (.slice (some ⟨bn, 0, none⟩) ns k0) F) := Lib.hid (by have h9 := HN.out.row (cap := k0) (by rw [hNs]; exact hk1) hk2; rw [hNs] at h9; exact h9)
      have hIS : Hid (InvS F F [] (List.replicate (ns * 20) false) (List.replicate ns 0)) := Lib.hid (by have h9 := InvS.start F; rw [hNs] at h9; exact h9)
      have hwgc : w.heap.size ≤ wm.heap.size := by omega
      have HGC := Lib.hid (show w.heap.size ≤ wm.heap.size ∧ w.heap.size ≤ gq ∧ gq < wm.heap.size ∧ wm.heap.size < w5.heap.size from ⟨hwgc, hgw, hbq9, hs5⟩)
      clear hNs HN
      go_loopw [11] (fun v11 wr => ∃ (j : Nat) (nx : List UInt16) (wt : List Mg) (came : List Bool) (told : List Nat) (A1 : Option Addr) (c1 : Nat) (A2 : Option Addr) (c2 : Nat), j ≤ l.length ∧ v11 = .int .i64 j ∧ Hid (InvS F nx wt came told ∧ wt.length ≤ j) ∧ Hid (Bx wr gq 27 #[.slice A1 ns c1, .slice A2 wt.length c2] ∧ RowE enc16 wr (.slice A1 ns c1) nx ∧ RowM wr (.slice A2 wt.length c2) wt ∧ NotIn wm.heap.size (.slice A1 ns c1) ∧ NotIn wm.heap.size (.slice A2 wt.length c2) ∧ NotIn w5.heap.size (.slice A1 ns c1) ∧ NotIn w5.heap.size (.slice A2 wt.length c2)) ∧ Hid (RowB encB wr wm.heap.size 61 came) ∧ Hid (RowB encT wr w5.heap.size 3 told) ∧ Hid (Below w.heap.size w wr))
        (fun v11 _ => l.length - (intOf v11).toNat)
      case atStart => exact ⟨0, F, [], _, _, some ⟨bn, 0, none⟩, k0, none, 0, Nat.zero_le _, rfl, Lib.hid ⟨hIS.out, Nat.le_refl _⟩, Lib.hid ⟨HQ.out, hRN.out, RowM.nil _, (fun a n c e => by cases e; show bn ≠ _; omega), (fun a n c e => by cases e), (fun a n c e => by cases e; show bn ≠ _; omega), (fun a n c e => by cases e)⟩, HCM, HTD, HB⟩
      case round =>
        clear HQ HCM HTD HB hRN hIS
        obtain ⟨j, nx, wt, came, told, A1q, c1q, A2q, c2q, hj, rfl, HIS, HQA, HCM, HTD, HB⟩ := hrel
        obtain ⟨hbx, hrn, hrw, hm1, hm2, hm3, hm4⟩ := HQA.out
        have HQ := Lib.hid hbx
        have HN := Lib.hid hrn
        have HWT := Lib.hid hrw
        have HNM := Lib.hid (show NotIn wm.heap.size (.slice A1q ns c1q) ∧ NotIn wm.heap.size (.slice A2q wt.length c2q) ∧ NotIn w5.heap.size (.slice A1q ns c1q) ∧ NotIn w5.heap.size (.slice A2q wt.length c2q) from ⟨hm1, hm2, hm3, hm4⟩)
        have hgq := hbx.lt
        have hgc := HCM.out.lt
        have hgt := HTD.out.lt
        clear hbx hrn hrw HQA hm1 hm2 hm3 hm4
        by_cases hlt : j < l.length
        · have hv := HV.out
          obtain ⟨A8, c8, e8, hc8, hm8, hce⟩ := hv
          obtain ⟨b, off, rfl, hbw0, hcs⟩ := hce (by omega)
          cases e8
          have hx := hcs j hlt
          rw [getElem!_pos l j hlt] at hx
          have x1 := (HB.out.cell (p := ⟨b, off + j, none⟩) hbw0).trans (show w.cell? ⟨b, off + j, none⟩ = some (.int .i64 l[j]) from hx)
          have hfc := HFI.out _ (List.getElem_mem hlt)
          have q4 : (0 : Int) ≤ (j : Int) := by omega
          have q5 : (j : Int) < (l.length : Int) := by omega
          clear hx hcs hce hc8 hm8
          generalize l[j] = c at *
          have hf2 : Fits (c.tdiv 7) := tdiv_fits hfc 7
          have hn4 := HN4.out
          have hnp := HNS.out
          have hl1 := HL1.out
          obtain ⟨sx, hsx, hs4⟩ := pick16 c (ns : Int) (by omega) (by omega)
          obtain ⟨kx, hkx, hk20⟩ := pick16 (c.tdiv 7) 20 (by omega) (by omega)
          have HPK1 := Lib.hid (fun V => pick_any c (ns : Int) hfc (by omega) (by omega) V)
          have HPK2 := Lib.hid (fun V => pick_any (c.tdiv 7) 20 hf2 (by omega) (by omega) V)
          rw [hsx] at HPK1
          rw [hkx] at HPK2
          have hsn : sx.toNat < F.length := by rw [HNS0.out]; omega
          have hkn : kx.toNat < 20 := by omega
          have hwl := HIS.out.2
          have hinv := HIS.out.1
          have hnl2 : nx.length ≤ 100000 := by have := hinv.lenN; rw [HNS0.out] at this; omega
          have HPU := Lib.hid (fun V a b ha hb => put_any nx wt (msgS sx (up (atN F sx.toNat) kx.toNat)) hnl2 (by omega) a b V ha hb hinv.okQ)
          have hnl3 : nx.length = ns := hinv.lenN.trans HNS0.out
          have HNL := Lib.hid hnl3
          rw [HNL.out.symm] at HQ HN HNM
          have xf := (HB.out.cell (p := ⟨bf, of + sx.toNat, none⟩) hbf0).trans (HFF.out sx.toNat (by rw [← HNS0.out]; exact hsn))
          have z1 : IntKind.u16.wrap (sx.toNat : Int) = (sx.toNat : Int) := wrap16 sx
          have z2 : IntKind.u16.wrap (kx.toNat : Int) = (kx.toNat : Int) := wrap16 kx
          have z3 := up_wrap (atN F sx.toNat) kx
          have z4 : IntKind.i64.wrap (c.tdiv 7) = c.tdiv 7 := IntWalk.i64_in _ hf2
          have q6 : (0 : Int) ≤ (sx.toNat : Int) := by omega
          have q8 : (0 : Int) ≤ (kx.toNat : Int) := by omega
          have HXF := Lib.hid xf
          have hbfw : bf < wr.heap.size := by have := HB.out.size; omega
          have hci : sx.toNat * 20 + kx.toNat < came.length := by rw [hinv.lenC]; omega
          have HCI := Lib.hid hci
          have yc := HCM.out.cell hci
          rw [← caB_at hci] at yc
          have HYC := Lib.hid yc
          clear yc hci hnl3 hnl2 xf
          cases hcb : caB came (sx.toNat * 20 + kx.toNat) with
          | true =>
            rw [hinv.there hsn hkn hcb] at HPU
            rw [hcb] at HYC
            clear hinv hcb hwl hfc hsx hkx hsn hkn hn4 hnp hl1
            generalize putN nx wt (msgS sx (up (atN F sx.toNat) kx.toNat)) = nn at *
            generalize putW nx wt (msgS sx (up (atN F sx.toNat) kx.toNat)) = ww at *
            generalize putT nx wt (msgS sx (up (atN F sx.toNat) kx.toNat)) = tt at *
            generalize up (atN F sx.toNat) kx.toNat = um at *
            generalize atN F sx.toNat = fs at *
            go_wp2_with (first
      | (go_at_call 15; (with_reducible refine (HPK1.out _).mono ?_); rintro e w8 ⟨rfl, h4⟩; obtain rfl := h4.symm)
      | (go_at_call 15; (with_reducible refine (HPK2.out _).mono ?_); rintro e w9 ⟨rfl, h4⟩; obtain rfl := h4.symm))
            go_cut [14, 15, 16] from 71 to 100 (fun v14 v15 v16 wx => ∃ (ga : Nat) (A1 : Option Addr) (c1 : Nat) (A2 : Option Addr) (c2 : Nat) (A3 : Option Addr) (c3 : Nat), v14 = .pointer (some ⟨ga, 0, none⟩) ∧ v15 = .slice A3 tt.length c3 ∧ v16 = .int .i64 9 ∧ Hid (Bx wx ga 27 #[.slice A1 nn.length c1, .slice A2 ww.length c2] ∧ RowE enc16 wx (.slice A1 nn.length c1) nn ∧ RowM wx (.slice A2 ww.length c2) ww ∧ RowM wx (.slice A3 tt.length c3) tt ∧ NotIn gq (.slice A1 nn.length c1) ∧ NotIn gq (.slice A2 ww.length c2) ∧ NotIn gq (.slice A3 tt.length c3) ∧ Below wr.heap.size wr wx ∧ NotIn wm.heap.size (.slice A1 nn.length c1) ∧ NotIn wm.heap.size (.slice A2 ww.length c2) ∧ NotIn w5.heap.size (.slice A1 nn.length c1) ∧ NotIn w5.heap.size (.slice A2 ww.length c2) ∧ NotIn wm.heap.size (.slice A3 tt.length c3) ∧ NotIn w5.heap.size (.slice A3 tt.length c3) ∧ wr.heap.size ≤ ga))
            case first =>
              have HS : (fun V => Below wr.heap.size wr V) wr.drew := below_drawn (Below.refl _ _)
              refine wp_region_noPanic ?_
              refine wp_region_waits (S := (fun V => Below wr.heap.size wr V)) [19] (by kernel_rfl) HS (fun hHeld => ?_)
              clear HS
              refine wpAnyW_take (i := 0) (v := _) (by simp only [List.getElem?_toArray, List.getElem?_cons_zero]; rfl) (by kernel_rfl) (by kernel_rfl) (by kernel_rfl) (by kernel_rfl) (by kernel_rfl) (fun _ _ _ h => h) (yB (ty := 27) (by rfl) rfl rfl (fun V h => HQ.out.later h) Try.underlying27 rfl infoQ) (by assumption) ?_
              try simp only [Act.put, List.setIfInBounds_toArray, List.set_cons_zero, List.set_cons_succ]
              refine wpAnyW_take (i := 1) (v := ?_) (by simp only [List.getElem?_toArray, List.getElem?_cons_succ, List.getElem?_cons_zero]; rfl) (by kernel_rfl) (by kernel_rfl) (by kernel_rfl) (by kernel_rfl) (by kernel_rfl) (fun _ _ _ h => h) (Or.inl ⟨by rfl, ?_⟩) (by assumption) ?_
              rotate_left 1
              · (intro w' hSw; go_simp; try with_reducible rfl)
              try simp only [Act.put, List.setIfInBounds_toArray, List.set_cons_zero, List.set_cons_succ]
              refine wpAnyW_take (i := 2) (v := ?_) (by simp only [List.getElem?_toArray, List.getElem?_cons_succ, List.getElem?_cons_zero]; rfl) (by kernel_rfl) (by kernel_rfl) (by kernel_rfl) (by kernel_rfl) (by kernel_rfl) (fun _ _ _ h => h) (Or.inl ⟨by rfl, ?_⟩) (by assumption) ?_
              rotate_left 1
              · (intro w' hSw; go_simp; try with_reducible rfl)
              try simp only [Act.put, List.setIfInBounds_toArray, List.set_cons_zero, List.set_cons_succ]
              refine wpAnyW_take (i := 3) (v := ?_) (by simp only [List.getElem?_toArray, List.getElem?_cons_succ, List.getElem?_cons_zero]; rfl) (by kernel_rfl) (by kernel_rfl) (by kernel_rfl) (by kernel_rfl) (by kernel_rfl) (fun _ _ _ h => h) (Or.inl ⟨by rfl, ?_⟩) (by assumption) ?_
              rotate_left 1
              · (intro w' hSw; go_simp; try with_reducible rfl)
              try simp only [Act.put, List.setIfInBounds_toArray, List.set_cons_zero, List.set_cons_succ]
              refine wpAnyW_take (i := 4) (v := ?_) (by simp only [List.getElem?_toArray, List.getElem?_cons_succ, List.getElem?_cons_zero]; rfl) (by kernel_rfl) (by kernel_rfl) (by kernel_rfl) (by kernel_rfl) (by kernel_rfl) (fun _ _ _ h => h) (Or.inl ⟨by rfl, ?_⟩) (by assumption) ?_
              rotate_left 1
              · (intro w' hSw; go_simp; try with_reducible rfl)
              try simp only [Act.put, List.setIfInBounds_toArray, List.set_cons_zero, List.set_cons_succ]
              refine wpAnyW_take (i := 5) (v := ?_) (by simp only [List.getElem?_toArray, List.getElem?_cons_succ, List.getElem?_cons_zero]; rfl) (by kernel_rfl) (by kernel_rfl) (by kernel_rfl) (by kernel_rfl) (by kernel_rfl) (fun _ _ _ h => h) (Or.inl ⟨by rfl, ?_⟩) (by assumption) ?_
              rotate_left 1
              · (intro w' hSw; go_simp; try with_reducible rfl)
              try simp only [Act.put, List.setIfInBounds_toArray, List.set_cons_zero, List.set_cons_succ]
              refine wpAnyW_take (i := 6) (v := ?_) (by simp only [List.getElem?_toArray, List.getElem?_cons_succ, List.getElem?_cons_zero]; rfl) (by kernel_rfl) (by kernel_rfl) (by kernel_rfl) (by kernel_rfl) (by kernel_rfl) (fun _ _ _ h => h) (Or.inl ⟨by rfl, ?_⟩) (by assumption) ?_
              rotate_left 1
              · (intro w' hSw; have hq := (hSw.cell (p := ⟨bf, of + sx.toNat, none⟩) hbfw).trans HXF.out; go_simp; try with_reducible rfl)
              try simp only [Act.put, List.setIfInBounds_toArray, List.set_cons_zero, List.set_cons_succ]
              refine wpAnyW_take (i := 7) (v := ?_) (by simp only [List.getElem?_toArray, List.getElem?_cons_succ, List.getElem?_cons_zero]; rfl) (by kernel_rfl) (by kernel_rfl) (by kernel_rfl) (by kernel_rfl) (by kernel_rfl) (fun _ _ _ h => h) (Or.inl ⟨by rfl, ?_⟩) (by assumption) ?_
              rotate_left 1
              · (intro w' hSw; go_simp; try with_reducible rfl)
              try simp only [Act.put, List.setIfInBounds_toArray, List.set_cons_zero, List.set_cons_succ]
              refine wpAnyW_take (i := 8) (v := ?_) (by simp only [List.getElem?_toArray, List.getElem?_cons_succ, List.getElem?_cons_zero]; rfl) (by kernel_rfl) (by kernel_rfl) (by kernel_rfl) (by kernel_rfl) (by kernel_rfl) (fun _ _ _ h => h) (Or.inl ⟨by rfl, ?_⟩) (by assumption) ?_
              rotate_left 1
              · (intro w' hSw; go_simp; try with_reducible rfl)
              try simp only [Act.put, List.setIfInBounds_toArray, List.set_cons_zero, List.set_cons_succ]
              refine wpAnyW_take (i := 9) (v := ?_) (by simp only [List.getElem?_toArray, List.getElem?_cons_succ, List.getElem?_cons_zero]; rfl) (by kernel_rfl) (by kernel_rfl) (by kernel_rfl) (by kernel_rfl) (by kernel_rfl) (fun _ _ _ h => h) (Or.inl ⟨by rfl, ?_⟩) (by assumption) ?_
              rotate_left 1
              · (intro w' hSw; go_simp; try with_reducible rfl)
              try simp only [Act.put, List.setIfInBounds_toArray, List.set_cons_zero, List.set_cons_succ]
              refine wpAnyW_take (i := 10) (v := ?_) (by simp only [List.getElem?_toArray, List.getElem?_cons_succ, List.getElem?_cons_zero]; rfl) (by kernel_rfl) (by kernel_rfl) (by kernel_rfl) (by kernel_rfl) (by kernel_rfl) (fun _ _ _ h => h) (Or.inl ⟨by rfl, ?_⟩) (by assumption) ?_
              rotate_left 1
              · (intro w' hSw; go_simp; try with_reducible rfl)
              try simp only [Act.put, List.setIfInBounds_toArray, List.set_cons_zero, List.set_cons_succ]
              refine wpAnyW_two (i := 11) (i2 := 16) (by kernel_rfl) (by simp only [List.getElem?_toArray, List.getElem?_cons_succ, List.getElem?_cons_zero]; rfl) (by simp only [List.getElem?_toArray, List.getElem?_cons_succ, List.getElem?_cons_zero]; rfl) (fun K hK => ?_) (fun K hK => ?_)
              · rw [if_pos (by rfl)]
                go_simp
                refine (HPU.out _ _ _ (HN.out.below hHeld) (HWT.out.below hHeld)).mono ?_
                rintro _ u5 ⟨A1, c1, A2, c2, A3, c3, rfl, r1, r2, r3, o1, o2, o3, hb⟩
                have HS : (fun V => Below wr.heap.size wr V) _ := hHeld.trans (hb.mono hHeld.size)
                have N1 := Lib.hid (o1 gq (Nat.lt_of_lt_of_le hgq hHeld.size))
                have N2 := Lib.hid (o2 gq (Nat.lt_of_lt_of_le hgq hHeld.size))
                have N3 := Lib.hid (o3 gq (Nat.lt_of_lt_of_le hgq hHeld.size))
                have M1a := Lib.hid (o1 wm.heap.size (Nat.lt_of_lt_of_le hgc hHeld.size))
                have M2a := Lib.hid (o2 wm.heap.size (Nat.lt_of_lt_of_le hgc hHeld.size))
                have M3a := Lib.hid (o3 wm.heap.size (Nat.lt_of_lt_of_le hgc hHeld.size))
                have M1b := Lib.hid (o1 w5.heap.size (Nat.lt_of_lt_of_le hgt hHeld.size))
                have M2b := Lib.hid (o2 w5.heap.size (Nat.lt_of_lt_of_le hgt hHeld.size))
                have M3b := Lib.hid (o3 w5.heap.size (Nat.lt_of_lt_of_le hgt hHeld.size))
                have R1 := Lib.hid r1
                have R2 := Lib.hid r2
                have R3 := Lib.hid r3
                clear hHeld r1 r2 r3 o1 o2 o3 hb
                go_wp2_with fail
                refine hK.out _ _ HS (fun hHeld => ?_)
                clear hK K HS
                try simp only [Act.put, List.setIfInBounds_toArray, List.set_cons_zero, List.set_cons_succ]
                refine wpAnyW_take (i := 12) (v := ?_) (by simp only [List.getElem?_toArray, List.getElem?_cons_succ, List.getElem?_cons_zero]; rfl) (by kernel_rfl) (by kernel_rfl) (by kernel_rfl) (by kernel_rfl) (by kernel_rfl) (fun _ _ _ h => h) (Or.inl ⟨by rfl, ?_⟩) (by assumption) ?_
                rotate_left 1
                · (intro w' hSw; go_simp; try with_reducible rfl)
                try simp only [Act.put, List.setIfInBounds_toArray, List.set_cons_zero, List.set_cons_succ]
                refine wpAnyW_take (i := 13) (v := ?_) (by simp only [List.getElem?_toArray, List.getElem?_cons_succ, List.getElem?_cons_zero]; rfl) (by kernel_rfl) (by kernel_rfl) (by kernel_rfl) (by kernel_rfl) (by kernel_rfl) (fun _ _ _ h => h) (Or.inl ⟨by rfl, ?_⟩) (by assumption) ?_
                rotate_left 1
                · (intro w' hSw; go_simp; try with_reducible rfl)
                try simp only [Act.put, List.setIfInBounds_toArray, List.set_cons_zero, List.set_cons_succ]
                refine wpAnyW_take (i := 14) (v := ?_) (by simp only [List.getElem?_toArray, List.getElem?_cons_succ, List.getElem?_cons_zero]; rfl) (by kernel_rfl) (by kernel_rfl) (by kernel_rfl) (by kernel_rfl) (by kernel_rfl) (fun _ _ _ h => h) (Or.inl ⟨by rfl, ?_⟩) (by assumption) ?_
                rotate_left 1
                · (intro w' hSw; go_simp; try with_reducible rfl)
                try simp only [Act.put, List.setIfInBounds_toArray, List.set_cons_zero, List.set_cons_succ]
                refine wpAnyW_take (i := 15) (v := ?_) (by simp only [List.getElem?_toArray, List.getElem?_cons_succ, List.getElem?_cons_zero]; rfl) (by kernel_rfl) (by kernel_rfl) (by kernel_rfl) (by kernel_rfl) (by kernel_rfl) (fun _ _ _ h => h) (Or.inl ⟨by rfl, ?_⟩) (by assumption) ?_
                rotate_left 1
                · (intro w' hSw; go_simp; try with_reducible rfl)
                try simp only [Act.put, List.setIfInBounds_toArray, List.set_cons_zero, List.set_cons_succ]
                refine wpAnyW_held (i := 16) (by kernel_rfl) (by simp only [List.getElem?_toArray, List.getElem?_cons_succ, List.getElem?_cons_zero]; rfl) (fun K hK => ?_)
                rw [if_pos (by rfl)]
                obtain ⟨v8, hv8, HX, HB8, hs8⟩ := one_open u5 27 #[.slice none 0 0, .slice none 0 0]
                obtain ⟨ga, hga0⟩ : ∃ g, u5.heap.size = g := ⟨_, rfl⟩
                rw [hga0] at HX
                have hga : wr.heap.size ≤ ga := by rw [← hga0]; exact hHeld.size
                have HS : (fun V => Below wr.heap.size wr V) _ := hHeld.trans (HB8.out.mono hHeld.size)
                clear hHeld hs8
                go_simp
                clear hv8
                refine hK.out _ _ HS (fun hHeld => ?_)
                clear hK K HS
                try simp only [Act.put, List.setIfInBounds_toArray, List.set_cons_zero, List.set_cons_succ]
                refine wpAnyW_held (i := 17) (by kernel_rfl) (by simp only [List.getElem?_toArray, List.getElem?_cons_succ, List.getElem?_cons_zero]; rfl) (fun K hK => ?_)
                rw [if_pos (by rfl)]
                refine wpB (ty := 27) #[.slice A1 nn.length c1, .slice A2 ww.length c2] rfl rfl rfl HX.out infoQ rfl (cellsQ_one _ _ _ _ _ _) ?_
                intro y9 ht hg
                have HS : (fun V => Below wr.heap.size wr V) _ := below_of_grown1 hHeld hg hHeld.size hga
                have hb9 := below_of_grown1 HB8.out hg HB8.out.size (Nat.le_of_eq hga0)
                replace R1 := Lib.hid (R1.out.below hb9)
                replace R2 := Lib.hid (R2.out.below hb9)
                replace R3 := Lib.hid (R3.out.below hb9)
                replace HX := Lib.hid ht
                clear ht hg hHeld
                refine hK.out _ _ HS (fun hHeld => ?_)
                clear hK K HS
                try simp only [Act.put, List.setIfInBounds_toArray, List.set_cons_zero, List.set_cons_succ]
                refine wpAnyW_held (i := 18) (by kernel_rfl) (by simp only [List.getElem?_toArray, List.getElem?_cons_succ, List.getElem?_cons_zero]; rfl) (fun K hK => ?_)
                rw [if_pos (by rfl)]
                go_simp
                refine hK.out _ _ hHeld (fun hHeld => ?_)
                clear hK K
                try simp only [Act.put, List.setIfInBounds_toArray, List.set_cons_zero, List.set_cons_succ]
                refine wpAnyW_freed (i := 19) (by kernel_rfl) (by kernel_rfl) (by simp only [List.getElem?_toArray, List.getElem?_cons_succ, List.getElem?_cons_zero]; rfl) (fun K hK => ?_)
                rw [if_pos (by rfl)]
                go_simp
                have HE := Lib.hid hHeld
                refine hK.out _ _ ?_
                clear hK K hHeld
                try simp only [Act.put, List.setIfInBounds_toArray, List.set_cons_zero, List.set_cons_succ]
                refine wpAnyW_done (by kernel_rfl) ?_ _
                refine NoPanic.normal ?_
                go_wp2_with fail
                go_meet
                exact ⟨ga, A1, c1, A2, c2, A3, c3, rfl, rfl, rfl, Lib.hid ⟨HX.out, R1.out, R2.out, R3.out, N1.out, N2.out, N3.out, HE.out, M1a.out, M2a.out, M1b.out, M2b.out, M3a.out, M3b.out, hga⟩⟩
              · rw [if_pos (by rfl)]
                obtain ⟨v8, hv8, HX, HB8, hs8⟩ := one_open wr.drew 27 #[.slice none 0 0, .slice none 0 0]
                obtain ⟨ga, hga0⟩ : ∃ g, wr.drew.heap.size = g := ⟨_, rfl⟩
                rw [hga0] at HX
                have hga : wr.heap.size ≤ ga := by rw [← hga0]; exact hHeld.size
                have HS : (fun V => Below wr.heap.size wr V) _ := hHeld.trans (HB8.out.mono hHeld.size)
                clear hHeld hs8
                go_simp
                clear hv8
                refine hK.out _ _ HS (fun hHeld => ?_)
                clear hK K HS
                try simp only [Act.put, List.setIfInBounds_toArray, List.set_cons_zero, List.set_cons_succ]
                refine wpAnyW_held (i := 11) (by kernel_rfl) (by simp only [List.getElem?_toArray, List.getElem?_cons_succ, List.getElem?_cons_zero]; rfl) (fun K hK => ?_)
                rw [if_pos (by rfl)]
                go_simp
                refine (HPU.out _ _ _ (HN.out.below hHeld) (HWT.out.below hHeld)).mono ?_
                rintro _ u5 ⟨A1, c1, A2, c2, A3, c3, rfl, r1, r2, r3, o1, o2, o3, hb⟩
                have HS : (fun V => Below wr.heap.size wr V) _ := hHeld.trans (hb.mono hHeld.size)
                have N1 := Lib.hid (o1 gq (Nat.lt_of_lt_of_le hgq hHeld.size))
                have N2 := Lib.hid (o2 gq (Nat.lt_of_lt_of_le hgq hHeld.size))
                have N3 := Lib.hid (o3 gq (Nat.lt_of_lt_of_le hgq hHeld.size))
                have M1a := Lib.hid (o1 wm.heap.size (Nat.lt_of_lt_of_le hgc hHeld.size))
                have M2a := Lib.hid (o2 wm.heap.size (Nat.lt_of_lt_of_le hgc hHeld.size))
                have M3a := Lib.hid (o3 wm.heap.size (Nat.lt_of_lt_of_le hgc hHeld.size))
                have M1b := Lib.hid (o1 w5.heap.size (Nat.lt_of_lt_of_le hgt hHeld.size))
                have M2b := Lib.hid (o2 w5.heap.size (Nat.lt_of_lt_of_le hgt hHeld.size))
                have M3b := Lib.hid (o3 w5.heap.size (Nat.lt_of_lt_of_le hgt hHeld.size))
                have R1 := Lib.hid r1
                have R2 := Lib.hid r2
                have R3 := Lib.hid r3
                have G1 := Lib.hid (o1 ga HX.out.lt)
                have G2 := Lib.hid (o2 ga HX.out.lt)
                have G3 := Lib.hid (o3 ga HX.out.lt)
                replace HX := Lib.hid (HX.out.later hb)
                clear hHeld r1 r2 r3 o1 o2 o3 hb
                go_wp2_with fail
                refine hK.out _ _ HS (fun hHeld => ?_)
                clear hK K HS
                try simp only [Act.put, List.setIfInBounds_toArray, List.set_cons_zero, List.set_cons_succ]
                refine wpAnyW_take (i := 12) (v := ?_) (by simp only [List.getElem?_toArray, List.getElem?_cons_succ, List.getElem?_cons_zero]; rfl) (by kernel_rfl) (by kernel_rfl) (by kernel_rfl) (by kernel_rfl) (by kernel_rfl) (fun _ _ _ h => h) (Or.inl ⟨by rfl, ?_⟩) (by assumption) ?_
                rotate_left 1
                · (intro w' hSw; go_simp; try with_reducible rfl)
                try simp only [Act.put, List.setIfInBounds_toArray, List.set_cons_zero, List.set_cons_succ]
                refine wpAnyW_take (i := 13) (v := ?_) (by simp only [List.getElem?_toArray, List.getElem?_cons_succ, List.getElem?_cons_zero]; rfl) (by kernel_rfl) (by kernel_rfl) (by kernel_rfl) (by kernel_rfl) (by kernel_rfl) (fun _ _ _ h => h) (Or.inl ⟨by rfl, ?_⟩) (by assumption) ?_
                rotate_left 1
                · (intro w' hSw; go_simp; try with_reducible rfl)
                try simp only [Act.put, List.setIfInBounds_toArray, List.set_cons_zero, List.set_cons_succ]
                refine wpAnyW_take (i := 14) (v := ?_) (by simp only [List.getElem?_toArray, List.getElem?_cons_succ, List.getElem?_cons_zero]; rfl) (by kernel_rfl) (by kernel_rfl) (by kernel_rfl) (by kernel_rfl) (by kernel_rfl) (fun _ _ _ h => h) (Or.inl ⟨by rfl, ?_⟩) (by assumption) ?_
                rotate_left 1
                · (intro w' hSw; go_simp; try with_reducible rfl)
                try simp only [Act.put, List.setIfInBounds_toArray, List.set_cons_zero, List.set_cons_succ]
                refine wpAnyW_take (i := 15) (v := ?_) (by simp only [List.getElem?_toArray, List.getElem?_cons_succ, List.getElem?_cons_zero]; rfl) (by kernel_rfl) (by kernel_rfl) (by kernel_rfl) (by kernel_rfl) (by kernel_rfl) (fun _ _ _ h => h) (Or.inl ⟨by rfl, ?_⟩) (by assumption) ?_
                rotate_left 1
                · (intro w' hSw; go_simp; try with_reducible rfl)
                try simp only [Act.put, List.setIfInBounds_toArray, List.set_cons_zero, List.set_cons_succ]
                refine wpAnyW_held (i := 17) (by kernel_rfl) (by simp only [List.getElem?_toArray, List.getElem?_cons_succ, List.getElem?_cons_zero]; rfl) (fun K hK => ?_)
                rw [if_pos (by rfl)]
                refine wpB (ty := 27) #[.slice A1 nn.length c1, .slice A2 ww.length c2] rfl rfl rfl HX.out infoQ rfl (cellsQ_one _ _ _ _ _ _) ?_
                intro y9 ht hg
                have HS : (fun V => Below wr.heap.size wr V) _ := below_of_grown1 hHeld hg hHeld.size hga
                replace R1 := Lib.hid (R1.out.kept G1.out hg)
                replace R2 := Lib.hid (R2.out.kept G2.out hg)
                replace R3 := Lib.hid (R3.out.kept G3.out hg)
                replace HX := Lib.hid ht
                clear ht hg hHeld
                refine hK.out _ _ HS (fun hHeld => ?_)
                clear hK K HS
                try simp only [Act.put, List.setIfInBounds_toArray, List.set_cons_zero, List.set_cons_succ]
                refine wpAnyW_held (i := 18) (by kernel_rfl) (by simp only [List.getElem?_toArray, List.getElem?_cons_succ, List.getElem?_cons_zero]; rfl) (fun K hK => ?_)
                rw [if_pos (by rfl)]
                go_simp
                refine hK.out _ _ hHeld (fun hHeld => ?_)
                clear hK K
                try simp only [Act.put, List.setIfInBounds_toArray, List.set_cons_zero, List.set_cons_succ]
                refine wpAnyW_freed (i := 19) (by kernel_rfl) (by kernel_rfl) (by simp only [List.getElem?_toArray, List.getElem?_cons_succ, List.getElem?_cons_zero]; rfl) (fun K hK => ?_)
                rw [if_pos (by rfl)]
                go_simp
                have HE := Lib.hid hHeld
                refine hK.out _ _ ?_
                clear hK K hHeld
                try simp only [Act.put, List.setIfInBounds_toArray, List.set_cons_zero, List.set_cons_succ]
                refine wpAnyW_done (by kernel_rfl) ?_ _
                refine NoPanic.normal ?_
                go_wp2_with fail
                go_meet
                exact ⟨ga, A1, c1, A2, c2, A3, c3, rfl, rfl, rfl, Lib.hid ⟨HX.out, R1.out, R2.out, R3.out, N1.out, N2.out, N3.out, HE.out, M1a.out, M2a.out, M1b.out, M2b.out, M3a.out, M3b.out, hga⟩⟩
            case rest =>
              obtain ⟨ga, A1, c1, A2, c2, A3, c3, rfl, rfl, rfl, HH⟩ := hcut
              obtain ⟨hx, r1, r2, r3, n1, n2, n3, hbb, m1, m2, m3, m4, m5, m6, hgaw⟩ := HH.out
              have yc := (hbb.cell (p := ⟨wm.heap.size, sx.toNat * 20 + kx.toNat, none⟩) hgc).trans (show wr.cell? ⟨wm.heap.size, sx.toNat * 20 + kx.toNat, none⟩ = some (.bool true) from HYC.out)
              replace HQ := Lib.hid (HQ.out.later hbb)
              replace HN := Lib.hid (HN.out.below hbb)
              replace HWT := Lib.hid (HWT.out.below hbb)
              replace HCM := Lib.hid (HCM.out.later hbb)
              replace HTD := Lib.hid (HTD.out.later hbb)
              replace HB := Lib.hid (HB.out.trans (hbb.mono HB.out.size))
              rw [HNL.out] at HQ HN HNM
              clear hx r1 r2 r3 n1 n2 n3 hbb m1 m2 m3 m4 m5 m6 hgaw HH hgq hgc hgt hbfw
              go_wp2_with fail
              go_roundw
              case rel => exact ⟨j + 1, nx, wt, came, told, A1q, c1q, A2q, c2q, by omega, by go_num, Lib.hid ⟨HIS.out.1, by have := HIS.out.2; omega⟩, Lib.hid ⟨HQ.out, HN.out, HWT.out, HNM.out⟩, HCM, HTD, HB⟩
              case measure => simp [intOf]; omega
          | false =>
            obtain ⟨K, hE, hT, hK20, hat, hin2⟩ := hinv.step (by omega) hsn hkn hcb
            rw [hE] at HPU
            rw [hcb] at HYC
            have HP1 := Lib.hid (put_ok hinv.okQ (by omega) (msgS sx (up (atN F sx.toNat) kx.toNat)))
            have HWL : Hid ((putW nx wt (msgS sx (up (atN F sx.toNat) kx.toNat))).length ≤ j + 1) := Lib.hid (by have := (HP1.out hE).2.2; omega)
            have HNN : Hid ((putN nx wt (msgS sx (up (atN F sx.toNat) kx.toNat))).length = ns) := Lib.hid (hin2.lenN.trans HNS0.out)
            have HTT := Lib.hid hT
            have HK20 := Lib.hid hK20
            have HAT := Lib.hid hat
            have HIN2 := Lib.hid hin2
            have HSN : Hid (sx.toNat < told.length) := Lib.hid (by rw [hinv.lenT]; exact hsn)
            have HTO : Hid (toN told sx.toNat ≤ 20) := Lib.hid (hinv.top _ hsn)
            have HSF := Lib.hid hsn
            clear hinv hcb hwl hfc hsx hkx hsn hkn hn4 hnp hl1 hE hT hK20 hat hin2 HP1
            generalize putN nx wt (msgS sx (up (atN F sx.toNat) kx.toNat)) = nn at *
            generalize putW nx wt (msgS sx (up (atN F sx.toNat) kx.toNat)) = ww at *
            generalize putT nx wt (msgS sx (up (atN F sx.toNat) kx.toNat)) = tt at *
            generalize up (atN F sx.toNat) kx.toNat = um at *
            generalize hfs : atN F sx.toNat = fs at *
            have HFS := Lib.hid hfs
            clear hfs
            go_wp2_with (first
      | (go_at_call 15; (with_reducible refine (HPK1.out _).mono ?_); rintro e w8 ⟨rfl, h4⟩; obtain rfl := h4.symm)
      | (go_at_call 15; (with_reducible refine (HPK2.out _).mono ?_); rintro e w9 ⟨rfl, h4⟩; obtain rfl := h4.symm))
            go_cut [14, 15, 16] from 71 to 100 (fun v14 v15 v16 wx => ∃ (ga : Nat) (A1 : Option Addr) (c1 : Nat) (A2 : Option Addr) (c2 : Nat) (A3 : Option Addr) (c3 : Nat), v14 = .pointer (some ⟨ga, 0, none⟩) ∧ v15 = .slice A3 tt.length c3 ∧ v16 = .int .i64 0 ∧ Hid (Bx wx ga 27 #[.slice A1 nn.length c1, .slice A2 ww.length c2] ∧ RowE enc16 wx (.slice A1 nn.length c1) nn ∧ RowM wx (.slice A2 ww.length c2) ww ∧ RowM wx (.slice A3 tt.length c3) tt ∧ NotIn gq (.slice A1 nn.length c1) ∧ NotIn gq (.slice A2 ww.length c2) ∧ NotIn gq (.slice A3 tt.length c3) ∧ Below wr.heap.size wr wx ∧ NotIn wm.heap.size (.slice A1 nn.length c1) ∧ NotIn wm.heap.size (.slice A2 ww.length c2) ∧ NotIn w5.heap.size (.slice A1 nn.length c1) ∧ NotIn w5.heap.size (.slice A2 ww.length c2) ∧ NotIn wm.heap.size (.slice A3 tt.length c3) ∧ NotIn w5.heap.size (.slice A3 tt.length c3) ∧ wr.heap.size ≤ ga))
            case first =>
              have HS : (fun V => Below wr.heap.size wr V) wr.drew := below_drawn (Below.refl _ _)
              refine wp_region_noPanic ?_
              refine wp_region_waits (S := (fun V => Below wr.heap.size wr V)) [19] (by kernel_rfl) HS (fun hHeld => ?_)
              clear HS
              refine wpAnyW_take (i := 0) (v := _) (by simp only [List.getElem?_toArray, List.getElem?_cons_zero]; rfl) (by kernel_rfl) (by kernel_rfl) (by kernel_rfl) (by kernel_rfl) (by kernel_rfl) (fun _ _ _ h => h) (yB (ty := 27) (by rfl) rfl rfl (fun V h => HQ.out.later h) Try.underlying27 rfl infoQ) (by assumption) ?_
              try simp only [Act.put, List.setIfInBounds_toArray, List.set_cons_zero, List.set_cons_succ]
              refine wpAnyW_take (i := 1) (v := ?_) (by simp only [List.getElem?_toArray, List.getElem?_cons_succ, List.getElem?_cons_zero]; rfl) (by kernel_rfl) (by kernel_rfl) (by kernel_rfl) (by kernel_rfl) (by kernel_rfl) (fun _ _ _ h => h) (Or.inl ⟨by rfl, ?_⟩) (by assumption) ?_
              rotate_left 1
              · (intro w' hSw; go_simp; try with_reducible rfl)
              try simp only [Act.put, List.setIfInBounds_toArray, List.set_cons_zero, List.set_cons_succ]
              refine wpAnyW_take (i := 2) (v := ?_) (by simp only [List.getElem?_toArray, List.getElem?_cons_succ, List.getElem?_cons_zero]; rfl) (by kernel_rfl) (by kernel_rfl) (by kernel_rfl) (by kernel_rfl) (by kernel_rfl) (fun _ _ _ h => h) (Or.inl ⟨by rfl, ?_⟩) (by assumption) ?_
              rotate_left 1
              · (intro w' hSw; go_simp; try with_reducible rfl)
              try simp only [Act.put, List.setIfInBounds_toArray, List.set_cons_zero, List.set_cons_succ]
              refine wpAnyW_take (i := 3) (v := ?_) (by simp only [List.getElem?_toArray, List.getElem?_cons_succ, List.getElem?_cons_zero]; rfl) (by kernel_rfl) (by kernel_rfl) (by kernel_rfl) (by kernel_rfl) (by kernel_rfl) (fun _ _ _ h => h) (Or.inl ⟨by rfl, ?_⟩) (by assumption) ?_
              rotate_left 1
              · (intro w' hSw; go_simp; try with_reducible rfl)
              try simp only [Act.put, List.setIfInBounds_toArray, List.set_cons_zero, List.set_cons_succ]
              refine wpAnyW_take (i := 4) (v := ?_) (by simp only [List.getElem?_toArray, List.getElem?_cons_succ, List.getElem?_cons_zero]; rfl) (by kernel_rfl) (by kernel_rfl) (by kernel_rfl) (by kernel_rfl) (by kernel_rfl) (fun _ _ _ h => h) (Or.inl ⟨by rfl, ?_⟩) (by assumption) ?_
              rotate_left 1
              · (intro w' hSw; go_simp; try with_reducible rfl)
              try simp only [Act.put, List.setIfInBounds_toArray, List.set_cons_zero, List.set_cons_succ]
              refine wpAnyW_take (i := 5) (v := ?_) (by simp only [List.getElem?_toArray, List.getElem?_cons_succ, List.getElem?_cons_zero]; rfl) (by kernel_rfl) (by kernel_rfl) (by kernel_rfl) (by kernel_rfl) (by kernel_rfl) (fun _ _ _ h => h) (Or.inl ⟨by rfl, ?_⟩) (by assumption) ?_
              rotate_left 1
              · (intro w' hSw; go_simp; try with_reducible rfl)
              try simp only [Act.put, List.setIfInBounds_toArray, List.set_cons_zero, List.set_cons_succ]
              refine wpAnyW_take (i := 6) (v := ?_) (by simp only [List.getElem?_toArray, List.getElem?_cons_succ, List.getElem?_cons_zero]; rfl) (by kernel_rfl) (by kernel_rfl) (by kernel_rfl) (by kernel_rfl) (by kernel_rfl) (fun _ _ _ h => h) (Or.inl ⟨by rfl, ?_⟩) (by assumption) ?_
              rotate_left 1
              · (intro w' hSw; have hq := (hSw.cell (p := ⟨bf, of + sx.toNat, none⟩) hbfw).trans HXF.out; go_simp; try with_reducible rfl)
              try simp only [Act.put, List.setIfInBounds_toArray, List.set_cons_zero, List.set_cons_succ]
              refine wpAnyW_take (i := 7) (v := ?_) (by simp only [List.getElem?_toArray, List.getElem?_cons_succ, List.getElem?_cons_zero]; rfl) (by kernel_rfl) (by kernel_rfl) (by kernel_rfl) (by kernel_rfl) (by kernel_rfl) (fun _ _ _ h => h) (Or.inl ⟨by rfl, ?_⟩) (by assumption) ?_
              rotate_left 1
              · (intro w' hSw; go_simp; try with_reducible rfl)
              try simp only [Act.put, List.setIfInBounds_toArray, List.set_cons_zero, List.set_cons_succ]
              refine wpAnyW_take (i := 8) (v := ?_) (by simp only [List.getElem?_toArray, List.getElem?_cons_succ, List.getElem?_cons_zero]; rfl) (by kernel_rfl) (by kernel_rfl) (by kernel_rfl) (by kernel_rfl) (by kernel_rfl) (fun _ _ _ h => h) (Or.inl ⟨by rfl, ?_⟩) (by assumption) ?_
              rotate_left 1
              · (intro w' hSw; go_simp; try with_reducible rfl)
              try simp only [Act.put, List.setIfInBounds_toArray, List.set_cons_zero, List.set_cons_succ]
              refine wpAnyW_take (i := 9) (v := ?_) (by simp only [List.getElem?_toArray, List.getElem?_cons_succ, List.getElem?_cons_zero]; rfl) (by kernel_rfl) (by kernel_rfl) (by kernel_rfl) (by kernel_rfl) (by kernel_rfl) (fun _ _ _ h => h) (Or.inl ⟨by rfl, ?_⟩) (by assumption) ?_
              rotate_left 1
              · (intro w' hSw; go_simp; try with_reducible rfl)
              try simp only [Act.put, List.setIfInBounds_toArray, List.set_cons_zero, List.set_cons_succ]
              refine wpAnyW_take (i := 10) (v := ?_) (by simp only [List.getElem?_toArray, List.getElem?_cons_succ, List.getElem?_cons_zero]; rfl) (by kernel_rfl) (by kernel_rfl) (by kernel_rfl) (by kernel_rfl) (by kernel_rfl) (fun _ _ _ h => h) (Or.inl ⟨by rfl, ?_⟩) (by assumption) ?_
              rotate_left 1
              · (intro w' hSw; go_simp; try with_reducible rfl)
              try simp only [Act.put, List.setIfInBounds_toArray, List.set_cons_zero, List.set_cons_succ]
              refine wpAnyW_two (i := 11) (i2 := 16) (by kernel_rfl) (by simp only [List.getElem?_toArray, List.getElem?_cons_succ, List.getElem?_cons_zero]; rfl) (by simp only [List.getElem?_toArray, List.getElem?_cons_succ, List.getElem?_cons_zero]; rfl) (fun K hK => ?_) (fun K hK => ?_)
              · rw [if_pos (by rfl)]
                go_simp
                refine (HPU.out _ _ _ (HN.out.below hHeld) (HWT.out.below hHeld)).mono ?_
                rintro _ u5 ⟨A1, c1, A2, c2, A3, c3, rfl, r1, r2, r3, o1, o2, o3, hb⟩
                have HS : (fun V => Below wr.heap.size wr V) _ := hHeld.trans (hb.mono hHeld.size)
                have N1 := Lib.hid (o1 gq (Nat.lt_of_lt_of_le hgq hHeld.size))
                have N2 := Lib.hid (o2 gq (Nat.lt_of_lt_of_le hgq hHeld.size))
                have N3 := Lib.hid (o3 gq (Nat.lt_of_lt_of_le hgq hHeld.size))
                have M1a := Lib.hid (o1 wm.heap.size (Nat.lt_of_lt_of_le hgc hHeld.size))
                have M2a := Lib.hid (o2 wm.heap.size (Nat.lt_of_lt_of_le hgc hHeld.size))
                have M3a := Lib.hid (o3 wm.heap.size (Nat.lt_of_lt_of_le hgc hHeld.size))
                have M1b := Lib.hid (o1 w5.heap.size (Nat.lt_of_lt_of_le hgt hHeld.size))
                have M2b := Lib.hid (o2 w5.heap.size (Nat.lt_of_lt_of_le hgt hHeld.size))
                have M3b := Lib.hid (o3 w5.heap.size (Nat.lt_of_lt_of_le hgt hHeld.size))
                have R1 := Lib.hid r1
                have R2 := Lib.hid r2
                have R3 := Lib.hid r3
                clear hHeld r1 r2 r3 o1 o2 o3 hb
                go_wp2_with fail
                refine hK.out _ _ HS (fun hHeld => ?_)
                clear hK K HS
                try simp only [Act.put, List.setIfInBounds_toArray, List.set_cons_zero, List.set_cons_succ]
                refine wpAnyW_take (i := 12) (v := ?_) (by simp only [List.getElem?_toArray, List.getElem?_cons_succ, List.getElem?_cons_zero]; rfl) (by kernel_rfl) (by kernel_rfl) (by kernel_rfl) (by kernel_rfl) (by kernel_rfl) (fun _ _ _ h => h) (Or.inl ⟨by rfl, ?_⟩) (by assumption) ?_
                rotate_left 1
                · (intro w' hSw; go_simp; try with_reducible rfl)
                try simp only [Act.put, List.setIfInBounds_toArray, List.set_cons_zero, List.set_cons_succ]
                refine wpAnyW_take (i := 13) (v := ?_) (by simp only [List.getElem?_toArray, List.getElem?_cons_succ, List.getElem?_cons_zero]; rfl) (by kernel_rfl) (by kernel_rfl) (by kernel_rfl) (by kernel_rfl) (by kernel_rfl) (fun _ _ _ h => h) (Or.inl ⟨by rfl, ?_⟩) (by assumption) ?_
                rotate_left 1
                · (intro w' hSw; go_simp; try with_reducible rfl)
                try simp only [Act.put, List.setIfInBounds_toArray, List.set_cons_zero, List.set_cons_succ]
                refine wpAnyW_take (i := 14) (v := ?_) (by simp only [List.getElem?_toArray, List.getElem?_cons_succ, List.getElem?_cons_zero]; rfl) (by kernel_rfl) (by kernel_rfl) (by kernel_rfl) (by kernel_rfl) (by kernel_rfl) (fun _ _ _ h => h) (Or.inl ⟨by rfl, ?_⟩) (by assumption) ?_
                rotate_left 1
                · (intro w' hSw; go_simp; try with_reducible rfl)
                try simp only [Act.put, List.setIfInBounds_toArray, List.set_cons_zero, List.set_cons_succ]
                refine wpAnyW_take (i := 15) (v := ?_) (by simp only [List.getElem?_toArray, List.getElem?_cons_succ, List.getElem?_cons_zero]; rfl) (by kernel_rfl) (by kernel_rfl) (by kernel_rfl) (by kernel_rfl) (by kernel_rfl) (fun _ _ _ h => h) (Or.inl ⟨by rfl, ?_⟩) (by assumption) ?_
                rotate_left 1
                · (intro w' hSw; go_simp; try with_reducible rfl)
                try simp only [Act.put, List.setIfInBounds_toArray, List.set_cons_zero, List.set_cons_succ]
                refine wpAnyW_held (i := 16) (by kernel_rfl) (by simp only [List.getElem?_toArray, List.getElem?_cons_succ, List.getElem?_cons_zero]; rfl) (fun K hK => ?_)
                rw [if_pos (by rfl)]
                obtain ⟨v8, hv8, HX, HB8, hs8⟩ := one_open u5 27 #[.slice none 0 0, .slice none 0 0]
                obtain ⟨ga, hga0⟩ : ∃ g, u5.heap.size = g := ⟨_, rfl⟩
                rw [hga0] at HX
                have hga : wr.heap.size ≤ ga := by rw [← hga0]; exact hHeld.size
                have HS : (fun V => Below wr.heap.size wr V) _ := hHeld.trans (HB8.out.mono hHeld.size)
                clear hHeld hs8
                go_simp
                clear hv8
                refine hK.out _ _ HS (fun hHeld => ?_)
                clear hK K HS
                try simp only [Act.put, List.setIfInBounds_toArray, List.set_cons_zero, List.set_cons_succ]
                refine wpAnyW_held (i := 17) (by kernel_rfl) (by simp only [List.getElem?_toArray, List.getElem?_cons_succ, List.getElem?_cons_zero]; rfl) (fun K hK => ?_)
                rw [if_pos (by rfl)]
                refine wpB (ty := 27) #[.slice A1 nn.length c1, .slice A2 ww.length c2] rfl rfl rfl HX.out infoQ rfl (cellsQ_one _ _ _ _ _ _) ?_
                intro y9 ht hg
                have HS : (fun V => Below wr.heap.size wr V) _ := below_of_grown1 hHeld hg hHeld.size hga
                have hb9 := below_of_grown1 HB8.out hg HB8.out.size (Nat.le_of_eq hga0)
                replace R1 := Lib.hid (R1.out.below hb9)
                replace R2 := Lib.hid (R2.out.below hb9)
                replace R3 := Lib.hid (R3.out.below hb9)
                replace HX := Lib.hid ht
                clear ht hg hHeld
                refine hK.out _ _ HS (fun hHeld => ?_)
                clear hK K HS
                try simp only [Act.put, List.setIfInBounds_toArray, List.set_cons_zero, List.set_cons_succ]
                refine wpAnyW_held (i := 18) (by kernel_rfl) (by simp only [List.getElem?_toArray, List.getElem?_cons_succ, List.getElem?_cons_zero]; rfl) (fun K hK => ?_)
                rw [if_pos (by rfl)]
                go_simp
                refine hK.out _ _ hHeld (fun hHeld => ?_)
                clear hK K
                try simp only [Act.put, List.setIfInBounds_toArray, List.set_cons_zero, List.set_cons_succ]
                refine wpAnyW_freed (i := 19) (by kernel_rfl) (by kernel_rfl) (by simp only [List.getElem?_toArray, List.getElem?_cons_succ, List.getElem?_cons_zero]; rfl) (fun K hK => ?_)
                rw [if_pos (by rfl)]
                go_simp
                have HE := Lib.hid hHeld
                refine hK.out _ _ ?_
                clear hK K hHeld
                try simp only [Act.put, List.setIfInBounds_toArray, List.set_cons_zero, List.set_cons_succ]
                refine wpAnyW_done (by kernel_rfl) ?_ _
                refine NoPanic.normal ?_
                go_wp2_with fail
                go_meet
                exact ⟨ga, A1, c1, A2, c2, A3, c3, rfl, rfl, rfl, Lib.hid ⟨HX.out, R1.out, R2.out, R3.out, N1.out, N2.out, N3.out, HE.out, M1a.out, M2a.out, M1b.out, M2b.out, M3a.out, M3b.out, hga⟩⟩
              · rw [if_pos (by rfl)]
                obtain ⟨v8, hv8, HX, HB8, hs8⟩ := one_open wr.drew 27 #[.slice none 0 0, .slice none 0 0]
                obtain ⟨ga, hga0⟩ : ∃ g, wr.drew.heap.size = g := ⟨_, rfl⟩
                rw [hga0] at HX
                have hga : wr.heap.size ≤ ga := by rw [← hga0]; exact hHeld.size
                have HS : (fun V => Below wr.heap.size wr V) _ := hHeld.trans (HB8.out.mono hHeld.size)
                clear hHeld hs8
                go_simp
                clear hv8
                refine hK.out _ _ HS (fun hHeld => ?_)
                clear hK K HS
                try simp only [Act.put, List.setIfInBounds_toArray, List.set_cons_zero, List.set_cons_succ]
                refine wpAnyW_held (i := 11) (by kernel_rfl) (by simp only [List.getElem?_toArray, List.getElem?_cons_succ, List.getElem?_cons_zero]; rfl) (fun K hK => ?_)
                rw [if_pos (by rfl)]
                go_simp
                refine (HPU.out _ _ _ (HN.out.below hHeld) (HWT.out.below hHeld)).mono ?_
                rintro _ u5 ⟨A1, c1, A2, c2, A3, c3, rfl, r1, r2, r3, o1, o2, o3, hb⟩
                have HS : (fun V => Below wr.heap.size wr V) _ := hHeld.trans (hb.mono hHeld.size)
                have N1 := Lib.hid (o1 gq (Nat.lt_of_lt_of_le hgq hHeld.size))
                have N2 := Lib.hid (o2 gq (Nat.lt_of_lt_of_le hgq hHeld.size))
                have N3 := Lib.hid (o3 gq (Nat.lt_of_lt_of_le hgq hHeld.size))
                have M1a := Lib.hid (o1 wm.heap.size (Nat.lt_of_lt_of_le hgc hHeld.size))
                have M2a := Lib.hid (o2 wm.heap.size (Nat.lt_of_lt_of_le hgc hHeld.size))
                have M3a := Lib.hid (o3 wm.heap.size (Nat.lt_of_lt_of_le hgc hHeld.size))
                have M1b := Lib.hid (o1 w5.heap.size (Nat.lt_of_lt_of_le hgt hHeld.size))
                have M2b := Lib.hid (o2 w5.heap.size (Nat.lt_of_lt_of_le hgt hHeld.size))
                have M3b := Lib.hid (o3 w5.heap.size (Nat.lt_of_lt_of_le hgt hHeld.size))
                have R1 := Lib.hid r1
                have R2 := Lib.hid r2
                have R3 := Lib.hid r3
                have G1 := Lib.hid (o1 ga HX.out.lt)
                have G2 := Lib.hid (o2 ga HX.out.lt)
                have G3 := Lib.hid (o3 ga HX.out.lt)
                replace HX := Lib.hid (HX.out.later hb)
                clear hHeld r1 r2 r3 o1 o2 o3 hb
                go_wp2_with fail
                refine hK.out _ _ HS (fun hHeld => ?_)
                clear hK K HS
                try simp only [Act.put, List.setIfInBounds_toArray, List.set_cons_zero, List.set_cons_succ]
                refine wpAnyW_take (i := 12) (v := ?_) (by simp only [List.getElem?_toArray, List.getElem?_cons_succ, List.getElem?_cons_zero]; rfl) (by kernel_rfl) (by kernel_rfl) (by kernel_rfl) (by kernel_rfl) (by kernel_rfl) (fun _ _ _ h => h) (Or.inl ⟨by rfl, ?_⟩) (by assumption) ?_
                rotate_left 1
                · (intro w' hSw; go_simp; try with_reducible rfl)
                try simp only [Act.put, List.setIfInBounds_toArray, List.set_cons_zero, List.set_cons_succ]
                refine wpAnyW_take (i := 13) (v := ?_) (by simp only [List.getElem?_toArray, List.getElem?_cons_succ, List.getElem?_cons_zero]; rfl) (by kernel_rfl) (by kernel_rfl) (by kernel_rfl) (by kernel_rfl) (by kernel_rfl) (fun _ _ _ h => h) (Or.inl ⟨by rfl, ?_⟩) (by assumption) ?_
                rotate_left 1
                · (intro w' hSw; go_simp; try with_reducible rfl)
                try simp only [Act.put, List.setIfInBounds_toArray, List.set_cons_zero, List.set_cons_succ]
                refine wpAnyW_take (i := 14) (v := ?_) (by simp only [List.getElem?_toArray, List.getElem?_cons_succ, List.getElem?_cons_zero]; rfl) (by kernel_rfl) (by kernel_rfl) (by kernel_rfl) (by kernel_rfl) (by kernel_rfl) (fun _ _ _ h => h) (Or.inl ⟨by rfl, ?_⟩) (by assumption) ?_
                rotate_left 1
                · (intro w' hSw; go_simp; try with_reducible rfl)
                try simp only [Act.put, List.setIfInBounds_toArray, List.set_cons_zero, List.set_cons_succ]
                refine wpAnyW_take (i := 15) (v := ?_) (by simp only [List.getElem?_toArray, List.getElem?_cons_succ, List.getElem?_cons_zero]; rfl) (by kernel_rfl) (by kernel_rfl) (by kernel_rfl) (by kernel_rfl) (by kernel_rfl) (fun _ _ _ h => h) (Or.inl ⟨by rfl, ?_⟩) (by assumption) ?_
                rotate_left 1
                · (intro w' hSw; go_simp; try with_reducible rfl)
                try simp only [Act.put, List.setIfInBounds_toArray, List.set_cons_zero, List.set_cons_succ]
                refine wpAnyW_held (i := 17) (by kernel_rfl) (by simp only [List.getElem?_toArray, List.getElem?_cons_succ, List.getElem?_cons_zero]; rfl) (fun K hK => ?_)
                rw [if_pos (by rfl)]
                refine wpB (ty := 27) #[.slice A1 nn.length c1, .slice A2 ww.length c2] rfl rfl rfl HX.out infoQ rfl (cellsQ_one _ _ _ _ _ _) ?_
                intro y9 ht hg
                have HS : (fun V => Below wr.heap.size wr V) _ := below_of_grown1 hHeld hg hHeld.size hga
                replace R1 := Lib.hid (R1.out.kept G1.out hg)
                replace R2 := Lib.hid (R2.out.kept G2.out hg)
                replace R3 := Lib.hid (R3.out.kept G3.out hg)
                replace HX := Lib.hid ht
                clear ht hg hHeld
                refine hK.out _ _ HS (fun hHeld => ?_)
                clear hK K HS
                try simp only [Act.put, List.setIfInBounds_toArray, List.set_cons_zero, List.set_cons_succ]
                refine wpAnyW_held (i := 18) (by kernel_rfl) (by simp only [List.getElem?_toArray, List.getElem?_cons_succ, List.getElem?_cons_zero]; rfl) (fun K hK => ?_)
                rw [if_pos (by rfl)]
                go_simp
                refine hK.out _ _ hHeld (fun hHeld => ?_)
                clear hK K
                try simp only [Act.put, List.setIfInBounds_toArray, List.set_cons_zero, List.set_cons_succ]
                refine wpAnyW_freed (i := 19) (by kernel_rfl) (by kernel_rfl) (by simp only [List.getElem?_toArray, List.getElem?_cons_succ, List.getElem?_cons_zero]; rfl) (fun K hK => ?_)
                rw [if_pos (by rfl)]
                go_simp
                have HE := Lib.hid hHeld
                refine hK.out _ _ ?_
                clear hK K hHeld
                try simp only [Act.put, List.setIfInBounds_toArray, List.set_cons_zero, List.set_cons_succ]
                refine wpAnyW_done (by kernel_rfl) ?_ _
                refine NoPanic.normal ?_
                go_wp2_with fail
                go_meet
                exact ⟨ga, A1, c1, A2, c2, A3, c3, rfl, rfl, rfl, Lib.hid ⟨HX.out, R1.out, R2.out, R3.out, N1.out, N2.out, N3.out, HE.out, M1a.out, M2a.out, M1b.out, M2b.out, M3a.out, M3b.out, hga⟩⟩
            case rest =>
              obtain ⟨ga, A1, c1, A2, c2, A3, c3, rfl, rfl, rfl, HH⟩ := hcut
              obtain ⟨hx, r1, r2, r3, n1, n2, n3, hbb, m1, m2, m3, m4, m5, m6, hgaw⟩ := HH.out
              have yc := (hbb.cell (p := ⟨wm.heap.size, sx.toNat * 20 + kx.toNat, none⟩) hgc).trans (show wr.cell? ⟨wm.heap.size, sx.toNat * 20 + kx.toNat, none⟩ = some (.bool false) from HYC.out)
              replace HQ := Lib.hid (HQ.out.later hbb)
              replace HCM := Lib.hid (HCM.out.later hbb)
              replace HTD := Lib.hid (HTD.out.later hbb)
              replace HXF := Lib.hid ((hbb.cell (p := ⟨bf, of + sx.toNat, none⟩) hbfw).trans HXF.out)
              have hgw2 := HGC.out
              have hgx : wm.heap.size < ga ∧ w5.heap.size < ga ∧ gq < ga := ⟨by omega, by omega, by omega⟩
              have HX := Lib.hid hx
              have R1 := Lib.hid r1
              have R2 := Lib.hid r2
              have R3 := Lib.hid r3
              have HN9 := Lib.hid (show NotIn gq (.slice A1 nn.length c1) ∧ NotIn gq (.slice A2 ww.length c2) ∧ NotIn wm.heap.size (.slice A1 nn.length c1) ∧ NotIn wm.heap.size (.slice A2 ww.length c2) ∧ NotIn w5.heap.size (.slice A1 nn.length c1) ∧ NotIn w5.heap.size (.slice A2 ww.length c2) from ⟨n1, n2, m1, m2, m3, m4⟩)
              have hbfx : bf < _ := Nat.lt_of_lt_of_le hbfw hbb.size
              replace HB := Lib.hid (HB.out.trans (hbb.mono HB.out.size))
              have HN3 := Lib.hid (show NotIn wm.heap.size (.slice A3 tt.length c3) ∧ NotIn w5.heap.size (.slice A3 tt.length c3) from ⟨m5, m6⟩)
              have HTS : Hid (told.set sx.toNat (toN told sx.toNat + 0) = told) := Lib.hid (told_self ..)
              clear hx r1 r2 r3 n1 n2 n3 hbb m1 m2 m3 m4 m5 m6 hgaw HH hgq hgc hgt hbfw HN HWT z1 z2 z3 z4
              have HGX := Lib.hid hgx
              have HGW2 := Lib.hid hgw2
              clear hgx hgw2
              go_wp2_with ((with_reducible refine gate9 ?_); refine stR (ty := 4) (sx.toNat * 20 + kx.toNat) true rfl rfl rfl rfl HCM.out HCI.out infoO rfl ?_; intro w20 ht hg; replace HCM := Lib.hid ht; replace HTD := Lib.hid (HTD.out.kept hg (Nat.ne_of_gt HGW2.out.2.2.2)); replace HX := Lib.hid (HX.out.kept hg (Nat.ne_of_gt HGX.out.1)); replace HQ := Lib.hid (HQ.out.kept hg (Nat.ne_of_lt HGW2.out.2.2.1)); replace R1 := Lib.hid (R1.out.kept HN9.out.2.2.1 hg); replace R2 := Lib.hid (R2.out.kept HN9.out.2.2.2.1 hg); replace R3 := Lib.hid (R3.out.kept HN3.out.1 hg); replace HXF := Lib.hid ((World.cell?_of_block (a := ⟨bf, of + sx.toNat, none⟩) (hg.block bf hbfx (by have := HGW2.out.1; simp; omega))).trans HXF.out); have hbfy := Nat.lt_of_lt_of_le hbfx hg.size; replace HB := Lib.hid (below_of_grown1 HB.out hg HB.out.size HGW2.out.1); clear ht hg yc)
              go_loopw [17] (fun v17 wr => ∃ i : Nat, i ≤ tt.length ∧ v17 = .int .i64 i ∧ Hid (RowB encT wr w5.heap.size 3 (told.set sx.toNat (toN told sx.toNat + i))) ∧ Hid (RowB encB wr wm.heap.size 61 (came.set (sx.toNat * 20 + kx.toNat) true)) ∧ Hid (Bx wr gq 27 #[.slice A1q nx.length c1q, .slice A2q wt.length c2q] ∧ Bx wr ga 27 #[.slice A1 nn.length c1, .slice A2 ww.length c2] ∧ RowE enc16 wr (.slice A1 nn.length c1) nn ∧ RowM wr (.slice A2 ww.length c2) ww ∧ RowM wr (.slice A3 tt.length c3) tt ∧ wr.cell? ⟨bf, of + sx.toNat, none⟩ = some (.int .u16 (fs.toNat : Int)) ∧ bf < wr.heap.size) ∧ Hid (Below w.heap.size w wr))
                (fun v17 _ => tt.length - (intOf v17).toNat)
              case atStart => exact ⟨0, Nat.zero_le _, rfl, Lib.hid (by rw [HTS.out]; exact HTD.out), HCM, Lib.hid ⟨HQ.out, HX.out, R1.out, R2.out, R3.out, HXF.out, hbfy⟩, HB⟩
              case round =>
                clear HTD HCM HQ HX R1 R2 R3 HXF HB hbfx hbfy
                obtain ⟨i, hi, rfl, HTD, HCM, HAL, HB⟩ := hrel
                obtain ⟨hq9, hx9, hr1, hr2, hr3, hxf9, hbf9⟩ := HAL.out
                have HQ := Lib.hid hq9
                have HX := Lib.hid hx9
                have R1 := Lib.hid hr1
                have R2 := Lib.hid hr2
                have R3 := Lib.hid hr3
                have HXF := Lib.hid hxf9
                clear hq9 hx9 hr1 hr2 hr3 hxf9 HAL
                have hk20 := HK20.out
                have htt := HTT.out
                by_cases hit : i < tt.length
                · obtain ⟨b7, o7, c7, e7, hb7, -, -, hrg7⟩ := R3.out.at hit
                  cases e7
                  obtain ⟨ht1, ht2⟩ := HAT.out i hit
                  have y2 : wr.cell? ⟨b7, o7 + i * 6 + 2, none⟩ = some (.int .u16 (sx.toNat : Int)) := by have := hrg7 2 _ rfl; rw [ht1] at this; exact this
                  have y3 : wr.cell? ⟨b7, o7 + i * 6 + 3, none⟩ = some (.int .u16 ((up fs (toN told sx.toNat + i)).toNat : Int)) := by have := hrg7 3 _ rfl; rw [ht2] at this; exact this
                  have y4 : wr.cell? ⟨w5.heap.size, sx.toNat, none⟩ = some (.int .i64 ((toN told sx.toNat + i : Nat) : Int)) := HTD.out.cell_set HSN.out
                  have HY2 := Lib.hid y2
                  have HY3 := Lib.hid y3
                  have HY4 := Lib.hid y4
                  have hgt := HTD.out.lt
                  have q2 : (0 : Int) ≤ (i : Int) := by omega
                  have q3 : (i : Int) < (tt.length : Int) := by omega
                  have hd20 : ((toN told sx.toNat + i : Nat) : Int) ≤ 20 := by omega
                  have hti : (tt.length : Int) ≤ 20 := by omega
                  have e2 := up_sum fs (toN told sx.toNat + i)
                  have e1 : IntKind.u16.wrap ((toN told sx.toNat + i : Nat) : Int) = ((toN told sx.toNat + i : Nat) : Int) := by show ((toN told sx.toNat + i : Nat) : Int) % 65536 = _; omega
                  have hset : Hid ((told.set sx.toNat (toN told sx.toNat + i)).set sx.toNat (toN told sx.toNat + (i + 1)) = told.set sx.toNat (toN told sx.toNat + (i + 1))) := Lib.hid (List.set_set ..)
                  have HLS : Hid (sx.toNat < (told.set sx.toNat (toN told sx.toNat + i)).length) := Lib.hid (by rw [List.length_set]; exact HSN.out)
                  have hdd : Hid (toN told sx.toNat + (i + 1) = toN told sx.toNat + i + 1) := Lib.hid rfl
                  obtain ⟨-, e3⟩ := fit16 sx
                  have obf : ((sx.toNat : Int) != (sx.toNat : Int)) = false := by simp
                  clear hrg7 ht1 ht2 y2 y3 y4 hk20 htt
                  rw [hdd.out] at hset
                  generalize hdv : toN told sx.toNat + i = d at *
                  have HDV := Lib.hid hdv
                  clear hdv
                  generalize up fs d = ud at *
                  go_wp2_with fail
                  generalize wr = wq at *
                  have HS : (fun V => Below wq.heap.size wq V) wq.drew := below_drawn (Below.refl _ _)
                  refine wp_region_noPanic ?_
                  refine wp_region_waits (S := (fun V => Below wq.heap.size wq V)) [] (by kernel_rfl) HS (fun hHeld => ?_)
                  clear HS
                  refine wpAnyW_take (i := 0) (v := ?_) (by simp only [List.getElem?_toArray, List.getElem?_cons_zero]; rfl) (by kernel_rfl) (by kernel_rfl) (by kernel_rfl) (by kernel_rfl) (by kernel_rfl) (fun _ _ _ h => h) (Or.inl ⟨by rfl, ?_⟩) (by assumption) ?_
                  rotate_left 1
                  · (intro w' hSw; go_simp; try with_reducible rfl)
                  try simp only [Act.put, List.setIfInBounds_toArray, List.set_cons_zero, List.set_cons_succ]
                  refine wpAnyW_take (i := 1) (v := ?_) (by simp only [List.getElem?_toArray, List.getElem?_cons_succ, List.getElem?_cons_zero]; rfl) (by kernel_rfl) (by kernel_rfl) (by kernel_rfl) (by kernel_rfl) (by kernel_rfl) (fun _ _ _ h => h) (Or.inl ⟨by rfl, ?_⟩) (by assumption) ?_
                  rotate_left 1
                  · (intro w' hSw; go_simp; try with_reducible rfl)
                  try simp only [Act.put, List.setIfInBounds_toArray, List.set_cons_zero, List.set_cons_succ]
                  refine wpAnyW_take (i := 2) (v := ?_) (by simp only [List.getElem?_toArray, List.getElem?_cons_succ, List.getElem?_cons_zero]; rfl) (by kernel_rfl) (by kernel_rfl) (by kernel_rfl) (by kernel_rfl) (by kernel_rfl) (fun _ _ _ h => h) (Or.inl ⟨by rfl, ?_⟩) (by assumption) ?_
                  rotate_left 1
                  · (intro w' hSw; go_simp; try with_reducible rfl)
                  try simp only [Act.put, List.setIfInBounds_toArray, List.set_cons_zero, List.set_cons_succ]
                  refine wpAnyW_take (i := 3) (v := ?_) (by simp only [List.getElem?_toArray, List.getElem?_cons_succ, List.getElem?_cons_zero]; rfl) (by kernel_rfl) (by kernel_rfl) (by kernel_rfl) (by kernel_rfl) (by kernel_rfl) (fun _ _ _ h => h) (Or.inl ⟨by rfl, ?_⟩) (by assumption) ?_
                  rotate_left 1
                  · (intro w' hSw; go_simp; try with_reducible rfl)
                  try simp only [Act.put, List.setIfInBounds_toArray, List.set_cons_zero, List.set_cons_succ]
                  refine wpAnyW_take (i := 4) (v := ?_) (by simp only [List.getElem?_toArray, List.getElem?_cons_succ, List.getElem?_cons_zero]; rfl) (by kernel_rfl) (by kernel_rfl) (by kernel_rfl) (by kernel_rfl) (by kernel_rfl) (fun _ _ _ h => h) (Or.inl ⟨by rfl, ?_⟩) (by assumption) ?_
                  rotate_left 1
                  · (intro w' hSw; have hq := (hSw.cell (p := ⟨b7, o7 + i * 6 + 2, none⟩) hb7).trans HY2.out; go_simp; try with_reducible rfl)
                  try simp only [Act.put, List.setIfInBounds_toArray, List.set_cons_zero, List.set_cons_succ]
                  refine wpAnyW_take (i := 5) (v := ?_) (by simp only [List.getElem?_toArray, List.getElem?_cons_succ, List.getElem?_cons_zero]; rfl) (by kernel_rfl) (by kernel_rfl) (by kernel_rfl) (by kernel_rfl) (by kernel_rfl) (fun _ _ _ h => h) (Or.inl ⟨by rfl, ?_⟩) (by assumption) ?_
                  rotate_left 1
                  · (intro w' hSw; go_simp; try with_reducible rfl)
                  try simp only [Act.put, List.setIfInBounds_toArray, List.set_cons_zero, List.set_cons_succ]
                  refine wpAnyW_take (i := 6) (v := ?_) (by simp only [List.getElem?_toArray, List.getElem?_cons_succ, List.getElem?_cons_zero]; rfl) (by kernel_rfl) (by kernel_rfl) (by kernel_rfl) (by kernel_rfl) (by kernel_rfl) (fun _ _ _ h => h) (Or.inl ⟨by rfl, ?_⟩) (by assumption) ?_
                  rotate_left 1
                  · (intro w' hSw; go_simp; try with_reducible rfl)
                  try simp only [Act.put, List.setIfInBounds_toArray, List.set_cons_zero, List.set_cons_succ]
                  refine wpAnyW_take (i := 7) (v := ?_) (by simp only [List.getElem?_toArray, List.getElem?_cons_succ, List.getElem?_cons_zero]; rfl) (by kernel_rfl) (by kernel_rfl) (by kernel_rfl) (by kernel_rfl) (by kernel_rfl) (fun _ _ _ h => h) (Or.inl ⟨by rfl, ?_⟩) (by assumption) ?_
                  rotate_left 1
                  · (intro w' hSw; go_simp; try with_reducible rfl)
                  try simp only [Act.put, List.setIfInBounds_toArray, List.set_cons_zero, List.set_cons_succ]
                  refine wpAnyW_take (i := 8) (v := ?_) (by simp only [List.getElem?_toArray, List.getElem?_cons_succ, List.getElem?_cons_zero]; rfl) (by kernel_rfl) (by kernel_rfl) (by kernel_rfl) (by kernel_rfl) (by kernel_rfl) (fun _ _ _ h => h) (Or.inl ⟨by rfl, ?_⟩) (by assumption) ?_
                  rotate_left 1
                  · (intro w' hSw; go_simp; try with_reducible rfl)
                  try simp only [Act.put, List.setIfInBounds_toArray, List.set_cons_zero, List.set_cons_succ]
                  refine wpAnyW_take (i := 9) (v := ?_) (by simp only [List.getElem?_toArray, List.getElem?_cons_succ, List.getElem?_cons_zero]; rfl) (by kernel_rfl) (by kernel_rfl) (by kernel_rfl) (by kernel_rfl) (by kernel_rfl) (fun _ _ _ h => h) (Or.inl ⟨by rfl, ?_⟩) (by assumption) ?_
                  rotate_left 1
                  · (intro w' hSw; go_simp; try with_reducible rfl)
                  try simp only [Act.put, List.setIfInBounds_toArray, List.set_cons_zero, List.set_cons_succ]
                  refine wpAnyW_take (i := 10) (v := ?_) (by simp only [List.getElem?_toArray, List.getElem?_cons_succ, List.getElem?_cons_zero]; rfl) (by kernel_rfl) (by kernel_rfl) (by kernel_rfl) (by kernel_rfl) (by kernel_rfl) (fun _ _ _ h => h) (Or.inl ⟨by rfl, ?_⟩) (by assumption) ?_
                  rotate_left 1
                  · (intro w' hSw; go_simp; try with_reducible rfl)
                  try simp only [Act.put, List.setIfInBounds_toArray, List.set_cons_zero, List.set_cons_succ]
                  refine wpAnyW_take (i := 11) (v := ?_) (by simp only [List.getElem?_toArray, List.getElem?_cons_succ, List.getElem?_cons_zero]; rfl) (by kernel_rfl) (by kernel_rfl) (by kernel_rfl) (by kernel_rfl) (by kernel_rfl) (fun _ _ _ h => h) (Or.inl ⟨by rfl, ?_⟩) (by assumption) ?_
                  rotate_left 1
                  · (intro w' hSw; go_simp; try with_reducible rfl)
                  try simp only [Act.put, List.setIfInBounds_toArray, List.set_cons_zero, List.set_cons_succ]
                  refine wpAnyW_take (i := 12) (v := ?_) (by simp only [List.getElem?_toArray, List.getElem?_cons_succ, List.getElem?_cons_zero]; rfl) (by kernel_rfl) (by kernel_rfl) (by kernel_rfl) (by kernel_rfl) (by kernel_rfl) (fun _ _ _ h => h) (Or.inl ⟨by rfl, ?_⟩) (by assumption) ?_
                  rotate_left 1
                  · (intro w' hSw; go_simp; try with_reducible rfl)
                  try simp only [Act.put, List.setIfInBounds_toArray, List.set_cons_zero, List.set_cons_succ]
                  refine wpAnyW_take (i := 13) (v := ?_) (by simp only [List.getElem?_toArray, List.getElem?_cons_succ, List.getElem?_cons_zero]; rfl) (by kernel_rfl) (by kernel_rfl) (by kernel_rfl) (by kernel_rfl) (by kernel_rfl) (fun _ _ _ h => h) (Or.inl ⟨by rfl, ?_⟩) (by assumption) ?_
                  rotate_left 1
                  · (intro w' hSw; have hq := (hSw.cell (p := ⟨b7, o7 + i * 6 + 3, none⟩) hb7).trans HY3.out; go_simp; try with_reducible rfl)
                  try simp only [Act.put, List.setIfInBounds_toArray, List.set_cons_zero, List.set_cons_succ]
                  refine wpAnyW_take (i := 14) (v := ?_) (by simp only [List.getElem?_toArray, List.getElem?_cons_succ, List.getElem?_cons_zero]; rfl) (by kernel_rfl) (by kernel_rfl) (by kernel_rfl) (by kernel_rfl) (by kernel_rfl) (fun _ _ _ h => h) (Or.inl ⟨by rfl, ?_⟩) (by assumption) ?_
                  rotate_left 1
                  · (intro w' hSw; go_simp; try with_reducible rfl)
                  try simp only [Act.put, List.setIfInBounds_toArray, List.set_cons_zero, List.set_cons_succ]
                  refine wpAnyW_take (i := 15) (v := ?_) (by simp only [List.getElem?_toArray, List.getElem?_cons_succ, List.getElem?_cons_zero]; rfl) (by kernel_rfl) (by kernel_rfl) (by kernel_rfl) (by kernel_rfl) (by kernel_rfl) (fun _ _ _ h => h) (Or.inl ⟨by rfl, ?_⟩) (by assumption) ?_
                  rotate_left 1
                  · (intro w' hSw; go_simp; try with_reducible rfl)
                  try simp only [Act.put, List.setIfInBounds_toArray, List.set_cons_zero, List.set_cons_succ]
                  refine wpAnyW_take (i := 16) (v := ?_) (by simp only [List.getElem?_toArray, List.getElem?_cons_succ, List.getElem?_cons_zero]; rfl) (by kernel_rfl) (by kernel_rfl) (by kernel_rfl) (by kernel_rfl) (by kernel_rfl) (fun _ _ _ h => h) (Or.inl ⟨by rfl, ?_⟩) (by assumption) ?_
                  rotate_left 1
                  · (intro w' hSw; go_simp; try with_reducible rfl)
                  try simp only [Act.put, List.setIfInBounds_toArray, List.set_cons_zero, List.set_cons_succ]
                  refine wpAnyW_take (i := 17) (v := ?_) (by simp only [List.getElem?_toArray, List.getElem?_cons_succ, List.getElem?_cons_zero]; rfl) (by kernel_rfl) (by kernel_rfl) (by kernel_rfl) (by kernel_rfl) (by kernel_rfl) (fun _ _ _ h => h) (Or.inl ⟨by rfl, ?_⟩) (by assumption) ?_
                  rotate_left 1
                  · (intro w' hSw; have hq := (hSw.cell (p := ⟨bf, of + sx.toNat, none⟩) hbf9).trans HXF.out; go_simp; try with_reducible rfl)
                  try simp only [Act.put, List.setIfInBounds_toArray, List.set_cons_zero, List.set_cons_succ]
                  refine wpAnyW_take (i := 18) (v := ?_) (by simp only [List.getElem?_toArray, List.getElem?_cons_succ, List.getElem?_cons_zero]; rfl) (by kernel_rfl) (by kernel_rfl) (by kernel_rfl) (by kernel_rfl) (by kernel_rfl) (fun _ _ _ h => h) (Or.inl ⟨by rfl, ?_⟩) (by assumption) ?_
                  rotate_left 1
                  · (intro w' hSw; go_simp; try with_reducible rfl)
                  try simp only [Act.put, List.setIfInBounds_toArray, List.set_cons_zero, List.set_cons_succ]
                  refine wpAnyW_take (i := 19) (v := ?_) (by simp only [List.getElem?_toArray, List.getElem?_cons_succ, List.getElem?_cons_zero]; rfl) (by kernel_rfl) (by kernel_rfl) (by kernel_rfl) (by kernel_rfl) (by kernel_rfl) (fun _ _ _ h => h) (Or.inl ⟨by rfl, ?_⟩) (by assumption) ?_
                  rotate_left 1
                  · (intro w' hSw; go_simp; try with_reducible rfl)
                  try simp only [Act.put, List.setIfInBounds_toArray, List.set_cons_zero, List.set_cons_succ]
                  refine wpAnyW_take (i := 20) (v := ?_) (by simp only [List.getElem?_toArray, List.getElem?_cons_succ, List.getElem?_cons_zero]; rfl) (by kernel_rfl) (by kernel_rfl) (by kernel_rfl) (by kernel_rfl) (by kernel_rfl) (fun _ _ _ h => h) (Or.inl ⟨by rfl, ?_⟩) (by assumption) ?_
                  rotate_left 1
                  · (intro w' hSw; go_simp; try with_reducible rfl)
                  try simp only [Act.put, List.setIfInBounds_toArray, List.set_cons_zero, List.set_cons_succ]
                  refine wpAnyW_take (i := 21) (v := ?_) (by simp only [List.getElem?_toArray, List.getElem?_cons_succ, List.getElem?_cons_zero]; rfl) (by kernel_rfl) (by kernel_rfl) (by kernel_rfl) (by kernel_rfl) (by kernel_rfl) (fun _ _ _ h => h) (Or.inl ⟨by rfl, ?_⟩) (by assumption) ?_
                  rotate_left 1
                  · (intro w' hSw; have hq := (hSw.cell (p := ⟨w5.heap.size, sx.toNat, none⟩) hgt).trans HY4.out; go_simp; try with_reducible rfl)
                  try simp only [Act.put, List.setIfInBounds_toArray, List.set_cons_zero, List.set_cons_succ]
                  refine wpAnyW_take (i := 22) (v := ?_) (by simp only [List.getElem?_toArray, List.getElem?_cons_succ, List.getElem?_cons_zero]; rfl) (by kernel_rfl) (by kernel_rfl) (by kernel_rfl) (by kernel_rfl) (by kernel_rfl) (fun _ _ _ h => h) (Or.inl ⟨by rfl, ?_⟩) (by assumption) ?_
                  rotate_left 1
                  · (intro w' hSw; go_simp; try with_reducible rfl)
                  try simp only [Act.put, List.setIfInBounds_toArray, List.set_cons_zero, List.set_cons_succ]
                  refine wpAnyW_take (i := 23) (v := ?_) (by simp only [List.getElem?_toArray, List.getElem?_cons_succ, List.getElem?_cons_zero]; rfl) (by kernel_rfl) (by kernel_rfl) (by kernel_rfl) (by kernel_rfl) (by kernel_rfl) (fun _ _ _ h => h) (Or.inl ⟨by rfl, ?_⟩) (by assumption) ?_
                  rotate_left 1
                  · (intro w' hSw; go_simp; try with_reducible rfl)
                  try simp only [Act.put, List.setIfInBounds_toArray, List.set_cons_zero, List.set_cons_succ]
                  refine wpAnyW_take (i := 24) (v := ?_) (by simp only [List.getElem?_toArray, List.getElem?_cons_succ, List.getElem?_cons_zero]; rfl) (by kernel_rfl) (by kernel_rfl) (by kernel_rfl) (by kernel_rfl) (by kernel_rfl) (fun _ _ _ h => h) (Or.inl ⟨by rfl, ?_⟩) (by assumption) ?_
                  rotate_left 1
                  · (intro w' hSw; go_simp; try with_reducible rfl)
                  try simp only [Act.put, List.setIfInBounds_toArray, List.set_cons_zero, List.set_cons_succ]
                  refine wpAnyW_take (i := 25) (v := ?_) (by simp only [List.getElem?_toArray, List.getElem?_cons_succ, List.getElem?_cons_zero]; rfl) (by kernel_rfl) (by kernel_rfl) (by kernel_rfl) (by kernel_rfl) (by kernel_rfl) (fun _ _ _ h => h) (Or.inl ⟨by rfl, ?_⟩) (by assumption) ?_
                  rotate_left 1
                  · (intro w' hSw; go_simp; try with_reducible rfl)
                  try simp only [Act.put, List.setIfInBounds_toArray, List.set_cons_zero, List.set_cons_succ]
                  have HE := Lib.hid hHeld
                  clear hHeld
                  refine wpAnyW_done (by kernel_rfl) ?_ _
                  refine NoPanic.normal ?_
                  replace HTD : Hid (RowB encT wq.drew _ _ _) := Lib.hid HTD.out
                  replace HCM : Hid (RowB encB wq.drew _ _ _) := Lib.hid HCM.out
                  replace HQ : Hid (Bx wq.drew _ _ _) := Lib.hid HQ.out.drew
                  replace HX : Hid (Bx wq.drew _ _ _) := Lib.hid HX.out.drew
                  replace R1 : Hid (RowE enc16 wq.drew _ _) := Lib.hid (R1.out.below HE.out)
                  replace R2 : Hid (RowM wq.drew _ _) := Lib.hid (R2.out.below HE.out)
                  replace R3 : Hid (RowM wq.drew _ _) := Lib.hid (R3.out.below HE.out)
                  replace HXF : Hid (wq.drew.cell? _ = _) := Lib.hid HXF.out
                  replace HB : Hid (Below w.heap.size w wq.drew) := Lib.hid (below_drawn HB.out)
                  have y4 : wq.drew.cell? ⟨w5.heap.size, sx.toNat, none⟩ = some (.int .i64 (d : Int)) := HY4.out
                  have hbf8 : bf < wq.drew.heap.size := hbf9
                  clear HE HY2 HY3 HY4 hgt hb7 hbf9
                  generalize wq.drew = wz at *
                  go_wp2_with ((with_reducible refine gate9 ?_); refine stR (ty := 3) sx.toNat (d + 1) rfl rfl rfl (by first | rfl | (show Value.int .i64 _ = _; congr 1)) HTD.out HLS.out infoI rfl ?_; intro w20 ht hg; rw [hset.out] at ht; replace HTD := Lib.hid ht; replace HCM := Lib.hid (HCM.out.kept hg (Nat.ne_of_lt HGW2.out.2.2.2)); replace HX := Lib.hid (HX.out.kept hg (Nat.ne_of_gt HGX.out.2.1)); replace HQ := Lib.hid (HQ.out.kept hg (Nat.ne_of_lt (Nat.lt_trans HGW2.out.2.2.1 HGW2.out.2.2.2))); replace R1 := Lib.hid (R1.out.kept HN9.out.2.2.2.2.1 hg); replace R2 := Lib.hid (R2.out.kept HN9.out.2.2.2.2.2 hg); replace R3 := Lib.hid (R3.out.kept HN3.out.2 hg); have HXF8 := Lib.hid ((World.cell?_of_block (a := ⟨bf, of + sx.toNat, none⟩) (hg.block bf hbf8 (by have := HGW2.out.1; have := HGW2.out.2.2.2; simp; omega))).trans HXF.out); have hbf7 := Nat.lt_of_lt_of_le hbf8 hg.size; replace HB := Lib.hid (below_of_grown1 HB.out hg HB.out.size (Nat.le_trans HGW2.out.1 (Nat.le_of_lt HGW2.out.2.2.2))); clear ht hg y4)
                  go_roundw
                  case rel => exact ⟨i + 1, by omega, by go_num, Lib.hid (by rw [show toN told sx.toNat + (i + 1) = d + 1 by have := HDV.out; omega]; exact HTD.out), HCM, Lib.hid ⟨HQ.out, HX.out, R1.out, R2.out, R3.out, HXF8.out, hbf7⟩, HB⟩
                  case measure => simp [intOf]; omega
                · obtain rfl : i = tt.length := by omega
                  have y4 : wr.cell? ⟨w5.heap.size, sx.toNat, none⟩ = some (.int .i64 ((toN told sx.toNat + tt.length : Nat) : Int)) := HTD.out.cell_set HSN.out
                  have HY4 := Lib.hid y4
                  have hgt := HTD.out.lt
                  have hgc := HCM.out.lt
                  have hin2 := HIN2.out
                  obtain ⟨b5, o5, c5, e5, hb5, hc5⟩ := cell_at R1.out (st := sx.toNat) (by rw [HNN.out, ← HNS0.out]; exact HSF.out)
                  cases e5
                  rw [hin2.nxt _ HSF.out, toN_set HSN.out, if_pos rfl] at hc5
                  rw [← htt, show atN F sx.toNat = fs from HFS.out] at hc5
                  have HC5 := Lib.hid hc5
                  have hgap := hin2.gap _ HSF.out
                  rw [toN_set HSN.out, if_pos rfl, ← htt] at hgap
                  have hci2 : toN told sx.toNat + tt.length < 20 → sx.toNat * 20 + (toN told sx.toNat + tt.length) < (came.set (sx.toNat * 20 + kx.toNat) true).length := fun hh => by rw [hin2.lenC]; have := HSF.out; omega
                  have HGP := Lib.hid hgap
                  have HCI2 := Lib.hid hci2
                  have hd20 : ((toN told sx.toNat + tt.length : Nat) : Int) ≤ 20 := by omega
                  have e2 := up_sum fs (toN told sx.toNat + tt.length)
                  have e1 : IntKind.u16.wrap ((toN told sx.toNat + tt.length : Nat) : Int) = ((toN told sx.toNat + tt.length : Nat) : Int) := by show ((toN told sx.toNat + tt.length : Nat) : Int) % 65536 = _; omega
                  rw [← htt] at HIN2
                  have hnn := HNN.out
                  have qn : (sx.toNat : Int) < (nn.length : Int) := by rw [hnn]; omega
                  clear y4 hc5 hgap hci2 hk20 htt hin2 hnn
                  generalize hdv : toN told sx.toNat + tt.length = d at *
                  have HDV := Lib.hid hdv
                  clear hdv
                  generalize up fs d = ud at *
                  go_wp2_with fail
                  generalize wr = wq at *
                  by_cases hdl : d < 20
                  · have t0 : decide ((d : Int) < 20) = true := by rw [decide_eq_true_iff]; omega
                    have hdq : (d : Int) < 20 := by omega
                    have hd0 : (0 : Int) ≤ (d : Int) := by omega
                    have hy := HCM.out.cell (HCI2.out hdl)
                    rw [← caB_at (HCI2.out hdl), HGP.out hdl] at hy
                    have HY5 : Hid (wq.cell? ⟨wm.heap.size, sx.toNat * 20 + d, none⟩ = some (.bool false)) := Lib.hid hy
                    clear hy
                    have HS : (fun V => Below wq.heap.size wq V) wq.drew := below_drawn (Below.refl _ _)
                    refine wp_region_noPanic ?_
                    refine wp_region_waits (S := (fun V => Below wq.heap.size wq V)) [] (by kernel_rfl) HS (fun hHeld => ?_)
                    clear HS
                    refine wpAnyW_take (i := 0) (v := ?_) (by simp only [List.getElem?_toArray, List.getElem?_cons_zero]; rfl) (by kernel_rfl) (by kernel_rfl) (by kernel_rfl) (by kernel_rfl) (by kernel_rfl) (fun _ _ _ h => h) (Or.inl ⟨by rfl, ?_⟩) (by assumption) ?_
                    rotate_left 1
                    · (intro w' hSw; go_simp; try with_reducible rfl)
                    try simp only [Act.put, List.setIfInBounds_toArray, List.set_cons_zero, List.set_cons_succ]
                    refine wpAnyW_take (i := 1) (v := ?_) (by simp only [List.getElem?_toArray, List.getElem?_cons_succ, List.getElem?_cons_zero]; rfl) (by kernel_rfl) (by kernel_rfl) (by kernel_rfl) (by kernel_rfl) (by kernel_rfl) (fun _ _ _ h => h) (Or.inl ⟨by rfl, ?_⟩) (by assumption) ?_
                    rotate_left 1
                    · (intro w' hSw; go_simp; try with_reducible rfl)
                    try simp only [Act.put, List.setIfInBounds_toArray, List.set_cons_zero, List.set_cons_succ]
                    refine wpAnyW_take (i := 2) (v := ?_) (by simp only [List.getElem?_toArray, List.getElem?_cons_succ, List.getElem?_cons_zero]; rfl) (by kernel_rfl) (by kernel_rfl) (by kernel_rfl) (by kernel_rfl) (by kernel_rfl) (fun _ _ _ h => h) (Or.inl ⟨by rfl, ?_⟩) (by assumption) ?_
                    rotate_left 1
                    · (intro w' hSw; go_simp; try with_reducible rfl)
                    try simp only [Act.put, List.setIfInBounds_toArray, List.set_cons_zero, List.set_cons_succ]
                    refine wpAnyW_take (i := 3) (v := ?_) (by simp only [List.getElem?_toArray, List.getElem?_cons_succ, List.getElem?_cons_zero]; rfl) (by kernel_rfl) (by kernel_rfl) (by kernel_rfl) (by kernel_rfl) (by kernel_rfl) (fun _ _ _ h => h) (Or.inl ⟨by rfl, ?_⟩) (by assumption) ?_
                    rotate_left 1
                    · (intro w' hSw; have hq := (hSw.cell (p := ⟨w5.heap.size, sx.toNat, none⟩) hgt).trans HY4.out; go_simp; try with_reducible rfl)
                    try simp only [Act.put, List.setIfInBounds_toArray, List.set_cons_zero, List.set_cons_succ]
                    refine wpAnyW_take (i := 4) (v := ?_) (by simp only [List.getElem?_toArray, List.getElem?_cons_succ, List.getElem?_cons_zero]; rfl) (by kernel_rfl) (by kernel_rfl) (by kernel_rfl) (by kernel_rfl) (by kernel_rfl) (fun _ _ _ h => h) (Or.inl ⟨by rfl, ?_⟩) (by assumption) ?_
                    rotate_left 1
                    · (intro w' hSw; go_simp; try with_reducible rfl)
                    try simp only [Act.put, List.setIfInBounds_toArray, List.set_cons_zero, List.set_cons_succ]
                    refine wpAnyW_take (i := 5) (v := ?_) (by simp only [List.getElem?_toArray, List.getElem?_cons_succ, List.getElem?_cons_zero]; rfl) (by kernel_rfl) (by kernel_rfl) (by kernel_rfl) (by kernel_rfl) (by kernel_rfl) (fun _ _ _ h => h) (Or.inl ⟨by rfl, ?_⟩) (by assumption) ?_
                    rotate_left 1
                    · (intro w' hSw; go_simp; try with_reducible rfl)
                    try simp only [Act.put, List.setIfInBounds_toArray, List.set_cons_zero, List.set_cons_succ]
                    refine wpAnyW_take (i := 6) (v := ?_) (by simp only [List.getElem?_toArray, List.getElem?_cons_succ, List.getElem?_cons_zero]; rfl) (by kernel_rfl) (by kernel_rfl) (by kernel_rfl) (by kernel_rfl) (by kernel_rfl) (fun _ _ _ h => h) (Or.inl ⟨by rfl, ?_⟩) (by assumption) ?_
                    rotate_left 1
                    · (intro w' hSw; go_simp; try with_reducible rfl)
                    try simp only [Act.put, List.setIfInBounds_toArray, List.set_cons_zero, List.set_cons_succ]
                    refine wpAnyW_take (i := 7) (v := ?_) (by simp only [List.getElem?_toArray, List.getElem?_cons_succ, List.getElem?_cons_zero]; rfl) (by kernel_rfl) (by kernel_rfl) (by kernel_rfl) (by kernel_rfl) (by kernel_rfl) (fun _ _ _ h => h) (Or.inl ⟨by rfl, ?_⟩) (by assumption) ?_
                    rotate_left 1
                    · (intro w' hSw; go_simp; try with_reducible rfl)
                    try simp only [Act.put, List.setIfInBounds_toArray, List.set_cons_zero, List.set_cons_succ]
                    refine wpAnyW_take (i := 8) (v := ?_) (by simp only [List.getElem?_toArray, List.getElem?_cons_succ, List.getElem?_cons_zero]; rfl) (by kernel_rfl) (by kernel_rfl) (by kernel_rfl) (by kernel_rfl) (by kernel_rfl) (fun _ _ _ h => h) (Or.inl ⟨by rfl, ?_⟩) (by assumption) ?_
                    rotate_left 1
                    · (intro w' hSw; go_simp; try with_reducible rfl)
                    try simp only [Act.put, List.setIfInBounds_toArray, List.set_cons_zero, List.set_cons_succ]
                    refine wpAnyW_take (i := 9) (v := ?_) (by simp only [List.getElem?_toArray, List.getElem?_cons_succ, List.getElem?_cons_zero]; rfl) (by kernel_rfl) (by kernel_rfl) (by kernel_rfl) (by kernel_rfl) (by kernel_rfl) (fun _ _ _ h => h) (Or.inl ⟨by rfl, ?_⟩) (by assumption) ?_
                    rotate_left 1
                    · (intro w' hSw; go_simp; try with_reducible rfl)
                    try simp only [Act.put, List.setIfInBounds_toArray, List.set_cons_zero, List.set_cons_succ]
                    refine wpAnyW_take (i := 10) (v := ?_) (by simp only [List.getElem?_toArray, List.getElem?_cons_succ, List.getElem?_cons_zero]; rfl) (by kernel_rfl) (by kernel_rfl) (by kernel_rfl) (by kernel_rfl) (by kernel_rfl) (fun _ _ _ h => h) (Or.inl ⟨by rfl, ?_⟩) (by assumption) ?_
                    rotate_left 1
                    · (intro w' hSw; go_simp; try with_reducible rfl)
                    try simp only [Act.put, List.setIfInBounds_toArray, List.set_cons_zero, List.set_cons_succ]
                    refine wpAnyW_take (i := 11) (v := ?_) (by simp only [List.getElem?_toArray, List.getElem?_cons_succ, List.getElem?_cons_zero]; rfl) (by kernel_rfl) (by kernel_rfl) (by kernel_rfl) (by kernel_rfl) (by kernel_rfl) (fun _ _ _ h => h) (Or.inl ⟨by rfl, ?_⟩) (by assumption) ?_
                    rotate_left 1
                    · (intro w' hSw; have hq := (hSw.cell (p := ⟨w5.heap.size, sx.toNat, none⟩) hgt).trans HY4.out; go_simp; try with_reducible rfl)
                    try simp only [Act.put, List.setIfInBounds_toArray, List.set_cons_zero, List.set_cons_succ]
                    refine wpAnyW_take (i := 12) (v := ?_) (by simp only [List.getElem?_toArray, List.getElem?_cons_succ, List.getElem?_cons_zero]; rfl) (by kernel_rfl) (by kernel_rfl) (by kernel_rfl) (by kernel_rfl) (by kernel_rfl) (fun _ _ _ h => h) (Or.inl ⟨by rfl, ?_⟩) (by assumption) ?_
                    rotate_left 1
                    · (intro w' hSw; go_simp; try with_reducible rfl)
                    try simp only [Act.put, List.setIfInBounds_toArray, List.set_cons_zero, List.set_cons_succ]
                    refine wpAnyW_take (i := 13) (v := ?_) (by simp only [List.getElem?_toArray, List.getElem?_cons_succ, List.getElem?_cons_zero]; rfl) (by kernel_rfl) (by kernel_rfl) (by kernel_rfl) (by kernel_rfl) (by kernel_rfl) (fun _ _ _ h => h) (Or.inl ⟨by rfl, ?_⟩) (by assumption) ?_
                    rotate_left 1
                    · (intro w' hSw; go_simp; try with_reducible rfl)
                    try simp only [Act.put, List.setIfInBounds_toArray, List.set_cons_zero, List.set_cons_succ]
                    refine wpAnyW_take (i := 14) (v := ?_) (by simp only [List.getElem?_toArray, List.getElem?_cons_succ, List.getElem?_cons_zero]; rfl) (by kernel_rfl) (by kernel_rfl) (by kernel_rfl) (by kernel_rfl) (by kernel_rfl) (fun _ _ _ h => h) (Or.inl ⟨by rfl, ?_⟩) (by assumption) ?_
                    rotate_left 1
                    · (intro w' hSw; have hq := (hSw.cell (p := ⟨wm.heap.size, sx.toNat * 20 + d, none⟩) hgc).trans HY5.out; go_simp; try with_reducible rfl)
                    try simp only [Act.put, List.setIfInBounds_toArray, List.set_cons_zero, List.set_cons_succ]
                    refine wpAnyW_take (i := 15) (v := ?_) (by simp only [List.getElem?_toArray, List.getElem?_cons_succ, List.getElem?_cons_zero]; rfl) (by kernel_rfl) (by kernel_rfl) (by kernel_rfl) (by kernel_rfl) (by kernel_rfl) (fun _ _ _ h => h) (Or.inl ⟨by rfl, ?_⟩) (by assumption) ?_
                    rotate_left 1
                    · (intro w' hSw; go_simp; try with_reducible rfl)
                    try simp only [Act.put, List.setIfInBounds_toArray, List.set_cons_zero, List.set_cons_succ]
                    refine wpAnyW_take (i := 16) (v := ?_) (by simp only [List.getElem?_toArray, List.getElem?_cons_succ, List.getElem?_cons_zero]; rfl) (by kernel_rfl) (by kernel_rfl) (by kernel_rfl) (by kernel_rfl) (by kernel_rfl) (fun _ _ _ h => h) (Or.inl ⟨by rfl, ?_⟩) (by assumption) ?_
                    rotate_left 1
                    · (intro w' hSw; go_simp; try with_reducible rfl)
                    try simp only [Act.put, List.setIfInBounds_toArray, List.set_cons_zero, List.set_cons_succ]
                    refine wpAnyW_take (i := 17) (v := ?_) (by simp only [List.getElem?_toArray, List.getElem?_cons_succ, List.getElem?_cons_zero]; rfl) (by kernel_rfl) (by kernel_rfl) (by kernel_rfl) (by kernel_rfl) (by kernel_rfl) (fun _ _ _ h => h) (Or.inl ⟨by rfl, ?_⟩) (by assumption) ?_
                    rotate_left 1
                    · (intro w' hSw; go_simp; try with_reducible rfl)
                    try simp only [Act.put, List.setIfInBounds_toArray, List.set_cons_zero, List.set_cons_succ]
                    refine wpAnyW_take (i := 18) (v := ?_) (by simp only [List.getElem?_toArray, List.getElem?_cons_succ, List.getElem?_cons_zero]; rfl) (by kernel_rfl) (by kernel_rfl) (by kernel_rfl) (by kernel_rfl) (by kernel_rfl) (fun _ _ _ h => h) (Or.inl ⟨by rfl, ?_⟩) (by assumption) ?_
                    rotate_left 1
                    · (intro w' hSw; have hq := (HX.out.later hSw).cell 0 (.slice (some ⟨b5, o5, none⟩) nn.length c1) rfl; go_simp; try with_reducible rfl)
                    try simp only [Act.put, List.setIfInBounds_toArray, List.set_cons_zero, List.set_cons_succ]
                    refine wpAnyW_take (i := 19) (v := ?_) (by simp only [List.getElem?_toArray, List.getElem?_cons_succ, List.getElem?_cons_zero]; rfl) (by kernel_rfl) (by kernel_rfl) (by kernel_rfl) (by kernel_rfl) (by kernel_rfl) (fun _ _ _ h => h) (Or.inl ⟨by rfl, ?_⟩) (by assumption) ?_
                    rotate_left 1
                    · (intro w' hSw; go_simp; try with_reducible rfl)
                    try simp only [Act.put, List.setIfInBounds_toArray, List.set_cons_zero, List.set_cons_succ]
                    refine wpAnyW_take (i := 20) (v := ?_) (by simp only [List.getElem?_toArray, List.getElem?_cons_succ, List.getElem?_cons_zero]; rfl) (by kernel_rfl) (by kernel_rfl) (by kernel_rfl) (by kernel_rfl) (by kernel_rfl) (fun _ _ _ h => h) (Or.inl ⟨by rfl, ?_⟩) (by assumption) ?_
                    rotate_left 1
                    · (intro w' hSw; go_simp; try with_reducible rfl)
                    try simp only [Act.put, List.setIfInBounds_toArray, List.set_cons_zero, List.set_cons_succ]
                    refine wpAnyW_take (i := 21) (v := ?_) (by simp only [List.getElem?_toArray, List.getElem?_cons_succ, List.getElem?_cons_zero]; rfl) (by kernel_rfl) (by kernel_rfl) (by kernel_rfl) (by kernel_rfl) (by kernel_rfl) (fun _ _ _ h => h) (Or.inl ⟨by rfl, ?_⟩) (by assumption) ?_
                    rotate_left 1
                    · (intro w' hSw; have hq := (hSw.cell (p := ⟨b5, o5 + sx.toNat, none⟩) hb5).trans HC5.out; go_simp; try with_reducible rfl)
                    try simp only [Act.put, List.setIfInBounds_toArray, List.set_cons_zero, List.set_cons_succ]
                    refine wpAnyW_take (i := 22) (v := ?_) (by simp only [List.getElem?_toArray, List.getElem?_cons_succ, List.getElem?_cons_zero]; rfl) (by kernel_rfl) (by kernel_rfl) (by kernel_rfl) (by kernel_rfl) (by kernel_rfl) (fun _ _ _ h => h) (Or.inl ⟨by rfl, ?_⟩) (by assumption) ?_
                    rotate_left 1
                    · (intro w' hSw; go_simp; try with_reducible rfl)
                    try simp only [Act.put, List.setIfInBounds_toArray, List.set_cons_zero, List.set_cons_succ]
                    refine wpAnyW_take (i := 23) (v := ?_) (by simp only [List.getElem?_toArray, List.getElem?_cons_succ, List.getElem?_cons_zero]; rfl) (by kernel_rfl) (by kernel_rfl) (by kernel_rfl) (by kernel_rfl) (by kernel_rfl) (fun _ _ _ h => h) (Or.inl ⟨by rfl, ?_⟩) (by assumption) ?_
                    rotate_left 1
                    · (intro w' hSw; go_simp; try with_reducible rfl)
                    try simp only [Act.put, List.setIfInBounds_toArray, List.set_cons_zero, List.set_cons_succ]
                    refine wpAnyW_take (i := 24) (v := ?_) (by simp only [List.getElem?_toArray, List.getElem?_cons_succ, List.getElem?_cons_zero]; rfl) (by kernel_rfl) (by kernel_rfl) (by kernel_rfl) (by kernel_rfl) (by kernel_rfl) (fun _ _ _ h => h) (Or.inl ⟨by rfl, ?_⟩) (by assumption) ?_
                    rotate_left 1
                    · (intro w' hSw; go_simp; try with_reducible rfl)
                    try simp only [Act.put, List.setIfInBounds_toArray, List.set_cons_zero, List.set_cons_succ]
                    refine wpAnyW_take (i := 25) (v := ?_) (by simp only [List.getElem?_toArray, List.getElem?_cons_succ, List.getElem?_cons_zero]; rfl) (by kernel_rfl) (by kernel_rfl) (by kernel_rfl) (by kernel_rfl) (by kernel_rfl) (fun _ _ _ h => h) (Or.inl ⟨by rfl, ?_⟩) (by assumption) ?_
                    rotate_left 1
                    · (intro w' hSw; have hq := (hSw.cell (p := ⟨bf, of + sx.toNat, none⟩) hbf9).trans HXF.out; go_simp; try with_reducible rfl)
                    try simp only [Act.put, List.setIfInBounds_toArray, List.set_cons_zero, List.set_cons_succ]
                    refine wpAnyW_take (i := 26) (v := ?_) (by simp only [List.getElem?_toArray, List.getElem?_cons_succ, List.getElem?_cons_zero]; rfl) (by kernel_rfl) (by kernel_rfl) (by kernel_rfl) (by kernel_rfl) (by kernel_rfl) (fun _ _ _ h => h) (Or.inl ⟨by rfl, ?_⟩) (by assumption) ?_
                    rotate_left 1
                    · (intro w' hSw; go_simp; try with_reducible rfl)
                    try simp only [Act.put, List.setIfInBounds_toArray, List.set_cons_zero, List.set_cons_succ]
                    refine wpAnyW_take (i := 27) (v := ?_) (by simp only [List.getElem?_toArray, List.getElem?_cons_succ, List.getElem?_cons_zero]; rfl) (by kernel_rfl) (by kernel_rfl) (by kernel_rfl) (by kernel_rfl) (by kernel_rfl) (fun _ _ _ h => h) (Or.inl ⟨by rfl, ?_⟩) (by assumption) ?_
                    rotate_left 1
                    · (intro w' hSw; go_simp; try with_reducible rfl)
                    try simp only [Act.put, List.setIfInBounds_toArray, List.set_cons_zero, List.set_cons_succ]
                    refine wpAnyW_take (i := 28) (v := ?_) (by simp only [List.getElem?_toArray, List.getElem?_cons_succ, List.getElem?_cons_zero]; rfl) (by kernel_rfl) (by kernel_rfl) (by kernel_rfl) (by kernel_rfl) (by kernel_rfl) (fun _ _ _ h => h) (Or.inl ⟨by rfl, ?_⟩) (by assumption) ?_
                    rotate_left 1
                    · (intro w' hSw; go_simp; try with_reducible rfl)
                    try simp only [Act.put, List.setIfInBounds_toArray, List.set_cons_zero, List.set_cons_succ]
                    refine wpAnyW_take (i := 29) (v := ?_) (by simp only [List.getElem?_toArray, List.getElem?_cons_succ, List.getElem?_cons_zero]; rfl) (by kernel_rfl) (by kernel_rfl) (by kernel_rfl) (by kernel_rfl) (by kernel_rfl) (fun _ _ _ h => h) (Or.inl ⟨by rfl, ?_⟩) (by assumption) ?_
                    rotate_left 1
                    · (intro w' hSw; have hq := (hSw.cell (p := ⟨w5.heap.size, sx.toNat, none⟩) hgt).trans HY4.out; go_simp; try with_reducible rfl)
                    try simp only [Act.put, List.setIfInBounds_toArray, List.set_cons_zero, List.set_cons_succ]
                    refine wpAnyW_take (i := 30) (v := ?_) (by simp only [List.getElem?_toArray, List.getElem?_cons_succ, List.getElem?_cons_zero]; rfl) (by kernel_rfl) (by kernel_rfl) (by kernel_rfl) (by kernel_rfl) (by kernel_rfl) (fun _ _ _ h => h) (Or.inl ⟨by rfl, ?_⟩) (by assumption) ?_
                    rotate_left 1
                    · (intro w' hSw; go_simp; try with_reducible rfl)
                    try simp only [Act.put, List.setIfInBounds_toArray, List.set_cons_zero, List.set_cons_succ]
                    refine wpAnyW_take (i := 31) (v := ?_) (by simp only [List.getElem?_toArray, List.getElem?_cons_succ, List.getElem?_cons_zero]; rfl) (by kernel_rfl) (by kernel_rfl) (by kernel_rfl) (by kernel_rfl) (by kernel_rfl) (fun _ _ _ h => h) (Or.inl ⟨by rfl, ?_⟩) (by assumption) ?_
                    rotate_left 1
                    · (intro w' hSw; go_simp; try with_reducible rfl)
                    try simp only [Act.put, List.setIfInBounds_toArray, List.set_cons_zero, List.set_cons_succ]
                    refine wpAnyW_take (i := 32) (v := ?_) (by simp only [List.getElem?_toArray, List.getElem?_cons_succ, List.getElem?_cons_zero]; rfl) (by kernel_rfl) (by kernel_rfl) (by kernel_rfl) (by kernel_rfl) (by kernel_rfl) (fun _ _ _ h => h) (Or.inl ⟨by rfl, ?_⟩) (by assumption) ?_
                    rotate_left 1
                    · (intro w' hSw; go_simp; try with_reducible rfl)
                    try simp only [Act.put, List.setIfInBounds_toArray, List.set_cons_zero, List.set_cons_succ]
                    refine wpAnyW_take (i := 33) (v := ?_) (by simp only [List.getElem?_toArray, List.getElem?_cons_succ, List.getElem?_cons_zero]; rfl) (by kernel_rfl) (by kernel_rfl) (by kernel_rfl) (by kernel_rfl) (by kernel_rfl) (fun _ _ _ h => h) (Or.inl ⟨by rfl, ?_⟩) (by assumption) ?_
                    rotate_left 1
                    · (intro w' hSw; go_simp; try with_reducible rfl)
                    try simp only [Act.put, List.setIfInBounds_toArray, List.set_cons_zero, List.set_cons_succ]
                    have HE := Lib.hid hHeld
                    clear hHeld
                    refine wpAnyW_done (by kernel_rfl) ?_ _
                    refine NoPanic.normal ?_
                    replace HTD : Hid (RowB encT wq.drew _ _ _) := Lib.hid HTD.out
                    replace HCM : Hid (RowB encB wq.drew _ _ _) := Lib.hid HCM.out
                    replace HQ : Hid (Bx wq.drew _ _ _) := Lib.hid HQ.out.drew
                    replace HX : Hid (Bx wq.drew _ _ _) := Lib.hid HX.out.drew
                    replace R1 : Hid (RowE enc16 wq.drew _ _) := Lib.hid (R1.out.below HE.out)
                    replace R2 : Hid (RowM wq.drew _ _) := Lib.hid (R2.out.below HE.out)
                    replace HB : Hid (Below w.heap.size w wq.drew) := Lib.hid (below_drawn HB.out)
                    clear HE HY4 hgt hgc hbf9 HC5 hb5 HGP HCI2
                    generalize wq.drew = wz at *
                    go_wp2_with (first
                      | ((with_reducible refine gate9 ?_); refine ldB (ty := 27) (cs := #[.slice (some ⟨b5, o5, none⟩) nn.length c1, .slice A2 ww.length c2]) rfl rfl rfl HX.out Try.underlying27 rfl infoQ ?_)
                      | ((with_reducible refine gate9 ?_); refine stB (ty := 27) #[.slice (some ⟨b5, o5, none⟩) nn.length c1, .slice A2 ww.length c2] rfl rfl rfl rfl HQ.out infoQ rfl (cellsQ_one _ _ _ _ _ _) ?_; intro w21 ht hg; replace R1 := Lib.hid (R1.out.kept HN9.out.1 hg); replace R2 := Lib.hid (R2.out.kept HN9.out.2.1 hg); replace HCM := Lib.hid (HCM.out.kept hg (Nat.ne_of_gt HGW2.out.2.2.1)); replace HTD := Lib.hid (HTD.out.kept hg (Nat.ne_of_gt (Nat.lt_trans HGW2.out.2.2.1 HGW2.out.2.2.2))); replace HB := Lib.hid (below_of_grown1 HB.out hg HB.out.size HGW2.out.2.1); replace HQ := Lib.hid ht; clear ht hg))
                    rw [HNN.out] at HQ R1 HN9
                    go_roundw
                    case rel => exact ⟨j + 1, nn, ww, _, _, some ⟨b5, o5, none⟩, c1, A2, c2, by omega, by go_num, Lib.hid ⟨HIN2.out, HWL.out⟩, Lib.hid ⟨HQ.out, R1.out, R2.out, HN9.out.2.2.1, HN9.out.2.2.2.1, HN9.out.2.2.2.2.1, HN9.out.2.2.2.2.2⟩, HCM, HTD, HB⟩
                    case measure => simp [intOf]; omega
                  · have t0 : decide ((d : Int) < 20) = false := by rw [decide_eq_false_iff_not]; omega
                    have HS : (fun V => Below wq.heap.size wq V) wq.drew := below_drawn (Below.refl _ _)
                    refine wp_region_noPanic ?_
                    refine wp_region_waits (S := (fun V => Below wq.heap.size wq V)) [] (by kernel_rfl) HS (fun hHeld => ?_)
                    clear HS
                    refine wpAnyW_take (i := 0) (v := ?_) (by simp only [List.getElem?_toArray, List.getElem?_cons_zero]; rfl) (by kernel_rfl) (by kernel_rfl) (by kernel_rfl) (by kernel_rfl) (by kernel_rfl) (fun _ _ _ h => h) (Or.inl ⟨by rfl, ?_⟩) (by assumption) ?_
                    rotate_left 1
                    · (intro w' hSw; go_simp; try with_reducible rfl)
                    try simp only [Act.put, List.setIfInBounds_toArray, List.set_cons_zero, List.set_cons_succ]
                    refine wpAnyW_take (i := 1) (v := ?_) (by simp only [List.getElem?_toArray, List.getElem?_cons_succ, List.getElem?_cons_zero]; rfl) (by kernel_rfl) (by kernel_rfl) (by kernel_rfl) (by kernel_rfl) (by kernel_rfl) (fun _ _ _ h => h) (Or.inl ⟨by rfl, ?_⟩) (by assumption) ?_
                    rotate_left 1
                    · (intro w' hSw; go_simp; try with_reducible rfl)
                    try simp only [Act.put, List.setIfInBounds_toArray, List.set_cons_zero, List.set_cons_succ]
                    refine wpAnyW_take (i := 2) (v := ?_) (by simp only [List.getElem?_toArray, List.getElem?_cons_succ, List.getElem?_cons_zero]; rfl) (by kernel_rfl) (by kernel_rfl) (by kernel_rfl) (by kernel_rfl) (by kernel_rfl) (fun _ _ _ h => h) (Or.inl ⟨by rfl, ?_⟩) (by assumption) ?_
                    rotate_left 1
                    · (intro w' hSw; go_simp; try with_reducible rfl)
                    try simp only [Act.put, List.setIfInBounds_toArray, List.set_cons_zero, List.set_cons_succ]
                    refine wpAnyW_take (i := 3) (v := ?_) (by simp only [List.getElem?_toArray, List.getElem?_cons_succ, List.getElem?_cons_zero]; rfl) (by kernel_rfl) (by kernel_rfl) (by kernel_rfl) (by kernel_rfl) (by kernel_rfl) (fun _ _ _ h => h) (Or.inl ⟨by rfl, ?_⟩) (by assumption) ?_
                    rotate_left 1
                    · (intro w' hSw; have hq := (hSw.cell (p := ⟨w5.heap.size, sx.toNat, none⟩) hgt).trans HY4.out; go_simp; try with_reducible rfl)
                    try simp only [Act.put, List.setIfInBounds_toArray, List.set_cons_zero, List.set_cons_succ]
                    refine wpAnyW_take (i := 4) (v := ?_) (by simp only [List.getElem?_toArray, List.getElem?_cons_succ, List.getElem?_cons_zero]; rfl) (by kernel_rfl) (by kernel_rfl) (by kernel_rfl) (by kernel_rfl) (by kernel_rfl) (fun _ _ _ h => h) (Or.inl ⟨by rfl, ?_⟩) (by assumption) ?_
                    rotate_left 1
                    · (intro w' hSw; go_simp; try with_reducible rfl)
                    try simp only [Act.put, List.setIfInBounds_toArray, List.set_cons_zero, List.set_cons_succ]
                    refine wpAnyW_take (i := 5) (v := ?_) (by simp only [List.getElem?_toArray, List.getElem?_cons_succ, List.getElem?_cons_zero]; rfl) (by kernel_rfl) (by kernel_rfl) (by kernel_rfl) (by kernel_rfl) (by kernel_rfl) (fun _ _ _ h => h) (Or.inl ⟨by rfl, ?_⟩) (by assumption) ?_
                    rotate_left 1
                    · (intro w' hSw; go_simp; try with_reducible rfl)
                    try simp only [Act.put, List.setIfInBounds_toArray, List.set_cons_zero, List.set_cons_succ]
                    refine wpAnyW_take (i := 6) (v := undef) (by simp only [List.getElem?_toArray, List.getElem?_cons_succ, List.getElem?_cons_zero]; rfl) (by kernel_rfl) (by kernel_rfl) (by kernel_rfl) (by kernel_rfl) (by kernel_rfl) (fun _ _ _ h => h) (Or.inr ⟨by rfl, rfl⟩) (by assumption) ?_
                    try simp only [Act.put, List.setIfInBounds_toArray, List.set_cons_zero, List.set_cons_succ]
                    refine wpAnyW_take (i := 7) (v := undef) (by simp only [List.getElem?_toArray, List.getElem?_cons_succ, List.getElem?_cons_zero]; rfl) (by kernel_rfl) (by kernel_rfl) (by kernel_rfl) (by kernel_rfl) (by kernel_rfl) (fun _ _ _ h => h) (Or.inr ⟨by rfl, rfl⟩) (by assumption) ?_
                    try simp only [Act.put, List.setIfInBounds_toArray, List.set_cons_zero, List.set_cons_succ]
                    refine wpAnyW_take (i := 8) (v := undef) (by simp only [List.getElem?_toArray, List.getElem?_cons_succ, List.getElem?_cons_zero]; rfl) (by kernel_rfl) (by kernel_rfl) (by kernel_rfl) (by kernel_rfl) (by kernel_rfl) (fun _ _ _ h => h) (Or.inr ⟨by rfl, rfl⟩) (by assumption) ?_
                    try simp only [Act.put, List.setIfInBounds_toArray, List.set_cons_zero, List.set_cons_succ]
                    refine wpAnyW_take (i := 9) (v := undef) (by simp only [List.getElem?_toArray, List.getElem?_cons_succ, List.getElem?_cons_zero]; rfl) (by kernel_rfl) (by kernel_rfl) (by kernel_rfl) (by kernel_rfl) (by kernel_rfl) (fun _ _ _ h => h) (Or.inr ⟨by rfl, rfl⟩) (by assumption) ?_
                    try simp only [Act.put, List.setIfInBounds_toArray, List.set_cons_zero, List.set_cons_succ]
                    refine wpAnyW_take (i := 10) (v := undef) (by simp only [List.getElem?_toArray, List.getElem?_cons_succ, List.getElem?_cons_zero]; rfl) (by kernel_rfl) (by kernel_rfl) (by kernel_rfl) (by kernel_rfl) (by kernel_rfl) (fun _ _ _ h => h) (Or.inr ⟨by rfl, rfl⟩) (by assumption) ?_
                    try simp only [Act.put, List.setIfInBounds_toArray, List.set_cons_zero, List.set_cons_succ]
                    refine wpAnyW_take (i := 11) (v := undef) (by simp only [List.getElem?_toArray, List.getElem?_cons_succ, List.getElem?_cons_zero]; rfl) (by kernel_rfl) (by kernel_rfl) (by kernel_rfl) (by kernel_rfl) (by kernel_rfl) (fun _ _ _ h => h) (Or.inr ⟨by rfl, rfl⟩) (by assumption) ?_
                    try simp only [Act.put, List.setIfInBounds_toArray, List.set_cons_zero, List.set_cons_succ]
                    refine wpAnyW_take (i := 12) (v := undef) (by simp only [List.getElem?_toArray, List.getElem?_cons_succ, List.getElem?_cons_zero]; rfl) (by kernel_rfl) (by kernel_rfl) (by kernel_rfl) (by kernel_rfl) (by kernel_rfl) (fun _ _ _ h => h) (Or.inr ⟨by rfl, rfl⟩) (by assumption) ?_
                    try simp only [Act.put, List.setIfInBounds_toArray, List.set_cons_zero, List.set_cons_succ]
                    refine wpAnyW_take (i := 13) (v := undef) (by simp only [List.getElem?_toArray, List.getElem?_cons_succ, List.getElem?_cons_zero]; rfl) (by kernel_rfl) (by kernel_rfl) (by kernel_rfl) (by kernel_rfl) (by kernel_rfl) (fun _ _ _ h => h) (Or.inr ⟨by rfl, rfl⟩) (by assumption) ?_
                    try simp only [Act.put, List.setIfInBounds_toArray, List.set_cons_zero, List.set_cons_succ]
                    refine wpAnyW_take (i := 14) (v := undef) (by simp only [List.getElem?_toArray, List.getElem?_cons_succ, List.getElem?_cons_zero]; rfl) (by kernel_rfl) (by kernel_rfl) (by kernel_rfl) (by kernel_rfl) (by kernel_rfl) (fun _ _ _ h => h) (Or.inr ⟨by rfl, rfl⟩) (by assumption) ?_
                    try simp only [Act.put, List.setIfInBounds_toArray, List.set_cons_zero, List.set_cons_succ]
                    refine wpAnyW_take (i := 15) (v := ?_) (by simp only [List.getElem?_toArray, List.getElem?_cons_succ, List.getElem?_cons_zero]; rfl) (by kernel_rfl) (by kernel_rfl) (by kernel_rfl) (by kernel_rfl) (by kernel_rfl) (fun _ _ _ h => h) (Or.inl ⟨by rfl, ?_⟩) (by assumption) ?_
                    rotate_left 1
                    · (intro w' hSw; go_simp; try with_reducible rfl)
                    try simp only [Act.put, List.setIfInBounds_toArray, List.set_cons_zero, List.set_cons_succ]
                    refine wpAnyW_take (i := 16) (v := ?_) (by simp only [List.getElem?_toArray, List.getElem?_cons_succ, List.getElem?_cons_zero]; rfl) (by kernel_rfl) (by kernel_rfl) (by kernel_rfl) (by kernel_rfl) (by kernel_rfl) (fun _ _ _ h => h) (Or.inl ⟨by rfl, ?_⟩) (by assumption) ?_
                    rotate_left 1
                    · (intro w' hSw; go_simp; try with_reducible rfl)
                    try simp only [Act.put, List.setIfInBounds_toArray, List.set_cons_zero, List.set_cons_succ]
                    refine wpAnyW_take (i := 17) (v := ?_) (by simp only [List.getElem?_toArray, List.getElem?_cons_succ, List.getElem?_cons_zero]; rfl) (by kernel_rfl) (by kernel_rfl) (by kernel_rfl) (by kernel_rfl) (by kernel_rfl) (fun _ _ _ h => h) (Or.inl ⟨by rfl, ?_⟩) (by assumption) ?_
                    rotate_left 1
                    · (intro w' hSw; go_simp; try with_reducible rfl)
                    try simp only [Act.put, List.setIfInBounds_toArray, List.set_cons_zero, List.set_cons_succ]
                    refine wpAnyW_take (i := 18) (v := ?_) (by simp only [List.getElem?_toArray, List.getElem?_cons_succ, List.getElem?_cons_zero]; rfl) (by kernel_rfl) (by kernel_rfl) (by kernel_rfl) (by kernel_rfl) (by kernel_rfl) (fun _ _ _ h => h) (Or.inl ⟨by rfl, ?_⟩) (by assumption) ?_
                    rotate_left 1
                    · (intro w' hSw; have hq := (HX.out.later hSw).cell 0 (.slice (some ⟨b5, o5, none⟩) nn.length c1) rfl; go_simp; try with_reducible rfl)
                    try simp only [Act.put, List.setIfInBounds_toArray, List.set_cons_zero, List.set_cons_succ]
                    refine wpAnyW_take (i := 19) (v := ?_) (by simp only [List.getElem?_toArray, List.getElem?_cons_succ, List.getElem?_cons_zero]; rfl) (by kernel_rfl) (by kernel_rfl) (by kernel_rfl) (by kernel_rfl) (by kernel_rfl) (fun _ _ _ h => h) (Or.inl ⟨by rfl, ?_⟩) (by assumption) ?_
                    rotate_left 1
                    · (intro w' hSw; go_simp; try with_reducible rfl)
                    try simp only [Act.put, List.setIfInBounds_toArray, List.set_cons_zero, List.set_cons_succ]
                    refine wpAnyW_take (i := 20) (v := ?_) (by simp only [List.getElem?_toArray, List.getElem?_cons_succ, List.getElem?_cons_zero]; rfl) (by kernel_rfl) (by kernel_rfl) (by kernel_rfl) (by kernel_rfl) (by kernel_rfl) (fun _ _ _ h => h) (Or.inl ⟨by rfl, ?_⟩) (by assumption) ?_
                    rotate_left 1
                    · (intro w' hSw; go_simp; try with_reducible rfl)
                    try simp only [Act.put, List.setIfInBounds_toArray, List.set_cons_zero, List.set_cons_succ]
                    refine wpAnyW_take (i := 21) (v := ?_) (by simp only [List.getElem?_toArray, List.getElem?_cons_succ, List.getElem?_cons_zero]; rfl) (by kernel_rfl) (by kernel_rfl) (by kernel_rfl) (by kernel_rfl) (by kernel_rfl) (fun _ _ _ h => h) (Or.inl ⟨by rfl, ?_⟩) (by assumption) ?_
                    rotate_left 1
                    · (intro w' hSw; have hq := (hSw.cell (p := ⟨b5, o5 + sx.toNat, none⟩) hb5).trans HC5.out; go_simp; try with_reducible rfl)
                    try simp only [Act.put, List.setIfInBounds_toArray, List.set_cons_zero, List.set_cons_succ]
                    refine wpAnyW_take (i := 22) (v := ?_) (by simp only [List.getElem?_toArray, List.getElem?_cons_succ, List.getElem?_cons_zero]; rfl) (by kernel_rfl) (by kernel_rfl) (by kernel_rfl) (by kernel_rfl) (by kernel_rfl) (fun _ _ _ h => h) (Or.inl ⟨by rfl, ?_⟩) (by assumption) ?_
                    rotate_left 1
                    · (intro w' hSw; go_simp; try with_reducible rfl)
                    try simp only [Act.put, List.setIfInBounds_toArray, List.set_cons_zero, List.set_cons_succ]
                    refine wpAnyW_take (i := 23) (v := ?_) (by simp only [List.getElem?_toArray, List.getElem?_cons_succ, List.getElem?_cons_zero]; rfl) (by kernel_rfl) (by kernel_rfl) (by kernel_rfl) (by kernel_rfl) (by kernel_rfl) (fun _ _ _ h => h) (Or.inl ⟨by rfl, ?_⟩) (by assumption) ?_
                    rotate_left 1
                    · (intro w' hSw; go_simp; try with_reducible rfl)
                    try simp only [Act.put, List.setIfInBounds_toArray, List.set_cons_zero, List.set_cons_succ]
                    refine wpAnyW_take (i := 24) (v := ?_) (by simp only [List.getElem?_toArray, List.getElem?_cons_succ, List.getElem?_cons_zero]; rfl) (by kernel_rfl) (by kernel_rfl) (by kernel_rfl) (by kernel_rfl) (by kernel_rfl) (fun _ _ _ h => h) (Or.inl ⟨by rfl, ?_⟩) (by assumption) ?_
                    rotate_left 1
                    · (intro w' hSw; go_simp; try with_reducible rfl)
                    try simp only [Act.put, List.setIfInBounds_toArray, List.set_cons_zero, List.set_cons_succ]
                    refine wpAnyW_take (i := 25) (v := ?_) (by simp only [List.getElem?_toArray, List.getElem?_cons_succ, List.getElem?_cons_zero]; rfl) (by kernel_rfl) (by kernel_rfl) (by kernel_rfl) (by kernel_rfl) (by kernel_rfl) (fun _ _ _ h => h) (Or.inl ⟨by rfl, ?_⟩) (by assumption) ?_
                    rotate_left 1
                    · (intro w' hSw; have hq := (hSw.cell (p := ⟨bf, of + sx.toNat, none⟩) hbf9).trans HXF.out; go_simp; try with_reducible rfl)
                    try simp only [Act.put, List.setIfInBounds_toArray, List.set_cons_zero, List.set_cons_succ]
                    refine wpAnyW_take (i := 26) (v := ?_) (by simp only [List.getElem?_toArray, List.getElem?_cons_succ, List.getElem?_cons_zero]; rfl) (by kernel_rfl) (by kernel_rfl) (by kernel_rfl) (by kernel_rfl) (by kernel_rfl) (fun _ _ _ h => h) (Or.inl ⟨by rfl, ?_⟩) (by assumption) ?_
                    rotate_left 1
                    · (intro w' hSw; go_simp; try with_reducible rfl)
                    try simp only [Act.put, List.setIfInBounds_toArray, List.set_cons_zero, List.set_cons_succ]
                    refine wpAnyW_take (i := 27) (v := ?_) (by simp only [List.getElem?_toArray, List.getElem?_cons_succ, List.getElem?_cons_zero]; rfl) (by kernel_rfl) (by kernel_rfl) (by kernel_rfl) (by kernel_rfl) (by kernel_rfl) (fun _ _ _ h => h) (Or.inl ⟨by rfl, ?_⟩) (by assumption) ?_
                    rotate_left 1
                    · (intro w' hSw; go_simp; try with_reducible rfl)
                    try simp only [Act.put, List.setIfInBounds_toArray, List.set_cons_zero, List.set_cons_succ]
                    refine wpAnyW_take (i := 28) (v := ?_) (by simp only [List.getElem?_toArray, List.getElem?_cons_succ, List.getElem?_cons_zero]; rfl) (by kernel_rfl) (by kernel_rfl) (by kernel_rfl) (by kernel_rfl) (by kernel_rfl) (fun _ _ _ h => h) (Or.inl ⟨by rfl, ?_⟩) (by assumption) ?_
                    rotate_left 1
                    · (intro w' hSw; go_simp; try with_reducible rfl)
                    try simp only [Act.put, List.setIfInBounds_toArray, List.set_cons_zero, List.set_cons_succ]
                    refine wpAnyW_take (i := 29) (v := ?_) (by simp only [List.getElem?_toArray, List.getElem?_cons_succ, List.getElem?_cons_zero]; rfl) (by kernel_rfl) (by kernel_rfl) (by kernel_rfl) (by kernel_rfl) (by kernel_rfl) (fun _ _ _ h => h) (Or.inl ⟨by rfl, ?_⟩) (by assumption) ?_
                    rotate_left 1
                    · (intro w' hSw; have hq := (hSw.cell (p := ⟨w5.heap.size, sx.toNat, none⟩) hgt).trans HY4.out; go_simp; try with_reducible rfl)
                    try simp only [Act.put, List.setIfInBounds_toArray, List.set_cons_zero, List.set_cons_succ]
                    refine wpAnyW_take (i := 30) (v := ?_) (by simp only [List.getElem?_toArray, List.getElem?_cons_succ, List.getElem?_cons_zero]; rfl) (by kernel_rfl) (by kernel_rfl) (by kernel_rfl) (by kernel_rfl) (by kernel_rfl) (fun _ _ _ h => h) (Or.inl ⟨by rfl, ?_⟩) (by assumption) ?_
                    rotate_left 1
                    · (intro w' hSw; go_simp; try with_reducible rfl)
                    try simp only [Act.put, List.setIfInBounds_toArray, List.set_cons_zero, List.set_cons_succ]
                    refine wpAnyW_take (i := 31) (v := ?_) (by simp only [List.getElem?_toArray, List.getElem?_cons_succ, List.getElem?_cons_zero]; rfl) (by kernel_rfl) (by kernel_rfl) (by kernel_rfl) (by kernel_rfl) (by kernel_rfl) (fun _ _ _ h => h) (Or.inl ⟨by rfl, ?_⟩) (by assumption) ?_
                    rotate_left 1
                    · (intro w' hSw; go_simp; try with_reducible rfl)
                    try simp only [Act.put, List.setIfInBounds_toArray, List.set_cons_zero, List.set_cons_succ]
                    refine wpAnyW_take (i := 32) (v := ?_) (by simp only [List.getElem?_toArray, List.getElem?_cons_succ, List.getElem?_cons_zero]; rfl) (by kernel_rfl) (by kernel_rfl) (by kernel_rfl) (by kernel_rfl) (by kernel_rfl) (fun _ _ _ h => h) (Or.inl ⟨by rfl, ?_⟩) (by assumption) ?_
                    rotate_left 1
                    · (intro w' hSw; go_simp; try with_reducible rfl)
                    try simp only [Act.put, List.setIfInBounds_toArray, List.set_cons_zero, List.set_cons_succ]
                    refine wpAnyW_take (i := 33) (v := ?_) (by simp only [List.getElem?_toArray, List.getElem?_cons_succ, List.getElem?_cons_zero]; rfl) (by kernel_rfl) (by kernel_rfl) (by kernel_rfl) (by kernel_rfl) (by kernel_rfl) (fun _ _ _ h => h) (Or.inl ⟨by rfl, ?_⟩) (by assumption) ?_
                    rotate_left 1
                    · (intro w' hSw; go_simp; try with_reducible rfl)
                    try simp only [Act.put, List.setIfInBounds_toArray, List.set_cons_zero, List.set_cons_succ]
                    have HE := Lib.hid hHeld
                    clear hHeld
                    refine wpAnyW_done (by kernel_rfl) ?_ _
                    refine NoPanic.normal ?_
                    replace HTD : Hid (RowB encT wq.drew _ _ _) := Lib.hid HTD.out
                    replace HCM : Hid (RowB encB wq.drew _ _ _) := Lib.hid HCM.out
                    replace HQ : Hid (Bx wq.drew _ _ _) := Lib.hid HQ.out.drew
                    replace HX : Hid (Bx wq.drew _ _ _) := Lib.hid HX.out.drew
                    replace R1 : Hid (RowE enc16 wq.drew _ _) := Lib.hid (R1.out.below HE.out)
                    replace R2 : Hid (RowM wq.drew _ _) := Lib.hid (R2.out.below HE.out)
                    replace HB : Hid (Below w.heap.size w wq.drew) := Lib.hid (below_drawn HB.out)
                    clear HE HY4 hgt hgc hbf9 HC5 hb5 HGP HCI2
                    generalize wq.drew = wz at *
                    go_wp2_with (first
                      | ((with_reducible refine gate9 ?_); refine ldB (ty := 27) (cs := #[.slice (some ⟨b5, o5, none⟩) nn.length c1, .slice A2 ww.length c2]) rfl rfl rfl HX.out Try.underlying27 rfl infoQ ?_)
                      | ((with_reducible refine gate9 ?_); refine stB (ty := 27) #[.slice (some ⟨b5, o5, none⟩) nn.length c1, .slice A2 ww.length c2] rfl rfl rfl rfl HQ.out infoQ rfl (cellsQ_one _ _ _ _ _ _) ?_; intro w21 ht hg; replace R1 := Lib.hid (R1.out.kept HN9.out.1 hg); replace R2 := Lib.hid (R2.out.kept HN9.out.2.1 hg); replace HCM := Lib.hid (HCM.out.kept hg (Nat.ne_of_gt HGW2.out.2.2.1)); replace HTD := Lib.hid (HTD.out.kept hg (Nat.ne_of_gt (Nat.lt_trans HGW2.out.2.2.1 HGW2.out.2.2.2))); replace HB := Lib.hid (below_of_grown1 HB.out hg HB.out.size HGW2.out.2.1); replace HQ := Lib.hid ht; clear ht hg))
                    rw [HNN.out] at HQ R1 HN9
                    go_roundw
                    case rel => exact ⟨j + 1, nn, ww, _, _, some ⟨b5, o5, none⟩, c1, A2, c2, by omega, by go_num, Lib.hid ⟨HIN2.out, HWL.out⟩, Lib.hid ⟨HQ.out, R1.out, R2.out, HN9.out.2.2.1, HN9.out.2.2.2.1, HN9.out.2.2.2.2.1, HN9.out.2.2.2.2.2⟩, HCM, HTD, HB⟩
                    case measure => simp [intOf]; omega
        · obtain rfl : j = l.length := by omega
          go_wp2_with fail
          go_ret
          exact ⟨rfl, HB.out⟩

set_option maxRecDepth 100000 in
theorem lifted (os : Os) (started : os.Started) (H : Type) (enc : TypeId × Value → H) :
    ReturnsInHanded {} Try.checked os 4 .any (Rows.orderStreamsSpec.pre6 enc Try.prog Try.f4 Rows.orderStreamsRow.domain false) (Rows.orderStreamsSpec.post enc Try.prog Try.f4 false true false false) := by
  refine returnsInHanded_of_change_sized (C := Try.checked) own started (by kernel_rfl) Try.func4
    (ChangeSpec.witness6 (enc := enc) (C := Try.checked) false ⟨#[], #[.slice none 0 0, .slice none 0 0], []⟩ 8 (by kernel_rfl) (by kernel_rfl) (by kernel_rfl) (by kernel_rfl)) ?_
  intro W base args ds gs before hval0 hW _ hreach _
  have hval : ∀ (j : Nat) t v, Try.f4.params[j]? = some t → args[j]? = some v → Value.okWide Try.prog W .any base t v := hval0
  obtain ⟨p, q, hA0, _, _, _, _⟩ := id hW
  have hA : DataW.TrodAll enc Try.prog W 0 (fun _ => true) true Try.f4.params.toList args.toList ds p := hA0
  rw [Try.params4] at hA hval
  obtain ⟨v0, vs0, d0, ds0, p0, q0, hargs, rfl, rfl, h0, r0⟩ := trodAll_cons hA
  obtain ⟨v1, vs1, d1, ds1, p1, q1, rfl, rfl, rfl, h1, r1⟩ := trodAll_cons r0
  obtain ⟨rfl, rfl, rfl⟩ := trodAll_nil r1
  obtain rfl : args = #[v0, v1] := by cases args; simp_all
  obtain ⟨l0, w0⟩ := nums16_in (hval 0 24 v0 rfl rfl) h0
  obtain ⟨l1, w1, m1⟩ := ints_in (hval 1 59 v1 rfl rfl) h1
  refine (walk l0 l1 m1 v0 v1 W w0 w1).mono fun e W' ⟨he, hg⟩ => ?_
  subst he
  exact ⟨_, rfl, law_post laidOut Try.underlying4 (by kernel_rfl) (by kernel_rfl) rfl hW (by simp [Rows.orderStreamsSpec]) hg⟩

theorem proved : Rows.OrderStreamsSaid :=
  OpenClaim.holds_of_wide 4 Try.f4 rfl rfl rfl rfl rfl rfl rfl ⟨rfl, rfl, rfl, rfl, rfl⟩ rfl rfl rfl rfl rfl (by kernel_rfl) Try.func4 (by kernel_rfl)
    (of_decide_eq_true (by kernel_rfl)) (by unfold Func.isWrapper; first | (rw [if_pos (by decide +kernel)]; kernel_rfl) | (rw [if_neg (by decide +kernel)]; exact ⟨rfl, rfl⟩))
    (fun os started H enc _ => lifted os started H enc)
#print axioms proved
end Go.Proofs.Ytondgdacjbfihaa.orderStreams
