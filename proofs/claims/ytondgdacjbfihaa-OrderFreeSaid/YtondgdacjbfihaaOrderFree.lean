/-
  What is free is told at once, and changes nothing; what is refused changes nothing of what was handed in: any number of streams, any messages, any message.
-/
import Derived.Test.YtondgdacjbfihaaLift
import Derived.Test.YtondgdacjbfihaaArgs
import Derived.Test.YtondgdacjbfihaaPb
import Derived.Deep.CutBlock
import Derived.Deep.CutRange
import Derived.Deep.Cut
namespace Go.Proofs.Ytondgdacjbfihaa.orderFree
open Go.ChangeShapes Go.WideShapes Go.ChangeAt Go.RowKit
set_option linter.unusedVariables false
set_option linter.unusedSimpArgs false
set_option maxRecDepth 100000

set_option maxHeartbeats 4000000 in
theorem walk (n : Int) (l : List Mg) (m : Mg) (v : Value) (w : World) (h : RowM w v l) : Calls Try.prog 5 #[.int .i64 n, v, .agg (cellsMg m)] w fun e w' => e = .returned (.bool true) ∧ Below w.heap.size w w' := by
  have HSH := Lib.hid shown_any
  have HNW := Lib.hid (fun V => new_any n V)
  have HV := Lib.hid h
  obtain ⟨W, hW, HM, HB, hs⟩ := one_open w 40 (cellsMg m)
  obtain ⟨A, cap, rfl, _, hmx, _⟩ := id h
  have hmxI : (l.length : Int) ≤ 9223372036854775807 := by unfold maxLen at hmx; omega
  clear h
  by_cases h40 : l.length ≤ 40
  · have q40 : (l.length : Int) ≤ 40 := by omega
    by_cases hz : m.tx.size ≤ 300
    · have qz : (m.tx.size : Int) ≤ 300 := by omega
      by_cases hn : n < 1 ∨ 16 < n
      · have HE : Hid (newE n = 1 ∧ newN n = []) := Lib.hid ⟨by unfold newE; rw [if_pos hn], by unfold newN; rw [if_pos hn]⟩
        rw [HE.out.1, HE.out.2] at HNW
        by_cases hn1 : n < 1
        · clear hn
          go_enter Try.func5, Try.ntmps5
          go_wp2_with (first
      | (go_at_call 8; (with_reducible refine (HSH.out _).mono ?_); rintro e w1 ⟨rfl, hb⟩; replace HB := Lib.hid (HB.out.trans (hb.mono HB.out.size)); replace HM := Lib.hid (HM.out.later hb); have d5 := HM.out.cell 5 (.string m.tx) rfl; clear hb)
      | (go_at_call 9; (with_reducible refine (HNW.out _).mono ?_); rintro e w2 ⟨A0, k0, rfl, hown, hb⟩;  have RN0 := Lib.hid (row_of_own hown); have HMo := HM; replace HM := Lib.hid (HM.out.later hb); replace HB := Lib.hid (HB.out.trans (hb.mono HB.out.size)); have HNM0 := Lib.hid (NotIn.of_fresh (fresh_own hown) HMo.out.lt); clear hown hb HMo; obtain ⟨W3, hW3, HZ3, HC3, hs3⟩ := one_open w2 27 #[.slice none 0 0, .slice none 0 0]; obtain ⟨gq, hgq0⟩ : ∃ g, w2.heap.size = g := ⟨_, rfl⟩; rw [hgq0] at HZ3; have HGM := Lib.hid (show w.heap.size ≠ gq from Nat.ne_of_lt (by rw [← hgq0]; exact HM.out.lt)); clear hs3)
      | ((with_reducible refine gate9 ?_); refine stB (ty := 27) #[.slice A0 0 k0, .slice none 0 0] rfl rfl rfl rfl HZ3.out infoQ rfl (cellsQ_one _ _ _ _ _ _) ?_; intro w3 ht hg; have hb := below_of_grown1 HC3.out hg HC3.out.size (Nat.le_of_eq hgq0); have HQ := Lib.hid ht; have HN := Lib.hid (RN0.out.below hb); have hgw : w.heap.size ≤ gq := (by have := HB.out.size; omega); replace HM := Lib.hid (HM.out.later hb); replace HB := Lib.hid (HB.out.trans (hb.mono HB.out.size)); have n0 := HQ.out.cell 0 (.slice A0 0 k0) rfl; clear ht hg hb HZ3 HC3 RN0))
          go_ret
          exact ⟨rfl, HB.out⟩
        · have hn2 : 16 < n := by omega
          clear hn
          go_enter Try.func5, Try.ntmps5
          go_wp2_with (first
      | (go_at_call 8; (with_reducible refine (HSH.out _).mono ?_); rintro e w1 ⟨rfl, hb⟩; replace HB := Lib.hid (HB.out.trans (hb.mono HB.out.size)); replace HM := Lib.hid (HM.out.later hb); have d5 := HM.out.cell 5 (.string m.tx) rfl; clear hb)
      | (go_at_call 9; (with_reducible refine (HNW.out _).mono ?_); rintro e w2 ⟨A0, k0, rfl, hown, hb⟩;  have RN0 := Lib.hid (row_of_own hown); have HMo := HM; replace HM := Lib.hid (HM.out.later hb); replace HB := Lib.hid (HB.out.trans (hb.mono HB.out.size)); have HNM0 := Lib.hid (NotIn.of_fresh (fresh_own hown) HMo.out.lt); clear hown hb HMo; obtain ⟨W3, hW3, HZ3, HC3, hs3⟩ := one_open w2 27 #[.slice none 0 0, .slice none 0 0]; obtain ⟨gq, hgq0⟩ : ∃ g, w2.heap.size = g := ⟨_, rfl⟩; rw [hgq0] at HZ3; have HGM := Lib.hid (show w.heap.size ≠ gq from Nat.ne_of_lt (by rw [← hgq0]; exact HM.out.lt)); clear hs3)
      | ((with_reducible refine gate9 ?_); refine stB (ty := 27) #[.slice A0 0 k0, .slice none 0 0] rfl rfl rfl rfl HZ3.out infoQ rfl (cellsQ_one _ _ _ _ _ _) ?_; intro w3 ht hg; have hb := below_of_grown1 HC3.out hg HC3.out.size (Nat.le_of_eq hgq0); have HQ := Lib.hid ht; have HN := Lib.hid (RN0.out.below hb); have hgw : w.heap.size ≤ gq := (by have := HB.out.size; omega); replace HM := Lib.hid (HM.out.later hb); replace HB := Lib.hid (HB.out.trans (hb.mono HB.out.size)); have n0 := HQ.out.cell 0 (.slice A0 0 k0) rfl; clear ht hg hb HZ3 HC3 RN0))
          go_ret
          exact ⟨rfl, HB.out⟩
      · have hn1 : 1 ≤ n := by omega
        have hn2 : n ≤ 16 := by omega
        have HE : Hid (newE n = 0) := Lib.hid (by unfold newE; rw [if_neg hn])
        rw [HE.out] at HNW
        have HNR : Hid (newN n = List.replicate n.toNat 0) := Lib.hid (by unfold newN; rw [if_neg hn])
        have HNL : Hid (((newN n).length : Int) = n) := Lib.hid (newN_len (by omega) (by omega))
        clear hn
        go_enter Try.func5, Try.ntmps5
        go_wp2_with (first
      | (go_at_call 8; (with_reducible refine (HSH.out _).mono ?_); rintro e w1 ⟨rfl, hb⟩; replace HB := Lib.hid (HB.out.trans (hb.mono HB.out.size)); replace HM := Lib.hid (HM.out.later hb); have d5 := HM.out.cell 5 (.string m.tx) rfl; clear hb)
      | (go_at_call 9; (with_reducible refine (HNW.out _).mono ?_); rintro e w2 ⟨A0, k0, rfl, hown, hb⟩;  have RN0 := Lib.hid (row_of_own hown); have HMo := HM; replace HM := Lib.hid (HM.out.later hb); replace HB := Lib.hid (HB.out.trans (hb.mono HB.out.size)); have HNM0 := Lib.hid (NotIn.of_fresh (fresh_own hown) HMo.out.lt); clear hown hb HMo; obtain ⟨W3, hW3, HZ3, HC3, hs3⟩ := one_open w2 27 #[.slice none 0 0, .slice none 0 0]; obtain ⟨gq, hgq0⟩ : ∃ g, w2.heap.size = g := ⟨_, rfl⟩; rw [hgq0] at HZ3; have HGM := Lib.hid (show w.heap.size ≠ gq from Nat.ne_of_lt (by rw [← hgq0]; exact HM.out.lt)); clear hs3)
      | ((with_reducible refine gate9 ?_); refine stB (ty := 27) #[.slice A0 (newN n).length k0, .slice none 0 0] rfl rfl rfl rfl HZ3.out infoQ rfl (cellsQ_one _ _ _ _ _ _) ?_; intro w3 ht hg; have hb := below_of_grown1 HC3.out hg HC3.out.size (Nat.le_of_eq hgq0); have HQ := Lib.hid ht; have HN := Lib.hid (RN0.out.below hb); have hgw : w.heap.size ≤ gq := (by have := HB.out.size; omega); replace HM := Lib.hid (HM.out.later hb); replace HB := Lib.hid (HB.out.trans (hb.mono HB.out.size)); have n0 := HQ.out.cell 0 (.slice A0 (newN n).length k0) rfl; clear ht hg hb HZ3 HC3 RN0))
        clear hW3 hgq0 n0 d5
        have HGW := Lib.hid hgw
        go_loopw [6, 10] (fun v6 i wr => ∃ (j : Nat) (nx : List UInt16) (wt : List Mg), j ≤ l.length ∧ v6 = .bool false ∧ i = .int .i64 j ∧ Hid (wt.length ≤ j ∧ nx.length = (newN n).length ∧ OkQ nx wt) ∧ Hid (∃ A1 c1 A2 c2, Bx wr gq 27 #[.slice A1 nx.length c1, .slice A2 wt.length c2] ∧ RowE enc16 wr (.slice A1 nx.length c1) nx ∧ RowM wr (.slice A2 wt.length c2) wt ∧ NotIn w.heap.size (.slice A1 nx.length c1) ∧ NotIn w.heap.size (.slice A2 wt.length c2)) ∧ Hid (Bx wr w.heap.size 40 (cellsMg m)) ∧ Hid (Below w.heap.size w wr))
          (fun _ i _ => l.length - (intOf i).toNat)
        case atStart => exact ⟨0, List.replicate n.toNat 0, [], Nat.zero_le _, rfl, rfl, Lib.hid ⟨Nat.le_refl _, by have := HNL.out; rw [List.length_replicate]; omega, OkQ.empty _⟩, Lib.hid ⟨A0, k0, none, 0, by rw [← HNR.out]; exact HQ.out, by rw [← HNR.out]; exact HN.out, RowM.nil _, by rw [← HNR.out]; exact HNM0.out, fun a n c e => by cases e⟩, HM, HB⟩
        case round =>
          clear HQ HN HB HM HNM0
          obtain ⟨j, nx, wt, hj, rfl, rfl, HIO, HQA, HM, HB⟩ := hrel
          obtain ⟨B1, d1, B2, d2, hbx, hrn, hrw, hm1, hm2⟩ := HQA.out
          have HQ := Lib.hid hbx
          have HN := Lib.hid hrn
          have HWT := Lib.hid hrw
          have HNM := Lib.hid (And.intro hm1 hm2)
          have hgq := hbx.lt
          have hgm := HM.out.lt
          clear hbx hrn hrw HQA hm1 hm2
          by_cases hlt : j < l.length
          · obtain ⟨b, off, cap', e9, hbw0, -, -, hrg⟩ := HV.out.at hlt
            cases e9
            have HRG := Lib.hid (range_below hrg hbw0 HB.out)
            have hbw : b < wr.heap.size := by have := HB.out.size; omega
            have q0 : (0 : Int) ≤ (j : Int) := by omega
            have q1 : (j : Int) < (l.length : Int) := by omega
            clear hrg
            generalize l[j] = x at *
            have x5 := HRG.out 5 (.string x.tx) rfl
            by_cases hzx : x.tx.size ≤ 300
            · have z0 : (x.tx.size : Int) ≤ 300 := by omega
              have hwl := HIO.out.1
              have hok := HIO.out.2.2
              have hnl := HIO.out.2.1
              have hnl2 : nx.length ≤ 100000 := by have := HNL.out; omega
              have HPU := Lib.hid (fun V a b ha hb => put_any nx wt x hnl2 (by omega) a b V ha hb hok)
              have HP0 := Lib.hid (put_ok hok (by omega) x)
              clear hok hnl hnl2 hwl
              generalize putE nx wt x = ee at *
              generalize putN nx wt x = nn at *
              generalize putW nx wt x = ww at *
              generalize putT nx wt x = tt at *
              go_wp2_with fail
              go_cut [11, 12, 13] from 52 to 75 (fun v11 v12 v13 wx => ∃ (ga : Nat) (A1 : Option Addr) (c1 : Nat) (A2 : Option Addr) (c2 : Nat) (A3 : Option Addr) (c3 : Nat), v11 = .pointer (some ⟨ga, 0, none⟩) ∧ v12 = .slice A3 tt.length c3 ∧ v13 = .int .i64 ee ∧ Hid (Bx wx ga 27 #[.slice A1 nn.length c1, .slice A2 ww.length c2] ∧ RowE enc16 wx (.slice A1 nn.length c1) nn ∧ RowM wx (.slice A2 ww.length c2) ww ∧ RowM wx (.slice A3 tt.length c3) tt ∧ NotIn gq (.slice A1 nn.length c1) ∧ NotIn gq (.slice A2 ww.length c2) ∧ NotIn gq (.slice A3 tt.length c3) ∧ Below wr.heap.size wr wx ∧ NotIn w.heap.size (.slice A1 nn.length c1) ∧ NotIn w.heap.size (.slice A2 ww.length c2)))
              case first =>
                clear HIO HP0
                have HS : (fun V => Below wr.heap.size wr V) wr.drew := below_drawn (Below.refl _ _)
                refine wp_region_noPanic ?_
                refine wp_region_waits (S := (fun V => Below wr.heap.size wr V)) [13] (by kernel_rfl) HS (fun hHeld => ?_)
                clear HS
                refine wpAnyW_take (i := 0) (v := _) (by simp only [List.getElem?_toArray, List.getElem?_cons_zero]; rfl) (by kernel_rfl) (by kernel_rfl) (by kernel_rfl) (by kernel_rfl) (by kernel_rfl) (fun _ _ _ h => h) (yB (ty := 27) (by rfl) rfl rfl (fun V h => HQ.out.later h) Try.underlying27 rfl infoQ) (by assumption) ?_
                try simp only [Act.put, List.setIfInBounds_toArray, List.set_cons_zero, List.set_cons_succ]
                refine wpAnyW_take (i := 1) (v := ?_) (by simp only [List.getElem?_toArray, List.getElem?_cons_succ, List.getElem?_cons_zero]; rfl) (by kernel_rfl) (by kernel_rfl) (by kernel_rfl) (by kernel_rfl) (by kernel_rfl) (fun _ _ _ h => h) (Or.inl ⟨by rfl, ?_⟩) (by assumption) ?_
                rotate_left 1
                · (intro w' hSw; go_simp; try with_reducible rfl)
                try simp only [Act.put, List.setIfInBounds_toArray, List.set_cons_zero, List.set_cons_succ]
                refine wpAnyW_take (i := 2) (v := ?_) (by simp only [List.getElem?_toArray, List.getElem?_cons_succ, List.getElem?_cons_zero]; rfl) (by kernel_rfl) (by kernel_rfl) (by kernel_rfl) (by kernel_rfl) (by kernel_rfl) (fun _ _ _ h => h) (Or.inl ⟨by rfl, ?_⟩) (by assumption) ?_
                rotate_left 1
                · (intro w' hSw; go_simp; try with_reducible rfl)
                try simp only [Act.put, List.setIfInBounds_toArray, List.set_cons_zero, List.set_cons_succ]
                refine wpAnyW_take (i := 3) (v := ?_) (by simp only [List.getElem?_toArray, List.getElem?_cons_succ, List.getElem?_cons_zero]; rfl) (by kernel_rfl) (by kernel_rfl) (by kernel_rfl) (by kernel_rfl) (by kernel_rfl) (fun _ _ _ h => h) (Or.inl ⟨by rfl, ?_⟩) (by assumption) ?_
                rotate_left 1
                · (intro w' hSw; go_simp; try with_reducible rfl)
                try simp only [Act.put, List.setIfInBounds_toArray, List.set_cons_zero, List.set_cons_succ]
                refine wpAnyW_take (i := 4) (v := _) (by simp only [List.getElem?_toArray, List.getElem?_cons_succ, List.getElem?_cons_zero]; rfl) (by kernel_rfl) (by kernel_rfl) (by kernel_rfl) (by kernel_rfl) (by kernel_rfl) (fun _ _ _ h => h) (yMg (ty := 40) (by rfl) rfl rfl (fun V h => range_below HRG.out hbw h) Try.underlying40 rfl infoM) (by assumption) ?_
                try simp only [Act.put, List.setIfInBounds_toArray, List.set_cons_zero, List.set_cons_succ]
                refine wpAnyW_two (i := 5) (i2 := 10) (by kernel_rfl) (by simp only [List.getElem?_toArray, List.getElem?_cons_succ, List.getElem?_cons_zero]; rfl) (by simp only [List.getElem?_toArray, List.getElem?_cons_succ, List.getElem?_cons_zero]; rfl) (fun K hK => ?_) (fun K hK => ?_)
                · rw [if_pos (by rfl)]
                  go_simp
                  refine (HPU.out _ _ _ (HN.out.below hHeld) (HWT.out.below hHeld)).mono ?_
                  rintro _ u5 ⟨A1, c1, A2, c2, A3, c3, rfl, r1, r2, r3, o1, o2, o3, hb⟩
                  have HS : (fun V => Below wr.heap.size wr V) _ := hHeld.trans (hb.mono hHeld.size)
                  have N1 := Lib.hid (o1 gq (Nat.lt_of_lt_of_le hgq hHeld.size))
                  have N2 := Lib.hid (o2 gq (Nat.lt_of_lt_of_le hgq hHeld.size))
                  have N3 := Lib.hid (o3 gq (Nat.lt_of_lt_of_le hgq hHeld.size))
                  have M1 := Lib.hid (o1 w.heap.size (Nat.lt_of_lt_of_le hgm hHeld.size))
                  have M2 := Lib.hid (o2 w.heap.size (Nat.lt_of_lt_of_le hgm hHeld.size))
                  have R1 := Lib.hid r1
                  have R2 := Lib.hid r2
                  have R3 := Lib.hid r3
                  clear hHeld r1 r2 r3 o1 o2 o3 hb
                  go_wp2_with fail
                  refine hK.out _ _ HS (fun hHeld => ?_)
                  clear hK K HS
                  try simp only [Act.put, List.setIfInBounds_toArray, List.set_cons_zero, List.set_cons_succ]
                  refine wpAnyW_take (i := 6) (v := ?_) (by simp only [List.getElem?_toArray, List.getElem?_cons_succ, List.getElem?_cons_zero]; rfl) (by kernel_rfl) (by kernel_rfl) (by kernel_rfl) (by kernel_rfl) (by kernel_rfl) (fun _ _ _ h => h) (Or.inl ⟨by rfl, ?_⟩) (by assumption) ?_
                  rotate_left 1
                  · (intro w' hSw; go_simp; try with_reducible rfl)
                  try simp only [Act.put, List.setIfInBounds_toArray, List.set_cons_zero, List.set_cons_succ]
                  refine wpAnyW_take (i := 7) (v := ?_) (by simp only [List.getElem?_toArray, List.getElem?_cons_succ, List.getElem?_cons_zero]; rfl) (by kernel_rfl) (by kernel_rfl) (by kernel_rfl) (by kernel_rfl) (by kernel_rfl) (fun _ _ _ h => h) (Or.inl ⟨by rfl, ?_⟩) (by assumption) ?_
                  rotate_left 1
                  · (intro w' hSw; go_simp; try with_reducible rfl)
                  try simp only [Act.put, List.setIfInBounds_toArray, List.set_cons_zero, List.set_cons_succ]
                  refine wpAnyW_take (i := 8) (v := ?_) (by simp only [List.getElem?_toArray, List.getElem?_cons_succ, List.getElem?_cons_zero]; rfl) (by kernel_rfl) (by kernel_rfl) (by kernel_rfl) (by kernel_rfl) (by kernel_rfl) (fun _ _ _ h => h) (Or.inl ⟨by rfl, ?_⟩) (by assumption) ?_
                  rotate_left 1
                  · (intro w' hSw; go_simp; try with_reducible rfl)
                  try simp only [Act.put, List.setIfInBounds_toArray, List.set_cons_zero, List.set_cons_succ]
                  refine wpAnyW_take (i := 9) (v := ?_) (by simp only [List.getElem?_toArray, List.getElem?_cons_succ, List.getElem?_cons_zero]; rfl) (by kernel_rfl) (by kernel_rfl) (by kernel_rfl) (by kernel_rfl) (by kernel_rfl) (fun _ _ _ h => h) (Or.inl ⟨by rfl, ?_⟩) (by assumption) ?_
                  rotate_left 1
                  · (intro w' hSw; go_simp; try with_reducible rfl)
                  try simp only [Act.put, List.setIfInBounds_toArray, List.set_cons_zero, List.set_cons_succ]
                  refine wpAnyW_held (i := 10) (by kernel_rfl) (by simp only [List.getElem?_toArray, List.getElem?_cons_succ, List.getElem?_cons_zero]; rfl) (fun K hK => ?_)
                  rw [if_pos (by rfl)]
                  obtain ⟨v8, hv8, HX, HB8, hs8⟩ := one_open u5 27 #[.slice none 0 0, .slice none 0 0]
                  obtain ⟨ga, hga0⟩ : ∃ g, u5.heap.size = g := ⟨_, rfl⟩
                  rw [hga0] at HX
                  have hga : wr.heap.size ≤ ga := by rw [← hga0]; exact hHeld.size
                  have HS : (fun V => Below wr.heap.size wr V) _ := hHeld.trans (HB8.out.mono hHeld.size)
                  clear hHeld hs8
                  go_simp
                  clear hv8
                  refine hK.out _ _ HS (fun hHeld => ?_)
                  clear hK K HS
                  try simp only [Act.put, List.setIfInBounds_toArray, List.set_cons_zero, List.set_cons_succ]
                  refine wpAnyW_held (i := 11) (by kernel_rfl) (by simp only [List.getElem?_toArray, List.getElem?_cons_succ, List.getElem?_cons_zero]; rfl) (fun K hK => ?_)
                  rw [if_pos (by rfl)]
                  refine wpB (ty := 27) #[.slice A1 nn.length c1, .slice A2 ww.length c2] rfl rfl rfl HX.out infoQ rfl (cellsQ_one _ _ _ _ _ _) ?_
                  intro y9 ht hg
                  have HS : (fun V => Below wr.heap.size wr V) _ := below_of_grown1 hHeld hg hHeld.size hga
                  have hb9 := below_of_grown1 HB8.out hg HB8.out.size (Nat.le_of_eq hga0)
                  replace R1 := Lib.hid (R1.out.below hb9)
                  replace R2 := Lib.hid (R2.out.below hb9)
                  replace R3 := Lib.hid (R3.out.below hb9)
                  replace HX := Lib.hid ht
                  clear ht hg hHeld
                  refine hK.out _ _ HS (fun hHeld => ?_)
                  clear hK K HS
                  try simp only [Act.put, List.setIfInBounds_toArray, List.set_cons_zero, List.set_cons_succ]
                  refine wpAnyW_held (i := 12) (by kernel_rfl) (by simp only [List.getElem?_toArray, List.getElem?_cons_succ, List.getElem?_cons_zero]; rfl) (fun K hK => ?_)
                  rw [if_pos (by rfl)]
                  go_simp
                  refine hK.out _ _ hHeld (fun hHeld => ?_)
                  clear hK K
                  try simp only [Act.put, List.setIfInBounds_toArray, List.set_cons_zero, List.set_cons_succ]
                  refine wpAnyW_freed (i := 13) (by kernel_rfl) (by kernel_rfl) (by simp only [List.getElem?_toArray, List.getElem?_cons_succ, List.getElem?_cons_zero]; rfl) (fun K hK => ?_)
                  rw [if_pos (by rfl)]
                  go_simp
                  have HE := Lib.hid hHeld
                  refine hK.out _ _ ?_
                  clear hK K hHeld
                  try simp only [Act.put, List.setIfInBounds_toArray, List.set_cons_zero, List.set_cons_succ]
                  refine wpAnyW_done (by kernel_rfl) ?_ _
                  refine NoPanic.normal ?_
                  go_wp2_with fail
                  go_meet
                  exact ⟨ga, A1, c1, A2, c2, A3, c3, rfl, rfl, rfl, Lib.hid ⟨HX.out, R1.out, R2.out, R3.out, N1.out, N2.out, N3.out, HE.out, M1.out, M2.out⟩⟩
                · rw [if_pos (by rfl)]
                  obtain ⟨v8, hv8, HX, HB8, hs8⟩ := one_open wr.drew 27 #[.slice none 0 0, .slice none 0 0]
                  obtain ⟨ga, hga0⟩ : ∃ g, wr.drew.heap.size = g := ⟨_, rfl⟩
                  rw [hga0] at HX
                  have hga : wr.heap.size ≤ ga := by rw [← hga0]; exact hHeld.size
                  have HS : (fun V => Below wr.heap.size wr V) _ := hHeld.trans (HB8.out.mono hHeld.size)
                  clear hHeld hs8
                  go_simp
                  clear hv8
                  refine hK.out _ _ HS (fun hHeld => ?_)
                  clear hK K HS
                  try simp only [Act.put, List.setIfInBounds_toArray, List.set_cons_zero, List.set_cons_succ]
                  refine wpAnyW_held (i := 5) (by kernel_rfl) (by simp only [List.getElem?_toArray, List.getElem?_cons_succ, List.getElem?_cons_zero]; rfl) (fun K hK => ?_)
                  rw [if_pos (by rfl)]
                  go_simp
                  refine (HPU.out _ _ _ (HN.out.below hHeld) (HWT.out.below hHeld)).mono ?_
                  rintro _ u5 ⟨A1, c1, A2, c2, A3, c3, rfl, r1, r2, r3, o1, o2, o3, hb⟩
                  have HS : (fun V => Below wr.heap.size wr V) _ := hHeld.trans (hb.mono hHeld.size)
                  have N1 := Lib.hid (o1 gq (Nat.lt_of_lt_of_le hgq hHeld.size))
                  have N2 := Lib.hid (o2 gq (Nat.lt_of_lt_of_le hgq hHeld.size))
                  have N3 := Lib.hid (o3 gq (Nat.lt_of_lt_of_le hgq hHeld.size))
                  have M1 := Lib.hid (o1 w.heap.size (Nat.lt_of_lt_of_le hgm hHeld.size))
                  have M2 := Lib.hid (o2 w.heap.size (Nat.lt_of_lt_of_le hgm hHeld.size))
                  have R1 := Lib.hid r1
                  have R2 := Lib.hid r2
                  have R3 := Lib.hid r3
                  have G1 := Lib.hid (o1 ga HX.out.lt)
                  have G2 := Lib.hid (o2 ga HX.out.lt)
                  have G3 := Lib.hid (o3 ga HX.out.lt)
                  replace HX := Lib.hid (HX.out.later hb)
                  clear hHeld r1 r2 r3 o1 o2 o3 hb
                  go_wp2_with fail
                  refine hK.out _ _ HS (fun hHeld => ?_)
                  clear hK K HS
                  try simp only [Act.put, List.setIfInBounds_toArray, List.set_cons_zero, List.set_cons_succ]
                  refine wpAnyW_take (i := 6) (v := ?_) (by simp only [List.getElem?_toArray, List.getElem?_cons_succ, List.getElem?_cons_zero]; rfl) (by kernel_rfl) (by kernel_rfl) (by kernel_rfl) (by kernel_rfl) (by kernel_rfl) (fun _ _ _ h => h) (Or.inl ⟨by rfl, ?_⟩) (by assumption) ?_
                  rotate_left 1
                  · (intro w' hSw; go_simp; try with_reducible rfl)
                  try simp only [Act.put, List.setIfInBounds_toArray, List.set_cons_zero, List.set_cons_succ]
                  refine wpAnyW_take (i := 7) (v := ?_) (by simp only [List.getElem?_toArray, List.getElem?_cons_succ, List.getElem?_cons_zero]; rfl) (by kernel_rfl) (by kernel_rfl) (by kernel_rfl) (by kernel_rfl) (by kernel_rfl) (fun _ _ _ h => h) (Or.inl ⟨by rfl, ?_⟩) (by assumption) ?_
                  rotate_left 1
                  · (intro w' hSw; go_simp; try with_reducible rfl)
                  try simp only [Act.put, List.setIfInBounds_toArray, List.set_cons_zero, List.set_cons_succ]
                  refine wpAnyW_take (i := 8) (v := ?_) (by simp only [List.getElem?_toArray, List.getElem?_cons_succ, List.getElem?_cons_zero]; rfl) (by kernel_rfl) (by kernel_rfl) (by kernel_rfl) (by kernel_rfl) (by kernel_rfl) (fun _ _ _ h => h) (Or.inl ⟨by rfl, ?_⟩) (by assumption) ?_
                  rotate_left 1
                  · (intro w' hSw; go_simp; try with_reducible rfl)
                  try simp only [Act.put, List.setIfInBounds_toArray, List.set_cons_zero, List.set_cons_succ]
                  refine wpAnyW_take (i := 9) (v := ?_) (by simp only [List.getElem?_toArray, List.getElem?_cons_succ, List.getElem?_cons_zero]; rfl) (by kernel_rfl) (by kernel_rfl) (by kernel_rfl) (by kernel_rfl) (by kernel_rfl) (fun _ _ _ h => h) (Or.inl ⟨by rfl, ?_⟩) (by assumption) ?_
                  rotate_left 1
                  · (intro w' hSw; go_simp; try with_reducible rfl)
                  try simp only [Act.put, List.setIfInBounds_toArray, List.set_cons_zero, List.set_cons_succ]
                  refine wpAnyW_held (i := 11) (by kernel_rfl) (by simp only [List.getElem?_toArray, List.getElem?_cons_succ, List.getElem?_cons_zero]; rfl) (fun K hK => ?_)
                  rw [if_pos (by rfl)]
                  refine wpB (ty := 27) #[.slice A1 nn.length c1, .slice A2 ww.length c2] rfl rfl rfl HX.out infoQ rfl (cellsQ_one _ _ _ _ _ _) ?_
                  intro y9 ht hg
                  have HS : (fun V => Below wr.heap.size wr V) _ := below_of_grown1 hHeld hg hHeld.size hga
                  replace R1 := Lib.hid (R1.out.kept G1.out hg)
                  replace R2 := Lib.hid (R2.out.kept G2.out hg)
                  replace R3 := Lib.hid (R3.out.kept G3.out hg)
                  replace HX := Lib.hid ht
                  clear ht hg hHeld
                  refine hK.out _ _ HS (fun hHeld => ?_)
                  clear hK K HS
                  try simp only [Act.put, List.setIfInBounds_toArray, List.set_cons_zero, List.set_cons_succ]
                  refine wpAnyW_held (i := 12) (by kernel_rfl) (by simp only [List.getElem?_toArray, List.getElem?_cons_succ, List.getElem?_cons_zero]; rfl) (fun K hK => ?_)
                  rw [if_pos (by rfl)]
                  go_simp
                  refine hK.out _ _ hHeld (fun hHeld => ?_)
                  clear hK K
                  try simp only [Act.put, List.setIfInBounds_toArray, List.set_cons_zero, List.set_cons_succ]
                  refine wpAnyW_freed (i := 13) (by kernel_rfl) (by kernel_rfl) (by simp only [List.getElem?_toArray, List.getElem?_cons_succ, List.getElem?_cons_zero]; rfl) (fun K hK => ?_)
                  rw [if_pos (by rfl)]
                  go_simp
                  have HE := Lib.hid hHeld
                  refine hK.out _ _ ?_
                  clear hK K hHeld
                  try simp only [Act.put, List.setIfInBounds_toArray, List.set_cons_zero, List.set_cons_succ]
                  refine wpAnyW_done (by kernel_rfl) ?_ _
                  refine NoPanic.normal ?_
                  go_wp2_with fail
                  go_meet
                  exact ⟨ga, A1, c1, A2, c2, A3, c3, rfl, rfl, rfl, Lib.hid ⟨HX.out, R1.out, R2.out, R3.out, N1.out, N2.out, N3.out, HE.out, M1.out, M2.out⟩⟩
              case rest =>
                obtain ⟨ga, A1, c1, A2, c2, A3, c3, rfl, rfl, rfl, HH⟩ := hcut
                obtain ⟨hx, r1, r2, r3, n1, n2, n3, hbb, hm1, hm2⟩ := HH.out
                have HX := Lib.hid hx
                have R1 := Lib.hid r1
                have R2 := Lib.hid r2
                have N1 := Lib.hid n1
                have N2 := Lib.hid n2
                have HNM2 := Lib.hid (And.intro hm1 hm2)
                replace HQ := Lib.hid (HQ.out.later hbb)
                replace HN := Lib.hid (HN.out.below hbb)
                replace HWT := Lib.hid (HWT.out.below hbb)
                replace HM := Lib.hid (HM.out.later hbb)
                replace HB := Lib.hid (HB.out.trans (hbb.mono HB.out.size))
                have hwgq := HGW.out
                have hgqm : w.heap.size ≠ gq := HGM.out
                clear hx r1 r2 r3 n1 n2 n3 hbb HH HRG hgq hbw hm1 hm2 x5 hgm
                by_cases he : ee = 0
                · subst he
                  obtain ⟨hk1, hk2, hk3⟩ := HP0.out rfl
                  have HK := Lib.hid (show ww.length ≤ j + 1 ∧ nn.length = (newN n).length ∧ OkQ nn ww from ⟨by have := HIO.out.1; omega, by have := HIO.out.2.1; omega, hk1⟩)
                  clear hk1 hk2 hk3
                  go_wp2_with (first
                    | ((with_reducible refine gate9 ?_); refine ldB (ty := 27) (cs := #[.slice A1 nn.length c1, .slice A2 ww.length c2]) rfl rfl rfl HX.out Try.underlying27 rfl infoQ ?_)
                    | ((with_reducible refine gate9 ?_); refine stB (ty := 27) #[.slice A1 nn.length c1, .slice A2 ww.length c2] rfl rfl rfl rfl HQ.out infoQ rfl (cellsQ_one _ _ _ _ _ _) ?_; intro w9 ht hg; replace R1 := Lib.hid (R1.out.kept N1.out hg); replace R2 := Lib.hid (R2.out.kept N2.out hg); replace HM := Lib.hid (HM.out.kept hg hgqm); replace HB := Lib.hid (below_of_grown1 HB.out hg HB.out.size hwgq); replace HQ := Lib.hid ht; clear ht hg))
                  go_roundw
                  case rel => exact ⟨j + 1, nn, ww, by omega, rfl, by go_num, HK, Lib.hid ⟨A1, c1, A2, c2, HQ.out, R1.out, R2.out, HNM2.out.1, HNM2.out.2⟩, HM, HB⟩
                  case measure => simp [intOf]; omega
                · have qe : (ee == 0) = false := by simpa using he
                  clear he
                  go_wp2_with fail
                  go_roundw
                  case rel => exact ⟨j + 1, nx, wt, by omega, rfl, by go_num, Lib.hid ⟨by have := HIO.out.1; omega, HIO.out.2⟩, Lib.hid ⟨B1, d1, B2, d2, HQ.out, HN.out, HWT.out, HNM.out.1, HNM.out.2⟩, HM, HB⟩
                  case measure => simp [intOf]; omega
            · have z0 : ¬ (x.tx.size : Int) ≤ 300 := by omega
              go_wp2_with fail
              go_ret
              exact ⟨rfl, HB.out⟩
          · obtain rfl : j = l.length := by omega
            have c1 := HQ.out.cell 1 (.slice B2 wt.length d2) rfl
            have hgqm : w.heap.size ≠ gq := HGM.out
            have hio := HIO.out
            have hok := hio.2.2
            have hnl2 : nx.length ≤ 100000 := by have := HNL.out; omega
            have HPU := Lib.hid (fun V a b ha hb => put_any nx wt (freeM m) hnl2 (by omega) a b V ha hb hok)
            have HLN : Hid ((nx.length : Int) = n) := Lib.hid (by have := HNL.out; omega)
            obtain ⟨f1, f3⟩ := fit16 m.st
            by_cases hst : m.st.toNat < nx.length
            · obtain ⟨p1, p2, p3, p4⟩ := put_freeM nx wt m hst
              rw [p1, p2, p3, p4] at HPU
              have g1 : ¬ n ≤ (m.st.toNat : Int) := by have := HLN.out; omega
              have HMS : Hid ((freeM m).st = m.st) := Lib.hid rfl
              clear hio hok hnl2 p1 p2 p3 p4 hst
              go_wp2_with (first
      | ((with_reducible refine gate9 ?_); refine ldB (ty := 27) (cs := #[.slice B1 nx.length d1, .slice B2 wt.length d2]) rfl rfl rfl HQ.out Try.underlying27 rfl infoQ ?_)
      | ((with_reducible refine gate9 ?_); refine stF (ty := 4) (.bool true) rfl rfl rfl rfl HM.out (by show 1 < 6; decide) infoO rfl ?_; intro w6 ht hg; rw [free_set] at ht; replace HM := Lib.hid ht; replace HQ := Lib.hid (HQ.out.kept hg hgqm.symm); replace HN := Lib.hid (HN.out.kept HNM.out.1 hg); replace HWT := Lib.hid (HWT.out.kept HNM.out.2 hg); replace HB := Lib.hid (below_of_grown1 HB.out hg HB.out.size (Nat.le_refl _)); clear ht hg)
      | ((with_reducible refine gate9 ?_); refine ldB (ty := 40) (cs := cellsMg (freeM m)) rfl rfl rfl HM.out Try.underlying40 rfl infoM ?_)
      | (go_at_call 12; (with_reducible refine (HPU.out _ _ _ HN.out HWT.out).mono ?_); rintro e w5 ⟨A1, c1', A2, c2', A3, c3', rfl, r1, r2, r3, o1, o2, o3, hb⟩; obtain ⟨b0, o0, c0', e0, hb0', -, -, hrg0⟩ := r3.at (j := 0) Nat.zero_lt_one; cases e0; have HR3 := Lib.hid (show _ from hrg0); have hb0a := hb0'; clear hrg0; replace HQ := Lib.hid (HQ.out.later hb); replace HM := Lib.hid (HM.out.later hb); replace HB := Lib.hid (HB.out.trans (hb.mono HB.out.size)); clear r1 r2 r3 o1 o2 o3 hb; obtain ⟨W6, hW6, HZ6, HC6, hs6⟩ := one_open w5 27 #[.slice none 0 0, .slice none 0 0]; obtain ⟨g6, hg6⟩ : ∃ g, w5.heap.size = g := ⟨_, rfl⟩; rw [hg6] at HZ6; clear hs6)
      | ((with_reducible refine gate9 ?_); refine stB (ty := 27) #[.slice A1 nx.length c1', .slice A2 wt.length c2'] rfl rfl rfl rfl HZ6.out infoQ rfl (cellsQ_one _ _ _ _ _ _) ?_; intro v7 ht hg; have hb := below_of_grown1 HC6.out hg HC6.out.size (Nat.le_of_eq hg6); have HX := Lib.hid ht; replace HQ := Lib.hid (HQ.out.later hb); replace HM := Lib.hid (HM.out.later hb); replace HB := Lib.hid (HB.out.trans (hb.mono HB.out.size)); have dm2 := HM.out.cell 2 (.int .u16 (m.st.toNat : Int)) rfl; have k1 := HQ.out.cell 1 (.slice B2 wt.length d2) rfl; have HR0 := Lib.hid (range_below HR3.out hb0a hb); have hb0 := Nat.lt_of_lt_of_le hb0a hb.size; clear ht hg hb HZ6 HC6))
              generalize v7 = wz at *
              have qln : ((nx.length : Int) == n) = true := by rw [HLN.out]; simp
              have HS : (fun V => Below wz.heap.size wz V) wz.drew := below_drawn (Below.refl _ _)
              refine wp_region_noPanic ?_
              refine wp_region_waits (S := (fun V => Below wz.heap.size wz V)) [28] (by kernel_rfl) HS (fun hHeld => ?_)
              clear HS
              refine wpAnyW_take (i := 0) (v := ?_) (by simp only [List.getElem?_toArray, List.getElem?_cons_zero]; rfl) (by kernel_rfl) (by kernel_rfl) (by kernel_rfl) (by kernel_rfl) (by kernel_rfl) (fun _ _ _ h => h) (Or.inl ⟨by rfl, ?_⟩) (by assumption) ?_
              rotate_left 1
              · (intro w' hSw; go_simp; try with_reducible rfl)
              try simp only [Act.put, List.setIfInBounds_toArray, List.set_cons_zero, List.set_cons_succ]
              refine wpAnyW_take (i := 1) (v := ?_) (by simp only [List.getElem?_toArray, List.getElem?_cons_succ, List.getElem?_cons_zero]; rfl) (by kernel_rfl) (by kernel_rfl) (by kernel_rfl) (by kernel_rfl) (by kernel_rfl) (fun _ _ _ h => h) (Or.inl ⟨by rfl, ?_⟩) (by assumption) ?_
              rotate_left 1
              · (intro w' hSw; go_simp; try with_reducible rfl)
              try simp only [Act.put, List.setIfInBounds_toArray, List.set_cons_zero, List.set_cons_succ]
              refine wpAnyW_take (i := 2) (v := ?_) (by simp only [List.getElem?_toArray, List.getElem?_cons_succ, List.getElem?_cons_zero]; rfl) (by kernel_rfl) (by kernel_rfl) (by kernel_rfl) (by kernel_rfl) (by kernel_rfl) (fun _ _ _ h => h) (Or.inl ⟨by rfl, ?_⟩) (by assumption) ?_
              rotate_left 1
              · (intro w' hSw; go_simp; try with_reducible rfl)
              try simp only [Act.put, List.setIfInBounds_toArray, List.set_cons_zero, List.set_cons_succ]
              refine wpAnyW_take (i := 3) (v := ?_) (by simp only [List.getElem?_toArray, List.getElem?_cons_succ, List.getElem?_cons_zero]; rfl) (by kernel_rfl) (by kernel_rfl) (by kernel_rfl) (by kernel_rfl) (by kernel_rfl) (fun _ _ _ h => h) (Or.inl ⟨by rfl, ?_⟩) (by assumption) ?_
              rotate_left 1
              · (intro w' hSw; go_simp; try with_reducible rfl)
              try simp only [Act.put, List.setIfInBounds_toArray, List.set_cons_zero, List.set_cons_succ]
              refine wpAnyW_take (i := 4) (v := ?_) (by simp only [List.getElem?_toArray, List.getElem?_cons_succ, List.getElem?_cons_zero]; rfl) (by kernel_rfl) (by kernel_rfl) (by kernel_rfl) (by kernel_rfl) (by kernel_rfl) (fun _ _ _ h => h) (Or.inl ⟨by rfl, ?_⟩) (by assumption) ?_
              rotate_left 1
              · (intro w' hSw; go_simp; try with_reducible rfl)
              try simp only [Act.put, List.setIfInBounds_toArray, List.set_cons_zero, List.set_cons_succ]
              refine wpAnyW_take (i := 5) (v := ?_) (by simp only [List.getElem?_toArray, List.getElem?_cons_succ, List.getElem?_cons_zero]; rfl) (by kernel_rfl) (by kernel_rfl) (by kernel_rfl) (by kernel_rfl) (by kernel_rfl) (fun _ _ _ h => h) (Or.inl ⟨by rfl, ?_⟩) (by assumption) ?_
              rotate_left 1
              · (intro w' hSw; go_simp; try with_reducible rfl)
              try simp only [Act.put, List.setIfInBounds_toArray, List.set_cons_zero, List.set_cons_succ]
              refine wpAnyW_take (i := 6) (v := ?_) (by simp only [List.getElem?_toArray, List.getElem?_cons_succ, List.getElem?_cons_zero]; rfl) (by kernel_rfl) (by kernel_rfl) (by kernel_rfl) (by kernel_rfl) (by kernel_rfl) (fun _ _ _ h => h) (Or.inl ⟨by rfl, ?_⟩) (by assumption) ?_
              rotate_left 1
              · (intro w' hSw; go_simp; try with_reducible rfl)
              try simp only [Act.put, List.setIfInBounds_toArray, List.set_cons_zero, List.set_cons_succ]
              refine wpAnyW_take (i := 7) (v := ?_) (by simp only [List.getElem?_toArray, List.getElem?_cons_succ, List.getElem?_cons_zero]; rfl) (by kernel_rfl) (by kernel_rfl) (by kernel_rfl) (by kernel_rfl) (by kernel_rfl) (fun _ _ _ h => h) (Or.inl ⟨by rfl, ?_⟩) (by assumption) ?_
              rotate_left 1
              · (intro w' hSw; go_simp; try with_reducible rfl)
              try simp only [Act.put, List.setIfInBounds_toArray, List.set_cons_zero, List.set_cons_succ]
              refine wpAnyW_take (i := 8) (v := ?_) (by simp only [List.getElem?_toArray, List.getElem?_cons_succ, List.getElem?_cons_zero]; rfl) (by kernel_rfl) (by kernel_rfl) (by kernel_rfl) (by kernel_rfl) (by kernel_rfl) (fun _ _ _ h => h) (Or.inl ⟨by rfl, ?_⟩) (by assumption) ?_
              rotate_left 1
              · (intro w' hSw; go_simp; try with_reducible rfl)
              try simp only [Act.put, List.setIfInBounds_toArray, List.set_cons_zero, List.set_cons_succ]
              refine wpAnyW_take (i := 9) (v := ?_) (by simp only [List.getElem?_toArray, List.getElem?_cons_succ, List.getElem?_cons_zero]; rfl) (by kernel_rfl) (by kernel_rfl) (by kernel_rfl) (by kernel_rfl) (by kernel_rfl) (fun _ _ _ h => h) (Or.inl ⟨by rfl, ?_⟩) (by assumption) ?_
              rotate_left 1
              · (intro w' hSw; go_simp; try with_reducible rfl)
              try simp only [Act.put, List.setIfInBounds_toArray, List.set_cons_zero, List.set_cons_succ]
              refine wpAnyW_take (i := 10) (v := _) (by simp only [List.getElem?_toArray, List.getElem?_cons_succ, List.getElem?_cons_zero]; rfl) (by kernel_rfl) (by kernel_rfl) (by kernel_rfl) (by kernel_rfl) (by kernel_rfl) (fun _ _ _ h => h) (yMg (ty := 40) (by rfl) rfl rfl (fun V h => range_below HR0.out hb0 h) Try.underlying40 rfl infoM) (by assumption) ?_
              try simp only [Act.put, List.setIfInBounds_toArray, List.set_cons_zero, List.set_cons_succ]
              refine wpAnyW_take (i := 11) (v := _) (by simp only [List.getElem?_toArray, List.getElem?_cons_succ, List.getElem?_cons_zero]; rfl) (by kernel_rfl) (by kernel_rfl) (by kernel_rfl) (by kernel_rfl) (by kernel_rfl) (fun _ _ _ h => h) (yB (ty := 40) (by rfl) rfl rfl (fun V h => HM.out.later h) Try.underlying40 rfl infoM) (by assumption) ?_
              try simp only [Act.put, List.setIfInBounds_toArray, List.set_cons_zero, List.set_cons_succ]
              refine wpAnyW_take (i := 12) (v := .bool true) (by simp only [List.getElem?_toArray, List.getElem?_cons_succ, List.getElem?_cons_zero]; rfl) (by kernel_rfl) (by kernel_rfl) (by kernel_rfl) (by kernel_rfl) (by kernel_rfl) (fun _ _ _ h => h) (Or.inl ⟨by rfl, ?_⟩) (by assumption) ?_
              · (intro w' hSw; exact run_bin_at (u := .agg (cellsMg (freeM m))) (v := .agg (cellsMg (freeM m))) rfl rfl rfl (guard_m _ _ _ _ _ _) (eql_m (freeM m) w'))
              try simp only [Act.put, List.setIfInBounds_toArray, List.set_cons_zero, List.set_cons_succ]
              refine wpAnyW_take (i := 13) (v := ?_) (by simp only [List.getElem?_toArray, List.getElem?_cons_succ, List.getElem?_cons_zero]; rfl) (by kernel_rfl) (by kernel_rfl) (by kernel_rfl) (by kernel_rfl) (by kernel_rfl) (fun _ _ _ h => h) (Or.inl ⟨by rfl, ?_⟩) (by assumption) ?_
              rotate_left 1
              · (intro w' hSw; go_simp; try with_reducible rfl)
              try simp only [Act.put, List.setIfInBounds_toArray, List.set_cons_zero, List.set_cons_succ]
              refine wpAnyW_take (i := 14) (v := ?_) (by simp only [List.getElem?_toArray, List.getElem?_cons_succ, List.getElem?_cons_zero]; rfl) (by kernel_rfl) (by kernel_rfl) (by kernel_rfl) (by kernel_rfl) (by kernel_rfl) (fun _ _ _ h => h) (Or.inl ⟨by rfl, ?_⟩) (by assumption) ?_
              rotate_left 1
              · (intro w' hSw; go_simp; try with_reducible rfl)
              try simp only [Act.put, List.setIfInBounds_toArray, List.set_cons_zero, List.set_cons_succ]
              refine wpAnyW_take (i := 15) (v := ?_) (by simp only [List.getElem?_toArray, List.getElem?_cons_succ, List.getElem?_cons_zero]; rfl) (by kernel_rfl) (by kernel_rfl) (by kernel_rfl) (by kernel_rfl) (by kernel_rfl) (fun _ _ _ h => h) (Or.inl ⟨by rfl, ?_⟩) (by assumption) ?_
              rotate_left 1
              · (intro w' hSw; go_simp; try with_reducible rfl)
              try simp only [Act.put, List.setIfInBounds_toArray, List.set_cons_zero, List.set_cons_succ]
              refine wpAnyW_take (i := 16) (v := ?_) (by simp only [List.getElem?_toArray, List.getElem?_cons_succ, List.getElem?_cons_zero]; rfl) (by kernel_rfl) (by kernel_rfl) (by kernel_rfl) (by kernel_rfl) (by kernel_rfl) (fun _ _ _ h => h) (Or.inl ⟨by rfl, ?_⟩) (by assumption) ?_
              rotate_left 1
              · (intro w' hSw; have hq := (HX.out.later hSw).cell 1 (.slice A2 wt.length c2') rfl; go_simp; try with_reducible rfl)
              try simp only [Act.put, List.setIfInBounds_toArray, List.set_cons_zero, List.set_cons_succ]
              refine wpAnyW_take (i := 17) (v := ?_) (by simp only [List.getElem?_toArray, List.getElem?_cons_succ, List.getElem?_cons_zero]; rfl) (by kernel_rfl) (by kernel_rfl) (by kernel_rfl) (by kernel_rfl) (by kernel_rfl) (fun _ _ _ h => h) (Or.inl ⟨by rfl, ?_⟩) (by assumption) ?_
              rotate_left 1
              · (intro w' hSw; go_simp; try with_reducible rfl)
              try simp only [Act.put, List.setIfInBounds_toArray, List.set_cons_zero, List.set_cons_succ]
              refine wpAnyW_take (i := 18) (v := ?_) (by simp only [List.getElem?_toArray, List.getElem?_cons_succ, List.getElem?_cons_zero]; rfl) (by kernel_rfl) (by kernel_rfl) (by kernel_rfl) (by kernel_rfl) (by kernel_rfl) (fun _ _ _ h => h) (Or.inl ⟨by rfl, ?_⟩) (by assumption) ?_
              rotate_left 1
              · (intro w' hSw; go_simp; try with_reducible rfl)
              try simp only [Act.put, List.setIfInBounds_toArray, List.set_cons_zero, List.set_cons_succ]
              refine wpAnyW_take (i := 19) (v := ?_) (by simp only [List.getElem?_toArray, List.getElem?_cons_succ, List.getElem?_cons_zero]; rfl) (by kernel_rfl) (by kernel_rfl) (by kernel_rfl) (by kernel_rfl) (by kernel_rfl) (fun _ _ _ h => h) (Or.inl ⟨by rfl, ?_⟩) (by assumption) ?_
              rotate_left 1
              · (intro w' hSw; go_simp; try with_reducible rfl)
              try simp only [Act.put, List.setIfInBounds_toArray, List.set_cons_zero, List.set_cons_succ]
              refine wpAnyW_take (i := 20) (v := ?_) (by simp only [List.getElem?_toArray, List.getElem?_cons_succ, List.getElem?_cons_zero]; rfl) (by kernel_rfl) (by kernel_rfl) (by kernel_rfl) (by kernel_rfl) (by kernel_rfl) (fun _ _ _ h => h) (Or.inl ⟨by rfl, ?_⟩) (by assumption) ?_
              rotate_left 1
              · (intro w' hSw; go_simp; try with_reducible rfl)
              try simp only [Act.put, List.setIfInBounds_toArray, List.set_cons_zero, List.set_cons_succ]
              refine wpAnyW_take (i := 21) (v := ?_) (by simp only [List.getElem?_toArray, List.getElem?_cons_succ, List.getElem?_cons_zero]; rfl) (by kernel_rfl) (by kernel_rfl) (by kernel_rfl) (by kernel_rfl) (by kernel_rfl) (fun _ _ _ h => h) (Or.inl ⟨by rfl, ?_⟩) (by assumption) ?_
              rotate_left 1
              · (intro w' hSw; go_simp; try with_reducible rfl)
              try simp only [Act.put, List.setIfInBounds_toArray, List.set_cons_zero, List.set_cons_succ]
              refine wpAnyW_take (i := 22) (v := ?_) (by simp only [List.getElem?_toArray, List.getElem?_cons_succ, List.getElem?_cons_zero]; rfl) (by kernel_rfl) (by kernel_rfl) (by kernel_rfl) (by kernel_rfl) (by kernel_rfl) (fun _ _ _ h => h) (Or.inl ⟨by rfl, ?_⟩) (by assumption) ?_
              rotate_left 1
              · (intro w' hSw; go_simp; try with_reducible rfl)
              try simp only [Act.put, List.setIfInBounds_toArray, List.set_cons_zero, List.set_cons_succ]
              refine wpAnyW_take (i := 23) (v := ?_) (by simp only [List.getElem?_toArray, List.getElem?_cons_succ, List.getElem?_cons_zero]; rfl) (by kernel_rfl) (by kernel_rfl) (by kernel_rfl) (by kernel_rfl) (by kernel_rfl) (fun _ _ _ h => h) (Or.inl ⟨by rfl, ?_⟩) (by assumption) ?_
              rotate_left 1
              · (intro w' hSw; have hq := (HX.out.later hSw).cell 0 (.slice A1 nx.length c1') rfl; go_simp; try with_reducible rfl)
              try simp only [Act.put, List.setIfInBounds_toArray, List.set_cons_zero, List.set_cons_succ]
              refine wpAnyW_take (i := 24) (v := ?_) (by simp only [List.getElem?_toArray, List.getElem?_cons_succ, List.getElem?_cons_zero]; rfl) (by kernel_rfl) (by kernel_rfl) (by kernel_rfl) (by kernel_rfl) (by kernel_rfl) (fun _ _ _ h => h) (Or.inl ⟨by rfl, ?_⟩) (by assumption) ?_
              rotate_left 1
              · (intro w' hSw; go_simp; try with_reducible rfl)
              try simp only [Act.put, List.setIfInBounds_toArray, List.set_cons_zero, List.set_cons_succ]
              refine wpAnyW_take (i := 25) (v := ?_) (by simp only [List.getElem?_toArray, List.getElem?_cons_succ, List.getElem?_cons_zero]; rfl) (by kernel_rfl) (by kernel_rfl) (by kernel_rfl) (by kernel_rfl) (by kernel_rfl) (fun _ _ _ h => h) (Or.inl ⟨by rfl, ?_⟩) (by assumption) ?_
              rotate_left 1
              · (intro w' hSw; go_simp; try with_reducible rfl)
              try simp only [Act.put, List.setIfInBounds_toArray, List.set_cons_zero, List.set_cons_succ]
              refine wpAnyW_take (i := 26) (v := ?_) (by simp only [List.getElem?_toArray, List.getElem?_cons_succ, List.getElem?_cons_zero]; rfl) (by kernel_rfl) (by kernel_rfl) (by kernel_rfl) (by kernel_rfl) (by kernel_rfl) (fun _ _ _ h => h) (Or.inl ⟨by rfl, ?_⟩) (by assumption) ?_
              rotate_left 1
              · (intro w' hSw; go_simp; try with_reducible rfl)
              try simp only [Act.put, List.setIfInBounds_toArray, List.set_cons_zero, List.set_cons_succ]
              refine wpAnyW_take (i := 27) (v := ?_) (by simp only [List.getElem?_toArray, List.getElem?_cons_succ, List.getElem?_cons_zero]; rfl) (by kernel_rfl) (by kernel_rfl) (by kernel_rfl) (by kernel_rfl) (by kernel_rfl) (fun _ _ _ h => h) (Or.inl ⟨by rfl, ?_⟩) (by assumption) ?_
              rotate_left 1
              · (intro w' hSw; go_simp; try with_reducible rfl)
              try simp only [Act.put, List.setIfInBounds_toArray, List.set_cons_zero, List.set_cons_succ]
              refine wpAnyW_freed (i := 28) (by kernel_rfl) (by kernel_rfl) (by simp only [List.getElem?_toArray, List.getElem?_cons_succ, List.getElem?_cons_zero]; rfl) (fun K hK => ?_)
              rw [if_pos (by rfl)]
              go_simp
              replace HB := Lib.hid (HB.out.trans (hHeld.mono HB.out.size))
              refine hK.out _ _ ?_
              clear hK K hHeld
              try simp only [Act.put, List.setIfInBounds_toArray, List.set_cons_zero, List.set_cons_succ]
              refine wpAnyW_done (by kernel_rfl) ?_ _
              refine NoPanic.normal ?_
              go_wp2_with fail
              go_ret
              exact ⟨rfl, HB.out⟩
            · obtain ⟨p1, p2, p3, p4⟩ := put_noneM nx wt m (by omega)
              rw [p1, p2, p3, p4] at HPU
              have g1 : n ≤ (m.st.toNat : Int) := by have := HLN.out; omega
              clear hio hok hnl2 p1 p2 p3 p4 hst
              go_wp2_with (first
      | ((with_reducible refine gate9 ?_); refine ldB (ty := 27) (cs := #[.slice B1 nx.length d1, .slice B2 wt.length d2]) rfl rfl rfl HQ.out Try.underlying27 rfl infoQ ?_)
      | ((with_reducible refine gate9 ?_); refine stF (ty := 4) (.bool true) rfl rfl rfl rfl HM.out (by show 1 < 6; decide) infoO rfl ?_; intro w6 ht hg; rw [free_set] at ht; replace HM := Lib.hid ht; replace HQ := Lib.hid (HQ.out.kept hg hgqm.symm); replace HN := Lib.hid (HN.out.kept HNM.out.1 hg); replace HWT := Lib.hid (HWT.out.kept HNM.out.2 hg); replace HB := Lib.hid (below_of_grown1 HB.out hg HB.out.size (Nat.le_refl _)); clear ht hg)
      | ((with_reducible refine gate9 ?_); refine ldB (ty := 40) (cs := cellsMg (freeM m)) rfl rfl rfl HM.out Try.underlying40 rfl infoM ?_)
      | (go_at_call 12; (with_reducible refine (HPU.out _ _ _ HN.out HWT.out).mono ?_); rintro e w5 ⟨A1, c1', A2, c2', A3, c3', rfl, r1, r2, r3, o1, o2, o3, hb⟩; replace HQ := Lib.hid (HQ.out.later hb); replace HM := Lib.hid (HM.out.later hb); replace HB := Lib.hid (HB.out.trans (hb.mono HB.out.size)); clear r1 r2 r3 o1 o2 o3 hb; obtain ⟨W6, hW6, HZ6, HC6, hs6⟩ := one_open w5 27 #[.slice none 0 0, .slice none 0 0]; obtain ⟨g6, hg6⟩ : ∃ g, w5.heap.size = g := ⟨_, rfl⟩; rw [hg6] at HZ6; clear hs6)
      | ((with_reducible refine gate9 ?_); refine stB (ty := 27) #[.slice A1 0 c1', .slice A2 0 c2'] rfl rfl rfl rfl HZ6.out infoQ rfl (cellsQ_one _ _ _ _ _ _) ?_; intro v7 ht hg; have hb := below_of_grown1 HC6.out hg HC6.out.size (Nat.le_of_eq hg6); have HX := Lib.hid ht; replace HQ := Lib.hid (HQ.out.later hb); replace HM := Lib.hid (HM.out.later hb); replace HB := Lib.hid (HB.out.trans (hb.mono HB.out.size)); have dm2 := HM.out.cell 2 (.int .u16 (m.st.toNat : Int)) rfl; have k1 := HQ.out.cell 1 (.slice B2 wt.length d2) rfl; clear ht hg hb HZ6 HC6))
              go_ret
              exact ⟨rfl, HB.out⟩
    · have qz : ¬ (m.tx.size : Int) ≤ 300 := by omega
      go_enter Try.func5, Try.ntmps5
      go_wp2_with (first
      | (go_at_call 8; (with_reducible refine (HSH.out _).mono ?_); rintro e w1 ⟨rfl, hb⟩; replace HB := Lib.hid (HB.out.trans (hb.mono HB.out.size)); replace HM := Lib.hid (HM.out.later hb); have d5 := HM.out.cell 5 (.string m.tx) rfl; clear hb))
      go_ret
      exact ⟨rfl, HB.out⟩
  · have q40 : ¬ (l.length : Int) ≤ 40 := by omega
    go_enter Try.func5, Try.ntmps5
    go_wp2_with (first
      | (go_at_call 8; (with_reducible refine (HSH.out _).mono ?_); rintro e w1 ⟨rfl, hb⟩; replace HB := Lib.hid (HB.out.trans (hb.mono HB.out.size)); replace HM := Lib.hid (HM.out.later hb); have d5 := HM.out.cell 5 (.string m.tx) rfl; clear hb))
    go_ret
    exact ⟨rfl, HB.out⟩

set_option maxRecDepth 100000 in
theorem lifted (os : Os) (started : os.Started) (H : Type) (enc : TypeId × Value → H) :
    ReturnsInHanded {} Try.checked os 5 .any (Rows.orderFreeSpec.pre6 enc Try.prog Try.f5 Rows.orderFreeRow.domain false) (Rows.orderFreeSpec.post enc Try.prog Try.f5 false true false false) := by
  refine returnsInHanded_of_change_sized (C := Try.checked) own started (by kernel_rfl) Try.func5
    (ChangeSpec.witness6 (enc := enc) (C := Try.checked) false ⟨#[], #[.int .i64 0, .slice none 0 0, .agg #[.int .u32 0, .bool false, .int .u16 0, .int .u16 0, .int .u32 0, .string ⟨#[]⟩]], []⟩ 8 (by kernel_rfl) (by kernel_rfl) (by kernel_rfl) (by kernel_rfl)) ?_
  intro W base args ds gs before hval0 hW _ hreach _
  have hval : ∀ (j : Nat) t v, Try.f5.params[j]? = some t → args[j]? = some v → Value.okWide Try.prog W .any base t v := hval0
  obtain ⟨p, q, hA0, _, _, _, _⟩ := id hW
  have hA : DataW.TrodAll enc Try.prog W 0 (fun _ => true) true Try.f5.params.toList args.toList ds p := hA0
  rw [Try.params5] at hA hval
  obtain ⟨v0, vs0, d0, ds0, p0, q0, hargs, rfl, rfl, h0, r0⟩ := trodAll_cons hA
  obtain ⟨v1, vs1, d1, ds1, p1, q1, rfl, rfl, rfl, h1, r1⟩ := trodAll_cons r0
  obtain ⟨v2, vs2, d2, ds2, p2, q2, rfl, rfl, rfl, h2, r2⟩ := trodAll_cons r1
  obtain ⟨rfl, rfl, rfl⟩ := trodAll_nil r2
  obtain rfl : args = #[v0, v1, v2] := by cases args; simp_all
  obtain ⟨a0, rfl, rfl, rfl, w0⟩ := open_int Try.underlying3 (hval 0 3 v0 rfl rfl) h0
  obtain ⟨l1, w1, m1⟩ := msgs_in (hval 1 25 v1 rfl rfl) h1
  obtain ⟨s2, rfl, m2⟩ := msg_in (hval 2 40 v2 rfl rfl) h2
  refine (walk a0 l1 s2 v1 W w1).mono fun e W' ⟨he, hg⟩ => ?_
  subst he
  exact ⟨_, rfl, law_post laidOut Try.underlying4 (by kernel_rfl) (by kernel_rfl) rfl hW (by simp [Rows.orderFreeSpec]) hg⟩

theorem proved : Rows.OrderFreeSaid :=
  OpenClaim.holds_of_wide 5 Try.f5 rfl rfl rfl rfl rfl rfl rfl ⟨rfl, rfl, rfl, rfl, rfl⟩ rfl rfl rfl rfl rfl (by kernel_rfl) Try.func5 (by kernel_rfl)
    (of_decide_eq_true (by kernel_rfl)) (by unfold Func.isWrapper; first | (rw [if_pos (by decide +kernel)]; kernel_rfl) | (rw [if_neg (by decide +kernel)]; exact ⟨rfl, rfl⟩))
    (fun os started H enc _ => lifted os started H enc)
#print axioms proved
end Go.Proofs.Ytondgdacjbfihaa.orderFree
