/-
  Bytes that came wait, or were told, or were refused: any messages.
-/
import Derived.Test.YtondgdacjbfihaaLift
import Derived.Test.YtondgdacjbfihaaArgs
import Derived.Test.YtondgdacjbfihaaPa
import Derived.Deep.CutBlock
import Derived.Deep.CutRange
import Derived.Deep.Cut
namespace Go.Proofs.Ytondgdacjbfihaa.orderBytes
open Go.ChangeShapes Go.WideShapes Go.ChangeAt Go.RowKit
set_option linter.unusedVariables false
set_option linter.unusedSimpArgs false
set_option maxRecDepth 100000

set_option maxHeartbeats 4000000 in
theorem walk (l : List Mg) (v : Value) (w : World) (h : RowM w v l) : Calls Try.prog 7 #[v] w fun e w' => e = .returned (.bool true) ∧ Below w.heap.size w w' := by
  have HSH := Lib.hid shown_any
  have HNW : Hid (∀ V : World, Calls Try.prog 9 #[.int .i64 3] V fun e w' => ∃ A c, e = .returned (.tuple #[.agg #[.slice A 3 c, .slice none 0 0], .int .i64 0]) ∧ w'.ownsRow V.heap.size 38 1 (.slice A 3 c) 3 (([0, 0, 0] : List UInt16).map enc16) ∧ Below V.heap.size V w') := Lib.hid (fun V => new_any 3 V)
  have HV := Lib.hid h
  have HB := Lib.hid (Below.refl w.heap.size w)
  obtain ⟨A, cap, rfl, _, hmx, _⟩ := id h
  have hmxI : (l.length : Int) ≤ 9223372036854775807 := by unfold maxLen at hmx; omega
  clear h
  by_cases h60 : l.length ≤ 60
  · have q60 : (l.length : Int) ≤ 60 := by omega
    go_enter Try.func7, Try.ntmps7
    go_wp2_with (first
      | (go_at_call 8; (with_reducible refine (HSH.out _).mono ?_); rintro e w1 ⟨rfl, hb⟩; replace HB := Lib.hid (HB.out.trans (hb.mono HB.out.size)); clear hb)
      | (go_at_call 9; (with_reducible refine (HNW.out _).mono ?_); rintro e w2 ⟨A0, k0, rfl, hown, hb⟩; have RN0 := Lib.hid (row_of_own hown); replace HB := Lib.hid (HB.out.trans (hb.mono HB.out.size)); clear hown hb; obtain ⟨W3, hW3, HZ3, HC3, hs3⟩ := one_open w2 27 #[.slice none 0 0, .slice none 0 0]; obtain ⟨gq, hgq0⟩ : ∃ g, w2.heap.size = g := ⟨_, rfl⟩; rw [hgq0] at HZ3; clear hs3)
      | ((with_reducible refine gate9 ?_); refine stB (ty := 27) #[.slice A0 3 k0, .slice none 0 0] rfl rfl rfl rfl HZ3.out infoQ rfl (cellsQ_one _ _ _ _ _ _) ?_; intro w3 ht hg; have hb := below_of_grown1 HC3.out hg HC3.out.size (Nat.le_of_eq hgq0); have HQ := Lib.hid ht; have HN := Lib.hid (RN0.out.below hb); have hgw : w.heap.size ≤ gq := (by have := HB.out.size; omega); replace HB := Lib.hid (HB.out.trans (hb.mono HB.out.size)); clear ht hg hb HZ3 HC3 RN0))
    clear hW3 hgq0
    have HGW := Lib.hid hgw
    go_loopw [6, 7, 8] (fun v6 v7 i wr => ∃ (j inn ou : Nat) (nx : List UInt16) (wt : List Mg), j ≤ l.length ∧ v6 = .int .i64 (inn : Int) ∧ v7 = .int .i64 (ou : Int) ∧ i = .int .i64 j ∧ Hid (inn = ou + bytesN wt ∧ inn ≤ 300 * j ∧ wt.length ≤ j ∧ nx.length = 3 ∧ OkQ nx wt) ∧ Hid (∃ A1 c1 A2 c2, Bx wr gq 27 #[.slice A1 nx.length c1, .slice A2 wt.length c2] ∧ RowE enc16 wr (.slice A1 nx.length c1) nx ∧ RowM wr (.slice A2 wt.length c2) wt) ∧ Hid (Below w.heap.size w wr))
      (fun _ _ i _ => l.length - (intOf i).toNat)
    case atStart => exact ⟨0, 0, 0, [0, 0, 0], [], Nat.zero_le _, rfl, rfl, rfl, Lib.hid ⟨rfl, Nat.le_refl _, Nat.le_refl _, rfl, OkQ.empty _⟩, Lib.hid ⟨A0, k0, none, 0, HQ.out, HN.out, RowM.nil _⟩, HB⟩
    case round =>
      clear HQ HN HB
      obtain ⟨j, inn, ou, nx, wt, hj, rfl, rfl, rfl, HIO, HQA, HB⟩ := hrel
      obtain ⟨B1, d1, B2, d2, hbx, hrn, hrw⟩ := HQA.out
      have HQ := Lib.hid hbx
      have HN := Lib.hid hrn
      have HWT := Lib.hid hrw
      have hgq := hbx.lt
      clear hbx hrn hrw HQA
      by_cases hlt : j < l.length
      · obtain ⟨b, off, cap', e9, hbw0, -, -, hrg⟩ := HV.out.at hlt
        cases e9
        have HRG := Lib.hid (range_below hrg hbw0 HB.out)
        have hbw : b < wr.heap.size := by have := HB.out.size; omega
        have q0 : (0 : Int) ≤ (j : Int) := by omega
        have q1 : (j : Int) < (l.length : Int) := by omega
        have HRX := Lib.hid hrg
        clear hrg
        generalize l[j] = x at *
        have x5 := HRG.out 5 (.string x.tx) rfl
        by_cases hz : x.tx.size ≤ 300
        · have z0 : (x.tx.size : Int) ≤ 300 := by omega
          have hwl := HIO.out.2.2.1
          have hok := HIO.out.2.2.2.2
          have hnl := HIO.out.2.2.2.1
          have HPU := Lib.hid (fun V a b ha hb => put_any nx wt x (by omega) (by omega) a b V ha hb hok)
          have HP0 := Lib.hid (put_ok hok (by omega) x)
          have HPB := Lib.hid (put_bytes (nx := nx) (wt := wt) (by omega) x)
          have HTL := Lib.hid (put_told_le hok (by omega) x)
          clear hok hnl hwl
          generalize putE nx wt x = ee at *
          generalize putN nx wt x = nn at *
          generalize putW nx wt x = ww at *
          generalize putT nx wt x = tt at *
          go_wp2_with fail
          go_cut [9, 10, 11] from 34 (fun v9 v10 v11 wx => ∃ (ga : Nat) (A1 : Option Addr) (c1 : Nat) (A2 : Option Addr) (c2 : Nat) (A3 : Option Addr) (c3 : Nat), v9 = .pointer (some ⟨ga, 0, none⟩) ∧ v10 = .slice A3 tt.length c3 ∧ v11 = .int .i64 ee ∧ Hid (Bx wx ga 27 #[.slice A1 nn.length c1, .slice A2 ww.length c2] ∧ RowE enc16 wx (.slice A1 nn.length c1) nn ∧ RowM wx (.slice A2 ww.length c2) ww ∧ RowM wx (.slice A3 tt.length c3) tt ∧ NotIn gq (.slice A1 nn.length c1) ∧ NotIn gq (.slice A2 ww.length c2) ∧ NotIn gq (.slice A3 tt.length c3) ∧ Below wr.heap.size wr wx))
          case first =>
            clear HIO HTL HPB HP0
            have HS : (fun V => Below wr.heap.size wr V) wr.drew := below_drawn (Below.refl _ _)
            refine wp_region_noPanic ?_
            refine wp_region_waits (S := (fun V => Below wr.heap.size wr V)) [13] (by kernel_rfl) HS (fun hHeld => ?_)
            clear HS
            refine wpAnyW_take (i := 0) (v := _) (by simp only [List.getElem?_toArray, List.getElem?_cons_zero]; rfl) (by kernel_rfl) (by kernel_rfl) (by kernel_rfl) (by kernel_rfl) (by kernel_rfl) (fun _ _ _ h => h) (yB (ty := 27) (by rfl) rfl rfl (fun V h => HQ.out.later h) Try.underlying27 rfl infoQ) (by assumption) ?_
            try simp only [Act.put, List.setIfInBounds_toArray, List.set_cons_zero, List.set_cons_succ]
            refine wpAnyW_take (i := 1) (v := ?_) (by simp only [List.getElem?_toArray, List.getElem?_cons_succ, List.getElem?_cons_zero]; rfl) (by kernel_rfl) (by kernel_rfl) (by kernel_rfl) (by kernel_rfl) (by kernel_rfl) (fun _ _ _ h => h) (Or.inl ⟨by rfl, ?_⟩) (by assumption) ?_
            rotate_left 1
            · (intro w' hSw; go_simp; try with_reducible rfl)
            try simp only [Act.put, List.setIfInBounds_toArray, List.set_cons_zero, List.set_cons_succ]
            refine wpAnyW_take (i := 2) (v := ?_) (by simp only [List.getElem?_toArray, List.getElem?_cons_succ, List.getElem?_cons_zero]; rfl) (by kernel_rfl) (by kernel_rfl) (by kernel_rfl) (by kernel_rfl) (by kernel_rfl) (fun _ _ _ h => h) (Or.inl ⟨by rfl, ?_⟩) (by assumption) ?_
            rotate_left 1
            · (intro w' hSw; go_simp; try with_reducible rfl)
            try simp only [Act.put, List.setIfInBounds_toArray, List.set_cons_zero, List.set_cons_succ]
            refine wpAnyW_take (i := 3) (v := ?_) (by simp only [List.getElem?_toArray, List.getElem?_cons_succ, List.getElem?_cons_zero]; rfl) (by kernel_rfl) (by kernel_rfl) (by kernel_rfl) (by kernel_rfl) (by kernel_rfl) (fun _ _ _ h => h) (Or.inl ⟨by rfl, ?_⟩) (by assumption) ?_
            rotate_left 1
            · (intro w' hSw; go_simp; try with_reducible rfl)
            try simp only [Act.put, List.setIfInBounds_toArray, List.set_cons_zero, List.set_cons_succ]
            refine wpAnyW_take (i := 4) (v := _) (by simp only [List.getElem?_toArray, List.getElem?_cons_succ, List.getElem?_cons_zero]; rfl) (by kernel_rfl) (by kernel_rfl) (by kernel_rfl) (by kernel_rfl) (by kernel_rfl) (fun _ _ _ h => h) (yMg (ty := 40) (by rfl) rfl rfl (fun V h => range_below HRG.out hbw h) Try.underlying40 rfl infoM) (by assumption) ?_
            try simp only [Act.put, List.setIfInBounds_toArray, List.set_cons_zero, List.set_cons_succ]
            refine wpAnyW_two (i := 5) (i2 := 10) (by kernel_rfl) (by simp only [List.getElem?_toArray, List.getElem?_cons_succ, List.getElem?_cons_zero]; rfl) (by simp only [List.getElem?_toArray, List.getElem?_cons_succ, List.getElem?_cons_zero]; rfl) (fun K hK => ?_) (fun K hK => ?_)
            · rw [if_pos (by rfl)]
              go_simp
              refine (HPU.out _ _ _ (HN.out.below hHeld) (HWT.out.below hHeld)).mono ?_
              rintro _ u5 ⟨A1, c1, A2, c2, A3, c3, rfl, r1, r2, r3, o1, o2, o3, hb⟩
              have HS : (fun V => Below wr.heap.size wr V) _ := hHeld.trans (hb.mono hHeld.size)
              have N1 := Lib.hid (o1 gq (Nat.lt_of_lt_of_le hgq hHeld.size))
              have N2 := Lib.hid (o2 gq (Nat.lt_of_lt_of_le hgq hHeld.size))
              have N3 := Lib.hid (o3 gq (Nat.lt_of_lt_of_le hgq hHeld.size))
              have R1 := Lib.hid r1
              have R2 := Lib.hid r2
              have R3 := Lib.hid r3
              clear hHeld r1 r2 r3 o1 o2 o3 hb
              go_wp2_with fail
              refine hK.out _ _ HS (fun hHeld => ?_)
              clear hK K HS
              try simp only [Act.put, List.setIfInBounds_toArray, List.set_cons_zero, List.set_cons_succ]
              refine wpAnyW_take (i := 6) (v := ?_) (by simp only [List.getElem?_toArray, List.getElem?_cons_succ, List.getElem?_cons_zero]; rfl) (by kernel_rfl) (by kernel_rfl) (by kernel_rfl) (by kernel_rfl) (by kernel_rfl) (fun _ _ _ h => h) (Or.inl ⟨by rfl, ?_⟩) (by assumption) ?_
              rotate_left 1
              · (intro w' hSw; go_simp; try with_reducible rfl)
              try simp only [Act.put, List.setIfInBounds_toArray, List.set_cons_zero, List.set_cons_succ]
              refine wpAnyW_take (i := 7) (v := ?_) (by simp only [List.getElem?_toArray, List.getElem?_cons_succ, List.getElem?_cons_zero]; rfl) (by kernel_rfl) (by kernel_rfl) (by kernel_rfl) (by kernel_rfl) (by kernel_rfl) (fun _ _ _ h => h) (Or.inl ⟨by rfl, ?_⟩) (by assumption) ?_
              rotate_left 1
              · (intro w' hSw; go_simp; try with_reducible rfl)
              try simp only [Act.put, List.setIfInBounds_toArray, List.set_cons_zero, List.set_cons_succ]
              refine wpAnyW_take (i := 8) (v := ?_) (by simp only [List.getElem?_toArray, List.getElem?_cons_succ, List.getElem?_cons_zero]; rfl) (by kernel_rfl) (by kernel_rfl) (by kernel_rfl) (by kernel_rfl) (by kernel_rfl) (fun _ _ _ h => h) (Or.inl ⟨by rfl, ?_⟩) (by assumption) ?_
              rotate_left 1
              · (intro w' hSw; go_simp; try with_reducible rfl)
              try simp only [Act.put, List.setIfInBounds_toArray, List.set_cons_zero, List.set_cons_succ]
              refine wpAnyW_take (i := 9) (v := ?_) (by simp only [List.getElem?_toArray, List.getElem?_cons_succ, List.getElem?_cons_zero]; rfl) (by kernel_rfl) (by kernel_rfl) (by kernel_rfl) (by kernel_rfl) (by kernel_rfl) (fun _ _ _ h => h) (Or.inl ⟨by rfl, ?_⟩) (by assumption) ?_
              rotate_left 1
              · (intro w' hSw; go_simp; try with_reducible rfl)
              try simp only [Act.put, List.setIfInBounds_toArray, List.set_cons_zero, List.set_cons_succ]
              refine wpAnyW_held (i := 10) (by kernel_rfl) (by simp only [List.getElem?_toArray, List.getElem?_cons_succ, List.getElem?_cons_zero]; rfl) (fun K hK => ?_)
              rw [if_pos (by rfl)]
              obtain ⟨v8, hv8, HX, HB8, hs8⟩ := one_open u5 27 #[.slice none 0 0, .slice none 0 0]
              obtain ⟨ga, hga0⟩ : ∃ g, u5.heap.size = g := ⟨_, rfl⟩
              rw [hga0] at HX
              have hga : wr.heap.size ≤ ga := by rw [← hga0]; exact hHeld.size
              have HS : (fun V => Below wr.heap.size wr V) _ := hHeld.trans (HB8.out.mono hHeld.size)
              clear hHeld hs8
              go_simp
              clear hv8
              refine hK.out _ _ HS (fun hHeld => ?_)
              clear hK K HS
              try simp only [Act.put, List.setIfInBounds_toArray, List.set_cons_zero, List.set_cons_succ]
              refine wpAnyW_held (i := 11) (by kernel_rfl) (by simp only [List.getElem?_toArray, List.getElem?_cons_succ, List.getElem?_cons_zero]; rfl) (fun K hK => ?_)
              rw [if_pos (by rfl)]
              refine wpB (ty := 27) #[.slice A1 nn.length c1, .slice A2 ww.length c2] rfl rfl rfl HX.out infoQ rfl (cellsQ_one _ _ _ _ _ _) ?_
              intro y9 ht hg
              have HS : (fun V => Below wr.heap.size wr V) _ := below_of_grown1 hHeld hg hHeld.size hga
              have hb9 := below_of_grown1 HB8.out hg HB8.out.size (Nat.le_of_eq hga0)
              replace R1 := Lib.hid (R1.out.below hb9)
              replace R2 := Lib.hid (R2.out.below hb9)
              replace R3 := Lib.hid (R3.out.below hb9)
              replace HX := Lib.hid ht
              clear ht hg hHeld
              refine hK.out _ _ HS (fun hHeld => ?_)
              clear hK K HS
              try simp only [Act.put, List.setIfInBounds_toArray, List.set_cons_zero, List.set_cons_succ]
              refine wpAnyW_held (i := 12) (by kernel_rfl) (by simp only [List.getElem?_toArray, List.getElem?_cons_succ, List.getElem?_cons_zero]; rfl) (fun K hK => ?_)
              rw [if_pos (by rfl)]
              go_simp
              refine hK.out _ _ hHeld (fun hHeld => ?_)
              clear hK K
              try simp only [Act.put, List.setIfInBounds_toArray, List.set_cons_zero, List.set_cons_succ]
              refine wpAnyW_freed (i := 13) (by kernel_rfl) (by kernel_rfl) (by simp only [List.getElem?_toArray, List.getElem?_cons_succ, List.getElem?_cons_zero]; rfl) (fun K hK => ?_)
              rw [if_pos (by rfl)]
              go_simp
              have HE := Lib.hid hHeld
              refine hK.out _ _ ?_
              clear hK K hHeld
              try simp only [Act.put, List.setIfInBounds_toArray, List.set_cons_zero, List.set_cons_succ]
              refine wpAnyW_done (by kernel_rfl) ?_ _
              refine NoPanic.normal ?_
              go_wp2_with fail
              go_meet
              exact ⟨ga, A1, c1, A2, c2, A3, c3, rfl, rfl, rfl, Lib.hid ⟨HX.out, R1.out, R2.out, R3.out, N1.out, N2.out, N3.out, HE.out⟩⟩
            · rw [if_pos (by rfl)]
              obtain ⟨v8, hv8, HX, HB8, hs8⟩ := one_open wr.drew 27 #[.slice none 0 0, .slice none 0 0]
              obtain ⟨ga, hga0⟩ : ∃ g, wr.drew.heap.size = g := ⟨_, rfl⟩
              rw [hga0] at HX
              have hga : wr.heap.size ≤ ga := by rw [← hga0]; exact hHeld.size
              have HS : (fun V => Below wr.heap.size wr V) _ := hHeld.trans (HB8.out.mono hHeld.size)
              clear hHeld hs8
              go_simp
              clear hv8
              refine hK.out _ _ HS (fun hHeld => ?_)
              clear hK K HS
              try simp only [Act.put, List.setIfInBounds_toArray, List.set_cons_zero, List.set_cons_succ]
              refine wpAnyW_held (i := 5) (by kernel_rfl) (by simp only [List.getElem?_toArray, List.getElem?_cons_succ, List.getElem?_cons_zero]; rfl) (fun K hK => ?_)
              rw [if_pos (by rfl)]
              go_simp
              refine (HPU.out _ _ _ (HN.out.below hHeld) (HWT.out.below hHeld)).mono ?_
              rintro _ u5 ⟨A1, c1, A2, c2, A3, c3, rfl, r1, r2, r3, o1, o2, o3, hb⟩
              have HS : (fun V => Below wr.heap.size wr V) _ := hHeld.trans (hb.mono hHeld.size)
              have N1 := Lib.hid (o1 gq (Nat.lt_of_lt_of_le hgq hHeld.size))
              have N2 := Lib.hid (o2 gq (Nat.lt_of_lt_of_le hgq hHeld.size))
              have N3 := Lib.hid (o3 gq (Nat.lt_of_lt_of_le hgq hHeld.size))
              have R1 := Lib.hid r1
              have R2 := Lib.hid r2
              have R3 := Lib.hid r3
              have G1 := Lib.hid (o1 ga HX.out.lt)
              have G2 := Lib.hid (o2 ga HX.out.lt)
              have G3 := Lib.hid (o3 ga HX.out.lt)
              replace HX := Lib.hid (HX.out.later hb)
              clear hHeld r1 r2 r3 o1 o2 o3 hb
              go_wp2_with fail
              refine hK.out _ _ HS (fun hHeld => ?_)
              clear hK K HS
              try simp only [Act.put, List.setIfInBounds_toArray, List.set_cons_zero, List.set_cons_succ]
              refine wpAnyW_take (i := 6) (v := ?_) (by simp only [List.getElem?_toArray, List.getElem?_cons_succ, List.getElem?_cons_zero]; rfl) (by kernel_rfl) (by kernel_rfl) (by kernel_rfl) (by kernel_rfl) (by kernel_rfl) (fun _ _ _ h => h) (Or.inl ⟨by rfl, ?_⟩) (by assumption) ?_
              rotate_left 1
              · (intro w' hSw; go_simp; try with_reducible rfl)
              try simp only [Act.put, List.setIfInBounds_toArray, List.set_cons_zero, List.set_cons_succ]
              refine wpAnyW_take (i := 7) (v := ?_) (by simp only [List.getElem?_toArray, List.getElem?_cons_succ, List.getElem?_cons_zero]; rfl) (by kernel_rfl) (by kernel_rfl) (by kernel_rfl) (by kernel_rfl) (by kernel_rfl) (fun _ _ _ h => h) (Or.inl ⟨by rfl, ?_⟩) (by assumption) ?_
              rotate_left 1
              · (intro w' hSw; go_simp; try with_reducible rfl)
              try simp only [Act.put, List.setIfInBounds_toArray, List.set_cons_zero, List.set_cons_succ]
              refine wpAnyW_take (i := 8) (v := ?_) (by simp only [List.getElem?_toArray, List.getElem?_cons_succ, List.getElem?_cons_zero]; rfl) (by kernel_rfl) (by kernel_rfl) (by kernel_rfl) (by kernel_rfl) (by kernel_rfl) (fun _ _ _ h => h) (Or.inl ⟨by rfl, ?_⟩) (by assumption) ?_
              rotate_left 1
              · (intro w' hSw; go_simp; try with_reducible rfl)
              try simp only [Act.put, List.setIfInBounds_toArray, List.set_cons_zero, List.set_cons_succ]
              refine wpAnyW_take (i := 9) (v := ?_) (by simp only [List.getElem?_toArray, List.getElem?_cons_succ, List.getElem?_cons_zero]; rfl) (by kernel_rfl) (by kernel_rfl) (by kernel_rfl) (by kernel_rfl) (by kernel_rfl) (fun _ _ _ h => h) (Or.inl ⟨by rfl, ?_⟩) (by assumption) ?_
              rotate_left 1
              · (intro w' hSw; go_simp; try with_reducible rfl)
              try simp only [Act.put, List.setIfInBounds_toArray, List.set_cons_zero, List.set_cons_succ]
              refine wpAnyW_held (i := 11) (by kernel_rfl) (by simp only [List.getElem?_toArray, List.getElem?_cons_succ, List.getElem?_cons_zero]; rfl) (fun K hK => ?_)
              rw [if_pos (by rfl)]
              refine wpB (ty := 27) #[.slice A1 nn.length c1, .slice A2 ww.length c2] rfl rfl rfl HX.out infoQ rfl (cellsQ_one _ _ _ _ _ _) ?_
              intro y9 ht hg
              have HS : (fun V => Below wr.heap.size wr V) _ := below_of_grown1 hHeld hg hHeld.size hga
              replace R1 := Lib.hid (R1.out.kept G1.out hg)
              replace R2 := Lib.hid (R2.out.kept G2.out hg)
              replace R3 := Lib.hid (R3.out.kept G3.out hg)
              replace HX := Lib.hid ht
              clear ht hg hHeld
              refine hK.out _ _ HS (fun hHeld => ?_)
              clear hK K HS
              try simp only [Act.put, List.setIfInBounds_toArray, List.set_cons_zero, List.set_cons_succ]
              refine wpAnyW_held (i := 12) (by kernel_rfl) (by simp only [List.getElem?_toArray, List.getElem?_cons_succ, List.getElem?_cons_zero]; rfl) (fun K hK => ?_)
              rw [if_pos (by rfl)]
              go_simp
              refine hK.out _ _ hHeld (fun hHeld => ?_)
              clear hK K
              try simp only [Act.put, List.setIfInBounds_toArray, List.set_cons_zero, List.set_cons_succ]
              refine wpAnyW_freed (i := 13) (by kernel_rfl) (by kernel_rfl) (by simp only [List.getElem?_toArray, List.getElem?_cons_succ, List.getElem?_cons_zero]; rfl) (fun K hK => ?_)
              rw [if_pos (by rfl)]
              go_simp
              have HE := Lib.hid hHeld
              refine hK.out _ _ ?_
              clear hK K hHeld
              try simp only [Act.put, List.setIfInBounds_toArray, List.set_cons_zero, List.set_cons_succ]
              refine wpAnyW_done (by kernel_rfl) ?_ _
              refine NoPanic.normal ?_
              go_wp2_with fail
              go_meet
              exact ⟨ga, A1, c1, A2, c2, A3, c3, rfl, rfl, rfl, Lib.hid ⟨HX.out, R1.out, R2.out, R3.out, N1.out, N2.out, N3.out, HE.out⟩⟩
          case rest =>
            obtain ⟨ga, A1, c1, A2, c2, A3, c3, rfl, rfl, rfl, HH⟩ := hcut
            obtain ⟨hx, r1, r2, r3, n1, n2, n3, hbb⟩ := HH.out
            have HX := Lib.hid hx
            have R1 := Lib.hid r1
            have R2 := Lib.hid r2
            have R3 := Lib.hid r3
            have N1 := Lib.hid n1
            have N2 := Lib.hid n2
            have N3 := Lib.hid n3
            replace HQ := Lib.hid (HQ.out.later hbb)
            replace HN := Lib.hid (HN.out.below hbb)
            replace HWT := Lib.hid (HWT.out.below hbb)
            replace HB := Lib.hid (HB.out.trans (hbb.mono HB.out.size))
            have x5 := (range_below HRX.out hbw0 HB.out) 5 (.string x.tx) rfl
            have hgq2 := HQ.out.lt
            have hwgq := HGW.out
            have hbx2 := HX.out.lt
            clear hx r1 r2 r3 n1 n2 n3 hbb HH HRG hgq hbw
            by_cases he : ee = 0
            · subst he
              obtain ⟨hk1, hk2, hk3⟩ := HP0.out rfl
              have hpb := HPB.out rfl
              have hio := HIO.out
              have hst3 : Hid (∀ x ∈ ww, x.st.toNat < 3) := Lib.hid (fun x hx => by have := (hk1.ok x hx).1; omega)
              have HK1 := Lib.hid hk1
              have HW3 := Lib.hid (waits_three hst3.out)
              have HBY := Lib.hid (fun a b V hn hb => obytes_any ww (by omega) (by omega) a b hn V hb)
              have HWA := Lib.hid (fun s a b V hn hb => owaits_any ww (by omega) s a b hn V hb)
              have HTB := Lib.hid (fun i => bytes_take tt i)
              have HTN := Lib.hid (fun i h => bytes_next tt i h)
              have HT0 : Hid (bytesN (tt.take tt.length) = bytesN tt) := Lib.hid (by rw [List.take_length])
              obtain ⟨bT, hbT⟩ : ∃ z, bytesN tt = z := ⟨_, rfl⟩
              obtain ⟨bW, hbW⟩ : ∃ z, bytesN ww = z := ⟨_, rfl⟩
              rw [hbT, hbW] at hpb
              rw [hbW] at HBY
              rw [hbT] at HTB HT0
              have HBW := Lib.hid hbW
              obtain ⟨i2, hi2⟩ : ∃ z, inn + x.tx.size = z := ⟨_, rfl⟩
              obtain ⟨o2, ho2⟩ : ∃ z, ou + bT = z := ⟨_, rfl⟩
              have hio2 : i2 = o2 + bW := by omega
              have hi3 : i2 ≤ 300 * (j + 1) := by omega
              have hb5 : bT ≤ 1000000 := by omega
              have ho5 : ou ≤ 1000000 := by omega
              have HIO2 := Lib.hid (show i2 = o2 + bW ∧ i2 ≤ 300 * (j + 1) ∧ ww.length ≤ j + 1 ∧ nn.length = 3 from ⟨hio2, hi3, by omega, by omega⟩)
              have s1 : IntKind.i64.wrap ((inn : Int) + (x.tx.size : Int)) = (i2 : Int) := by rw [IntKind.wrap_i64]; omega
              have s2 : IntKind.i64.wrap ((o2 : Int) + (bW : Int)) = (i2 : Int) := by rw [IntKind.wrap_i64]; omega
              have HTL2 : Hid ((tt.length : Int) ≤ 1000) := Lib.hid (by have := HTL.out; omega)
              have HO2 := Lib.hid ho2
              clear hk1 hk2 hk3 hpb hio HIO hbT hbW hi2 ho2 hio2 hi3
              go_wp2_with fail
              clear x5
              go_loopw [7, 12] (fun v7 v12 wr => ∃ i : Nat, i ≤ tt.length ∧ v7 = .int .i64 ((ou + bytesN (tt.take i) : Nat) : Int) ∧ v12 = .int .i64 i ∧ Hid (Bx wr gq 27 #[.slice B1 nx.length d1, .slice B2 wt.length d2]) ∧ Hid (Bx wr ga 27 #[.slice A1 nn.length c1, .slice A2 ww.length c2]) ∧ Hid (RowE enc16 wr (.slice A1 nn.length c1) nn) ∧ Hid (RowM wr (.slice A2 ww.length c2) ww) ∧ Hid (RowM wr (.slice A3 tt.length c3) tt) ∧ Hid (Below w.heap.size w wr))
                (fun _ v12 _ => tt.length - (intOf v12).toNat)
              case atStart => exact ⟨0, Nat.zero_le _, rfl, rfl, HQ, HX, R1, R2, R3, HB⟩
              case round =>
                clear HQ HX R1 R2 R3 HB HN HWT hgq2 hbx2
                obtain ⟨i, hi, rfl, rfl, HQ, HX, R1, R2, R3, HB⟩ := hrel
                have hgq2 := HQ.out.lt
                by_cases hit : i < tt.length
                · obtain ⟨b7, o7, c7, e7, hb7, -, -, hrg7⟩ := R3.out.at hit
                  cases e7
                  have y5 := hrg7 5 (.string tt[i].tx) (by rfl)
                  have hni := HTN.out i hit
                  have hti := HTB.out i
                  have hti2 := HTB.out (i + 1)
                  have q2 : (0 : Int) ≤ (i : Int) := by omega
                  have q3 : (i : Int) < (tt.length : Int) := by omega
                  have HU : Hid (ou + bytesN (tt.take (i + 1)) = ou + bytesN (tt.take i) + tt[i].tx.size) := Lib.hid (by rw [hni]; omega)
                  have hp0 : ((ou + bytesN (tt.take i) : Nat) : Int) ≤ 2000000 := by omega
                  have hx0 : (tt[i].tx.size : Int) ≤ 1000000 := by omega
                  have s5 := HTL2.out
                  have hit' : Hid (i + 1 ≤ tt.length) := Lib.hid hit
                  clear hrg7 hni hti hti2
                  generalize hp1 : ou + bytesN (tt.take (i + 1)) = p1 at *
                  have HP1 := Lib.hid hp1
                  clear hp1
                  generalize ou + bytesN (tt.take i) = p0 at *
                  generalize tt[i].tx = xt at *
                  go_wp2_with fail
                  go_roundw
                  case rel => exact ⟨i + 1, hit'.out, by rw [HP1.out, HU.out]; simp, by go_num, HQ, HX, R1, R2, R3, HB⟩
                  case measure => simp [intOf]; omega
                · obtain rfl : i = tt.length := by omega
                  rw [HT0.out, HO2.out]
                  go_wp2_with (first
                    | ((with_reducible refine gate9 ?_); refine ldB (ty := 27) (cs := #[.slice A1 nn.length c1, .slice A2 ww.length c2]) rfl rfl rfl HX.out Try.underlying27 rfl infoQ ?_)
                    | ((with_reducible refine gate9 ?_); refine stB (ty := 27) #[.slice A1 nn.length c1, .slice A2 ww.length c2] rfl rfl rfl rfl HQ.out infoQ rfl (cellsQ_one _ _ _ _ _ _) ?_; intro w9 ht hg; replace R1 := Lib.hid (R1.out.kept N1.out hg); replace R2 := Lib.hid (R2.out.kept N2.out hg); replace HB := Lib.hid (below_of_grown1 HB.out hg HB.out.size hwgq); replace HQ := Lib.hid ht; clear ht hg))
                  generalize w9 = wz at *
                  have HS : (fun V => Bx V gq 27 #[.slice A1 nn.length c1, .slice A2 ww.length c2] ∧ Below wz.heap.size wz V) wz.drew := ⟨HQ.out.drew, below_drawn (Below.refl _ _)⟩
                  have hcq : (Value.slice A1 nn.length c1).oneCell' = true := rfl
                  have HIO3 := HIO2
                  obtain ⟨w0, hw0⟩ : ∃ z, waitsN ww 0 = z := ⟨_, rfl⟩
                  obtain ⟨w1, hw1⟩ : ∃ z, waitsN ww 1 = z := ⟨_, rfl⟩
                  obtain ⟨w2, hw2⟩ : ∃ z, waitsN ww 2 = z := ⟨_, rfl⟩
                  have HA0 := Lib.hid (fun a b V hn hb => HWA.out 0 a b V hn hb)
                  have HA1 := Lib.hid (fun a b V hn hb => HWA.out 1 a b V hn hb)
                  have HA2 := Lib.hid (fun a b V hn hb => HWA.out 2 a b V hn hb)
                  rw [hw0] at HA0 HW3
                  rw [hw1] at HA1 HW3
                  rw [hw2] at HA2 HW3
                  have hw3 := HW3.out
                  have hwl3 := HIO2.out.2.2.1
                  have t1 : IntKind.i64.wrap ((w0 : Int) + (w1 : Int)) = ((w0 + w1 : Nat) : Int) := by rw [IntKind.wrap_i64]; omega
                  have t2 : IntKind.i64.wrap (((w0 + w1 : Nat) : Int) + (w2 : Int)) = (ww.length : Int) := by rw [IntKind.wrap_i64]; omega
                  clear hw0 hw1 hw2 hw3 hwl3 HWA HW3 hcq
                  generalize ((w0 + w1 : Nat) : Int) = w01 at *
                  refine wp_region_noPanic ?_
                  refine wp_region_waits (S := (fun V => Bx V gq 27 #[.slice A1 nn.length c1, .slice A2 ww.length c2] ∧ Below wz.heap.size wz V)) [] (by kernel_rfl) HS (fun hHeld => ?_)
                  clear HS
                  refine wpAnyW_take (i := 0) (v := ?_) (by simp only [List.getElem?_toArray, List.getElem?_cons_zero]; rfl) (by kernel_rfl) (by kernel_rfl) (by kernel_rfl) (by kernel_rfl) (by kernel_rfl) (fun _ _ _ h => h) (Or.inl ⟨by rfl, ?_⟩) (by assumption) ?_
                  rotate_left 1
                  · (intro w' hSw; go_simp; try with_reducible rfl)
                  try simp only [Act.put, List.setIfInBounds_toArray, List.set_cons_zero, List.set_cons_succ]
                  refine wpAnyW_take (i := 1) (v := ?_) (by simp only [List.getElem?_toArray, List.getElem?_cons_succ, List.getElem?_cons_zero]; rfl) (by kernel_rfl) (by kernel_rfl) (by kernel_rfl) (by kernel_rfl) (by kernel_rfl) (fun _ _ _ h => h) (Or.inl ⟨by rfl, ?_⟩) (by assumption) ?_
                  rotate_left 1
                  · (intro w' hSw; go_simp; try with_reducible rfl)
                  try simp only [Act.put, List.setIfInBounds_toArray, List.set_cons_zero, List.set_cons_succ]
                  refine wpAnyW_take (i := 2) (v := _) (by simp only [List.getElem?_toArray, List.getElem?_cons_succ, List.getElem?_cons_zero]; rfl) (by kernel_rfl) (by kernel_rfl) (by kernel_rfl) (by kernel_rfl) (by kernel_rfl) (fun _ _ _ h => h) (yB (ty := 27) (by rfl) rfl rfl (fun V h => h.1) Try.underlying27 rfl infoQ) (by assumption) ?_
                  try simp only [Act.put, List.setIfInBounds_toArray, List.set_cons_zero, List.set_cons_succ]
                  refine wpAnyW_held (i := 3) (by kernel_rfl) (by simp only [List.getElem?_toArray, List.getElem?_cons_succ, List.getElem?_cons_zero]; rfl) (fun K hK => ?_)
                  rw [if_pos (by rfl)]
                  go_simp
                  refine (HBY.out _ _ _ rfl (R2.out.below hHeld.2)).mono ?_
                  rintro _ w3x ⟨rfl, hb⟩
                  have HS : (fun V => Bx V gq 27 #[.slice A1 nn.length c1, .slice A2 ww.length c2] ∧ Below wz.heap.size wz V) _ := ⟨hHeld.1.later hb, hHeld.2.trans (hb.mono hHeld.2.size)⟩
                  clear hHeld hb
                  go_wp2_with fail
                  refine hK.out _ _ HS (fun hHeld => ?_)
                  clear hK K HS
                  try simp only [Act.put, List.setIfInBounds_toArray, List.set_cons_zero, List.set_cons_succ]
                  refine wpAnyW_take (i := 4) (v := ?_) (by simp only [List.getElem?_toArray, List.getElem?_cons_succ, List.getElem?_cons_zero]; rfl) (by kernel_rfl) (by kernel_rfl) (by kernel_rfl) (by kernel_rfl) (by kernel_rfl) (fun _ _ _ h => h) (Or.inl ⟨by rfl, ?_⟩) (by assumption) ?_
                  rotate_left 1
                  · (intro w' hSw; go_simp; try with_reducible rfl)
                  try simp only [Act.put, List.setIfInBounds_toArray, List.set_cons_zero, List.set_cons_succ]
                  refine wpAnyW_take (i := 5) (v := ?_) (by simp only [List.getElem?_toArray, List.getElem?_cons_succ, List.getElem?_cons_zero]; rfl) (by kernel_rfl) (by kernel_rfl) (by kernel_rfl) (by kernel_rfl) (by kernel_rfl) (fun _ _ _ h => h) (Or.inl ⟨by rfl, ?_⟩) (by assumption) ?_
                  rotate_left 1
                  · (intro w' hSw; go_simp; try with_reducible rfl)
                  try simp only [Act.put, List.setIfInBounds_toArray, List.set_cons_zero, List.set_cons_succ]
                  refine wpAnyW_take (i := 6) (v := ?_) (by simp only [List.getElem?_toArray, List.getElem?_cons_succ, List.getElem?_cons_zero]; rfl) (by kernel_rfl) (by kernel_rfl) (by kernel_rfl) (by kernel_rfl) (by kernel_rfl) (fun _ _ _ h => h) (Or.inl ⟨by rfl, ?_⟩) (by assumption) ?_
                  rotate_left 1
                  · (intro w' hSw; go_simp; try with_reducible rfl)
                  try simp only [Act.put, List.setIfInBounds_toArray, List.set_cons_zero, List.set_cons_succ]
                  refine wpAnyW_take (i := 7) (v := _) (by simp only [List.getElem?_toArray, List.getElem?_cons_succ, List.getElem?_cons_zero]; rfl) (by kernel_rfl) (by kernel_rfl) (by kernel_rfl) (by kernel_rfl) (by kernel_rfl) (fun _ _ _ h => h) (yB (ty := 27) (by rfl) rfl rfl (fun V h => h.1) Try.underlying27 rfl infoQ) (by assumption) ?_
                  try simp only [Act.put, List.setIfInBounds_toArray, List.set_cons_zero, List.set_cons_succ]
                  refine wpAnyW_take (i := 9) (v := _) (by simp only [List.getElem?_toArray, List.getElem?_cons_succ, List.getElem?_cons_zero]; rfl) (by kernel_rfl) (by kernel_rfl) (by kernel_rfl) (by kernel_rfl) (by kernel_rfl) (fun _ _ _ h => h) (yB (ty := 27) (by rfl) rfl rfl (fun V h => h.1) Try.underlying27 rfl infoQ) (by assumption) ?_
                  try simp only [Act.put, List.setIfInBounds_toArray, List.set_cons_zero, List.set_cons_succ]
                  refine wpAnyW_take (i := 12) (v := _) (by simp only [List.getElem?_toArray, List.getElem?_cons_succ, List.getElem?_cons_zero]; rfl) (by kernel_rfl) (by kernel_rfl) (by kernel_rfl) (by kernel_rfl) (by kernel_rfl) (fun _ _ _ h => h) (yB (ty := 27) (by rfl) rfl rfl (fun V h => h.1) Try.underlying27 rfl infoQ) (by assumption) ?_
                  try simp only [Act.put, List.setIfInBounds_toArray, List.set_cons_zero, List.set_cons_succ]
                  refine wpAnyW_take (i := 15) (v := ?_) (by simp only [List.getElem?_toArray, List.getElem?_cons_succ, List.getElem?_cons_zero]; rfl) (by kernel_rfl) (by kernel_rfl) (by kernel_rfl) (by kernel_rfl) (by kernel_rfl) (fun _ _ _ h => h) (Or.inl ⟨by rfl, ?_⟩) (by assumption) ?_
                  rotate_left 1
                  · (intro w' hSw; go_simp; try with_reducible rfl)
                  try simp only [Act.put, List.setIfInBounds_toArray, List.set_cons_zero, List.set_cons_succ]
                  refine wpAnyW_take (i := 16) (v := ?_) (by simp only [List.getElem?_toArray, List.getElem?_cons_succ, List.getElem?_cons_zero]; rfl) (by kernel_rfl) (by kernel_rfl) (by kernel_rfl) (by kernel_rfl) (by kernel_rfl) (fun _ _ _ h => h) (Or.inl ⟨by rfl, ?_⟩) (by assumption) ?_
                  rotate_left 1
                  · (intro w' hSw; have hq := hSw.1.cell 1 (.slice A2 ww.length c2) rfl; go_simp; try with_reducible rfl)
                  try simp only [Act.put, List.setIfInBounds_toArray, List.set_cons_zero, List.set_cons_succ]
                  refine wpAnyW_take (i := 17) (v := ?_) (by simp only [List.getElem?_toArray, List.getElem?_cons_succ, List.getElem?_cons_zero]; rfl) (by kernel_rfl) (by kernel_rfl) (by kernel_rfl) (by kernel_rfl) (by kernel_rfl) (fun _ _ _ h => h) (Or.inl ⟨by rfl, ?_⟩) (by assumption) ?_
                  rotate_left 1
                  · (intro w' hSw; go_simp; try with_reducible rfl)
                  try simp only [Act.put, List.setIfInBounds_toArray, List.set_cons_zero, List.set_cons_succ]
                  refine wpAnyW_held (i := 8) (by kernel_rfl) (by simp only [List.getElem?_toArray, List.getElem?_cons_succ, List.getElem?_cons_zero]; rfl) (fun K hK => ?_)
                  rw [if_pos (by rfl)]
                  go_simp
                  refine (HA0.out _ _ _ rfl (R2.out.below hHeld.2)).mono ?_
                  rintro _ w8x ⟨rfl, hb⟩
                  have HS : (fun V => Bx V gq 27 #[.slice A1 nn.length c1, .slice A2 ww.length c2] ∧ Below wz.heap.size wz V) _ := ⟨hHeld.1.later hb, hHeld.2.trans (hb.mono hHeld.2.size)⟩
                  clear hHeld hb
                  go_wp2_with fail
                  refine hK.out _ _ HS (fun hHeld => ?_)
                  clear hK K HS
                  try simp only [Act.put, List.setIfInBounds_toArray, List.set_cons_zero, List.set_cons_succ]
                  refine wpAnyW_held (i := 10) (by kernel_rfl) (by simp only [List.getElem?_toArray, List.getElem?_cons_succ, List.getElem?_cons_zero]; rfl) (fun K hK => ?_)
                  rw [if_pos (by rfl)]
                  go_simp
                  refine (HA1.out _ _ _ rfl (R2.out.below hHeld.2)).mono ?_
                  rintro _ w10x ⟨rfl, hb⟩
                  have HS : (fun V => Bx V gq 27 #[.slice A1 nn.length c1, .slice A2 ww.length c2] ∧ Below wz.heap.size wz V) _ := ⟨hHeld.1.later hb, hHeld.2.trans (hb.mono hHeld.2.size)⟩
                  clear hHeld hb
                  go_wp2_with fail
                  refine hK.out _ _ HS (fun hHeld => ?_)
                  clear hK K HS
                  try simp only [Act.put, List.setIfInBounds_toArray, List.set_cons_zero, List.set_cons_succ]
                  refine wpAnyW_take (i := 11) (v := ?_) (by simp only [List.getElem?_toArray, List.getElem?_cons_succ, List.getElem?_cons_zero]; rfl) (by kernel_rfl) (by kernel_rfl) (by kernel_rfl) (by kernel_rfl) (by kernel_rfl) (fun _ _ _ h => h) (Or.inl ⟨by rfl, ?_⟩) (by assumption) ?_
                  rotate_left 1
                  · (intro w' hSw; go_simp; try with_reducible rfl)
                  try simp only [Act.put, List.setIfInBounds_toArray, List.set_cons_zero, List.set_cons_succ]
                  refine wpAnyW_held (i := 13) (by kernel_rfl) (by simp only [List.getElem?_toArray, List.getElem?_cons_succ, List.getElem?_cons_zero]; rfl) (fun K hK => ?_)
                  rw [if_pos (by rfl)]
                  go_simp
                  refine (HA2.out _ _ _ rfl (R2.out.below hHeld.2)).mono ?_
                  rintro _ w13x ⟨rfl, hb⟩
                  have HS : (fun V => Bx V gq 27 #[.slice A1 nn.length c1, .slice A2 ww.length c2] ∧ Below wz.heap.size wz V) _ := ⟨hHeld.1.later hb, hHeld.2.trans (hb.mono hHeld.2.size)⟩
                  clear hHeld hb
                  go_wp2_with fail
                  refine hK.out _ _ HS (fun hHeld => ?_)
                  clear hK K HS
                  try simp only [Act.put, List.setIfInBounds_toArray, List.set_cons_zero, List.set_cons_succ]
                  refine wpAnyW_take (i := 14) (v := ?_) (by simp only [List.getElem?_toArray, List.getElem?_cons_succ, List.getElem?_cons_zero]; rfl) (by kernel_rfl) (by kernel_rfl) (by kernel_rfl) (by kernel_rfl) (by kernel_rfl) (fun _ _ _ h => h) (Or.inl ⟨by rfl, ?_⟩) (by assumption) ?_
                  rotate_left 1
                  · (intro w' hSw; go_simp; try with_reducible rfl)
                  try simp only [Act.put, List.setIfInBounds_toArray, List.set_cons_zero, List.set_cons_succ]
                  refine wpAnyW_take (i := 18) (v := ?_) (by simp only [List.getElem?_toArray, List.getElem?_cons_succ, List.getElem?_cons_zero]; rfl) (by kernel_rfl) (by kernel_rfl) (by kernel_rfl) (by kernel_rfl) (by kernel_rfl) (fun _ _ _ h => h) (Or.inl ⟨by rfl, ?_⟩) (by assumption) ?_
                  rotate_left 1
                  · (intro w' hSw; go_simp; try with_reducible rfl)
                  try simp only [Act.put, List.setIfInBounds_toArray, List.set_cons_zero, List.set_cons_succ]
                  refine wpAnyW_take (i := 19) (v := ?_) (by simp only [List.getElem?_toArray, List.getElem?_cons_succ, List.getElem?_cons_zero]; rfl) (by kernel_rfl) (by kernel_rfl) (by kernel_rfl) (by kernel_rfl) (by kernel_rfl) (fun _ _ _ h => h) (Or.inl ⟨by rfl, ?_⟩) (by assumption) ?_
                  rotate_left 1
                  · (intro w' hSw; go_simp; try with_reducible rfl)
                  try simp only [Act.put, List.setIfInBounds_toArray, List.set_cons_zero, List.set_cons_succ]
                  replace HQ := Lib.hid hHeld.1
                  replace R1 := Lib.hid (R1.out.below hHeld.2)
                  replace R2 := Lib.hid (R2.out.below hHeld.2)
                  replace HB := Lib.hid (HB.out.trans (hHeld.2.mono HB.out.size))
                  clear hHeld
                  refine wpAnyW_done (by kernel_rfl) ?_ _
                  refine NoPanic.normal ?_
                  go_wp2_with fail
                  go_roundw
                  case rel => exact ⟨j + 1, i2, o2, nn, ww, by omega, rfl, rfl, by go_num, Lib.hid ⟨by rw [HBW.out]; exact HIO3.out.1, HIO2.out.2.1, HIO2.out.2.2.1, HIO2.out.2.2.2, HK1.out⟩, Lib.hid ⟨A1, c1, A2, c2, HQ.out, R1.out, R2.out⟩, HB⟩
                  case measure => simp [intOf]; omega
            · have qe : (ee != 0) = true := by simpa using he
              clear he
              go_wp2_with fail
              go_roundw
              case rel => exact ⟨j + 1, inn, ou, nx, wt, by omega, rfl, rfl, by go_num, Lib.hid ⟨HIO.out.1, by have := HIO.out.2.1; omega, by have := HIO.out.2.2.1; omega, HIO.out.2.2.2⟩, Lib.hid ⟨B1, d1, B2, d2, HQ.out, HN.out, HWT.out⟩, HB⟩
              case measure => simp [intOf]; omega
        · have z0 : ¬ (x.tx.size : Int) ≤ 300 := by omega
          go_wp2_with fail
          go_ret
          exact ⟨rfl, HB.out⟩
      · obtain rfl : j = l.length := by omega
        go_wp2_with fail
        go_ret
        exact ⟨rfl, HB.out⟩
  · have q60 : ¬ (l.length : Int) ≤ 60 := by omega
    go_enter Try.func7, Try.ntmps7
    go_wp2_with (first
      | (go_at_call 8; (with_reducible refine (HSH.out _).mono ?_); rintro e w1 ⟨rfl, hb⟩; replace HB := Lib.hid (HB.out.trans (hb.mono HB.out.size)); clear hb)
      | (go_at_call 9; (with_reducible refine (HNW.out _).mono ?_); rintro e w2 ⟨A0, k0, rfl, hown, hb⟩; have RN0 := Lib.hid (row_of_own hown); replace HB := Lib.hid (HB.out.trans (hb.mono HB.out.size)); clear hown hb; obtain ⟨W3, hW3, HZ3, HC3, hs3⟩ := one_open w2 27 #[.slice none 0 0, .slice none 0 0]; obtain ⟨gq, hgq0⟩ : ∃ g, w2.heap.size = g := ⟨_, rfl⟩; rw [hgq0] at HZ3; clear hs3)
      | ((with_reducible refine gate9 ?_); refine stB (ty := 27) #[.slice A0 3 k0, .slice none 0 0] rfl rfl rfl rfl HZ3.out infoQ rfl (cellsQ_one _ _ _ _ _ _) ?_; intro w3 ht hg; have hb := below_of_grown1 HC3.out hg HC3.out.size (Nat.le_of_eq hgq0); have HQ := Lib.hid ht; have HN := Lib.hid (RN0.out.below hb); have hgw : w.heap.size ≤ gq := (by have := HB.out.size; omega); replace HB := Lib.hid (HB.out.trans (hb.mono HB.out.size)); clear ht hg hb HZ3 HC3 RN0))
    go_ret
    exact ⟨rfl, HB.out⟩

set_option maxRecDepth 100000 in
theorem lifted (os : Os) (started : os.Started) (H : Type) (enc : TypeId × Value → H) :
    ReturnsInHanded {} Try.checked os 7 .any (Rows.orderBytesSpec.pre6 enc Try.prog Try.f7 Rows.orderBytesRow.domain false) (Rows.orderBytesSpec.post enc Try.prog Try.f7 false true false false) := by
  refine returnsInHanded_of_change_sized (C := Try.checked) own started (by kernel_rfl) Try.func7
    (ChangeSpec.witness6 (enc := enc) (C := Try.checked) false ⟨#[], #[.slice none 0 0], []⟩ 8 (by kernel_rfl) (by kernel_rfl) (by kernel_rfl) (by kernel_rfl)) ?_
  intro W base args ds gs before hval0 hW _ hreach _
  have hval : ∀ (j : Nat) t v, Try.f7.params[j]? = some t → args[j]? = some v → Value.okWide Try.prog W .any base t v := hval0
  obtain ⟨p, q, hA0, _, _, _, _⟩ := id hW
  have hA : DataW.TrodAll enc Try.prog W 0 (fun _ => true) true Try.f7.params.toList args.toList ds p := hA0
  rw [Try.params7] at hA hval
  obtain ⟨v0, vs0, d0, ds0, p0, q0, hargs, rfl, rfl, h0, r0⟩ := trodAll_cons hA
  obtain ⟨rfl, rfl, rfl⟩ := trodAll_nil r0
  obtain rfl : args = #[v0] := by cases args; simp_all
  obtain ⟨l0, w0, m0⟩ := msgs_in (hval 0 25 v0 rfl rfl) h0
  refine (walk l0 v0 W w0).mono fun e W' ⟨he, hg⟩ => ?_
  subst he
  exact ⟨_, rfl, law_post laidOut Try.underlying4 (by kernel_rfl) (by kernel_rfl) rfl hW (by simp [Rows.orderBytesSpec]) hg⟩

theorem proved : Rows.OrderBytesSaid :=
  OpenClaim.holds_of_wide 7 Try.f7 rfl rfl rfl rfl rfl rfl rfl ⟨rfl, rfl, rfl, rfl, rfl⟩ rfl rfl rfl rfl rfl (by kernel_rfl) Try.func7 (by kernel_rfl)
    (of_decide_eq_true (by kernel_rfl)) (by unfold Func.isWrapper; first | (rw [if_pos (by decide +kernel)]; kernel_rfl) | (rw [if_neg (by decide +kernel)]; exact ⟨rfl, rfl⟩))
    (fun os started H enc _ => lifted os started H enc)
#print axioms proved
end Go.Proofs.Ytondgdacjbfihaa.orderBytes
