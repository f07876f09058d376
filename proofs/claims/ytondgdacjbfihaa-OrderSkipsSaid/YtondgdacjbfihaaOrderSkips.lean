/-
  A stream that goes on with a later message tells that, and what follows, and never one ahead of it: any order of coming, how far.
-/
import Derived.Test.YtondgdacjbfihaaLift
import Derived.Test.YtondgdacjbfihaaArgs
import Derived.Test.YtondgdacjbfihaaPd
import Derived.Deep.CutBlock
import Derived.Deep.CutRange
import Derived.Deep.Cut
namespace Go.Proofs.Ytondgdacjbfihaa.orderSkips
open Go.ChangeShapes Go.WideShapes Go.ChangeAt Go.RowKit
set_option linter.unusedVariables false
set_option linter.unusedSimpArgs false
set_option maxRecDepth 100000

set_option maxHeartbeats 2000000 in
theorem walk (l : List Int) (n : Int) (hl : ∀ c ∈ l, Fits c) (hn : Fits n) (v : Value) (w : World) (h : RowE encI w v l) : Calls Try.prog 6 #[v, .int .i64 n] w fun e w' => e = .returned (.bool true) ∧ Below w.heap.size w w' := by
  have HSH := Lib.hid shown_any
  have HNW : Hid (∀ V : World, Calls Try.prog 9 #[.int .i64 2] V fun e w' => ∃ A c, e = .returned (.tuple #[.agg #[.slice A 2 c, .slice none 0 0], .int .i64 0]) ∧ w'.ownsRow V.heap.size 38 1 (.slice A 2 c) 2 (([0, 0] : List UInt16).map enc16) ∧ Below V.heap.size V w') := Lib.hid (fun V => new_any 2 V)
  have HV := Lib.hid h
  have HFI := Lib.hid hl
  have HFN := Lib.hid hn
  have HB := Lib.hid (Below.refl w.heap.size w)
  obtain ⟨A, cap, rfl, hcap, hmx, hce⟩ := id h
  have hmxI : (l.length : Int) ≤ 9223372036854775807 := by unfold maxLen at hmx; omega
  clear h hl hn
  by_cases h60 : l.length ≤ 60
  · have q60 : (l.length : Int) ≤ 60 := by omega
    clear hce
    go_enter Try.func6, Try.ntmps6
    go_wp2_with (first
      | (go_at_call 8; (with_reducible refine (HSH.out _).mono ?_); rintro e w1 ⟨rfl, hb⟩; replace HB := Lib.hid (HB.out.trans (hb.mono HB.out.size)); clear hb)
      | (go_at_call 9; (with_reducible refine (HNW.out _).mono ?_); rintro e w2 ⟨A0, k0, rfl, hown, hb⟩; have RN0 := Lib.hid (row_of_own hown); replace HB := Lib.hid (HB.out.trans (hb.mono HB.out.size)); clear hown hb; obtain ⟨W3, hW3, HZ3, HC3, hs3⟩ := one_open w2 27 #[.slice none 0 0, .slice none 0 0]; obtain ⟨gq, hgq0⟩ : ∃ g, w2.heap.size = g := ⟨_, rfl⟩; rw [hgq0] at HZ3; clear hs3)
      | ((with_reducible refine gate9 ?_); refine stB (ty := 27) #[.slice A0 2 k0, .slice none 0 0] rfl rfl rfl rfl HZ3.out infoQ rfl (cellsQ_one _ _ _ _ _ _) ?_; intro w3 ht hg; have hb := below_of_grown1 HC3.out hg HC3.out.size (Nat.le_of_eq hgq0); have HQ := Lib.hid ht; have HN := Lib.hid (RN0.out.below hb); have hgw : w.heap.size ≤ gq := (by have := HB.out.size; omega); replace HB := Lib.hid (HB.out.trans (hb.mono HB.out.size)); clear ht hg hb HZ3 HC3 RN0))
    clear hW3 hgq0
    have HGW := Lib.hid hgw
    go_loopw [8] (fun i wr => ∃ (j : Nat) (nx : List UInt16) (wt : List Mg), j ≤ l.length ∧ i = .int .i64 j ∧ Hid (wt.length ≤ j ∧ OkS nx wt) ∧ Hid (∃ A1 c1 A2 c2, Bx wr gq 27 #[.slice A1 nx.length c1, .slice A2 wt.length c2] ∧ RowE enc16 wr (.slice A1 nx.length c1) nx ∧ RowM wr (.slice A2 wt.length c2) wt) ∧ Hid (Below w.heap.size w wr))
      (fun i _ => l.length - (intOf i).toNat)
    case atStart => exact ⟨0, [0, 0], [], Nat.zero_le _, rfl, Lib.hid ⟨Nat.le_refl _, ⟨OkQ.empty _, rfl, (fun x hx => by cases hx), by decide⟩⟩, Lib.hid ⟨A0, k0, none, 0, HQ.out, HN.out, RowM.nil _⟩, HB⟩
    case round =>
      clear HQ HN HB
      obtain ⟨j, nx, wt, hj, rfl, HIO, HQA, HB⟩ := hrel
      obtain ⟨B1, d1, B2, d2, hbx, hrn, hrw⟩ := HQA.out
      have HQ := Lib.hid hbx
      have HN := Lib.hid hrn
      have HWT := Lib.hid hrw
      have hgq := hbx.lt
      clear hbx hrn hrw HQA
      by_cases hlt : j < l.length
      · have hv := HV.out
        obtain ⟨A8, c8, e8, hc8, hm8, hce⟩ := hv
        obtain ⟨b, off, rfl, hbw0, hcs⟩ := hce (by omega)
        cases e8
        have hx := hcs j hlt
        rw [getElem!_pos l j hlt] at hx
        have x0 := Lib.hid ((HB.out.cell (p := ⟨b, off + j, none⟩) hbw0).trans (show w.cell? ⟨b, off + j, none⟩ = some (.int .i64 l[j]) from hx))
        have x1 := x0.out
        have hbw : b < wr.heap.size := by have := HB.out.size; omega
        have q0 : (0 : Int) ≤ (j : Int) := by omega
        have q1 : (j : Int) < (l.length : Int) := by omega
        have hfc := HFI.out _ (List.getElem_mem hlt)
        clear hx hcs hce hc8 hm8
        generalize l[j] = c at *
        have hf2 : Fits (c.tdiv 12) := tdiv_fits hfc 12
        obtain ⟨kx, hkx, hk12⟩ := pick16 c 12 (by omega) (by omega)
        obtain ⟨sx, hsx, hs2⟩ := pick16 (c.tdiv 12) 2 (by omega) (by omega)
        have HPK1 := Lib.hid (fun V => pick_any c 12 hfc (by omega) (by omega) V)
        have HPK2 := Lib.hid (fun V => pick_any (c.tdiv 12) 2 hf2 (by omega) (by omega) V)
        rw [hkx] at HPK1
        rw [hsx] at HPK2
        have hwl := HIO.out.1
        have hok := HIO.out.2
        have hnl2 : nx.length ≤ 100000 := by have := hok.len; omega
        have HPU := Lib.hid (fun V a b ha hb => put_any nx wt ⟨0, false, sx, kx, 0, ⟨#[109]⟩⟩ hnl2 (by omega) a b V ha hb hok.ok)
        have HP0 := Lib.hid (hok.put (by omega) ⟨0, false, sx, kx, 0, ⟨#[109]⟩⟩ (show kx.toNat < 12 by omega))
        have HP1 := Lib.hid (put_ok hok.ok (by omega) (⟨0, false, sx, kx, 0, ⟨#[109]⟩⟩ : Mg))
        clear hok hnl2 hwl hkx hsx hfc
        generalize putE nx wt ⟨0, false, sx, kx, 0, ⟨#[109]⟩⟩ = ee at *
        generalize putN nx wt ⟨0, false, sx, kx, 0, ⟨#[109]⟩⟩ = nn at *
        generalize putW nx wt ⟨0, false, sx, kx, 0, ⟨#[109]⟩⟩ = ww at *
        generalize putT nx wt ⟨0, false, sx, kx, 0, ⟨#[109]⟩⟩ = tt at *
        obtain ⟨z1, z2⟩ := fit16 kx
        obtain ⟨z3, z4⟩ := fit16 sx
        have z5 : IntKind.u16.wrap (kx.toNat : Int) = (kx.toNat : Int) := wrap16 kx
        have z7 : IntKind.i64.wrap (c.tdiv 12) = c.tdiv 12 := IntWalk.i64_in _ hf2
        have z6 : IntKind.u16.wrap (sx.toNat : Int) = (sx.toNat : Int) := wrap16 sx
        go_wp2_with (go_at_call 15; (with_reducible refine (HPK1.out _).mono ?_); rintro e w4 ⟨rfl, h4⟩; obtain rfl := h4.symm)
        go_cut [10, 11, 12] from 46 to 67 (fun v10 v11 v12 wx => ∃ (ga : Nat) (A1 : Option Addr) (c1 : Nat) (A2 : Option Addr) (c2 : Nat) (A3 : Option Addr) (c3 : Nat), v10 = .pointer (some ⟨ga, 0, none⟩) ∧ v11 = .slice A3 tt.length c3 ∧ v12 = .int .i64 ee ∧ Hid (Bx wx ga 27 #[.slice A1 nn.length c1, .slice A2 ww.length c2] ∧ RowE enc16 wx (.slice A1 nn.length c1) nn ∧ RowM wx (.slice A2 ww.length c2) ww ∧ RowM wx (.slice A3 tt.length c3) tt ∧ NotIn gq (.slice A1 nn.length c1) ∧ NotIn gq (.slice A2 ww.length c2) ∧ NotIn gq (.slice A3 tt.length c3) ∧ Below wr.heap.size wr wx))
        case first =>
          clear HIO HP0 HP1
          go_wp2_with fail
          have HS : (fun V => Below wr.heap.size wr V) wr.drew := below_drawn (Below.refl _ _)
          refine wp_region_noPanic ?_
          refine wp_region_waits (S := (fun V => Below wr.heap.size wr V)) [19] (by kernel_rfl) HS (fun hHeld => ?_)
          clear HS
          refine wpAnyW_take (i := 0) (v := _) (by simp only [List.getElem?_toArray, List.getElem?_cons_zero]; rfl) (by kernel_rfl) (by kernel_rfl) (by kernel_rfl) (by kernel_rfl) (by kernel_rfl) (fun _ _ _ h => h) (yB (ty := 27) (by rfl) rfl rfl (fun V h => HQ.out.later h) Try.underlying27 rfl infoQ) (by assumption) ?_
          try simp only [Act.put, List.setIfInBounds_toArray, List.set_cons_zero, List.set_cons_succ]
          refine wpAnyW_take (i := 1) (v := ?_) (by simp only [List.getElem?_toArray, List.getElem?_cons_succ, List.getElem?_cons_zero]; rfl) (by kernel_rfl) (by kernel_rfl) (by kernel_rfl) (by kernel_rfl) (by kernel_rfl) (fun _ _ _ h => h) (Or.inl ⟨by rfl, ?_⟩) (by assumption) ?_
          rotate_left 1
          · (intro w' hSw; go_simp; try with_reducible rfl)
          try simp only [Act.put, List.setIfInBounds_toArray, List.set_cons_zero, List.set_cons_succ]
          refine wpAnyW_take (i := 2) (v := ?_) (by simp only [List.getElem?_toArray, List.getElem?_cons_succ, List.getElem?_cons_zero]; rfl) (by kernel_rfl) (by kernel_rfl) (by kernel_rfl) (by kernel_rfl) (by kernel_rfl) (fun _ _ _ h => h) (Or.inl ⟨by rfl, ?_⟩) (by assumption) ?_
          rotate_left 1
          · (intro w' hSw; go_simp; try with_reducible rfl)
          try simp only [Act.put, List.setIfInBounds_toArray, List.set_cons_zero, List.set_cons_succ]
          refine wpAnyW_take (i := 3) (v := ?_) (by simp only [List.getElem?_toArray, List.getElem?_cons_succ, List.getElem?_cons_zero]; rfl) (by kernel_rfl) (by kernel_rfl) (by kernel_rfl) (by kernel_rfl) (by kernel_rfl) (fun _ _ _ h => h) (Or.inl ⟨by rfl, ?_⟩) (by assumption) ?_
          rotate_left 1
          · (intro w' hSw; go_simp; try with_reducible rfl)
          try simp only [Act.put, List.setIfInBounds_toArray, List.set_cons_zero, List.set_cons_succ]
          refine wpAnyW_take (i := 4) (v := ?_) (by simp only [List.getElem?_toArray, List.getElem?_cons_succ, List.getElem?_cons_zero]; rfl) (by kernel_rfl) (by kernel_rfl) (by kernel_rfl) (by kernel_rfl) (by kernel_rfl) (fun _ _ _ h => h) (Or.inl ⟨by rfl, ?_⟩) (by assumption) ?_
          rotate_left 1
          · (intro w' hSw; have hq := (hSw.cell (p := ⟨b, off + j, none⟩) hbw).trans x0.out; go_simp; try with_reducible rfl)
          try simp only [Act.put, List.setIfInBounds_toArray, List.set_cons_zero, List.set_cons_succ]
          refine wpAnyW_take (i := 5) (v := ?_) (by simp only [List.getElem?_toArray, List.getElem?_cons_succ, List.getElem?_cons_zero]; rfl) (by kernel_rfl) (by kernel_rfl) (by kernel_rfl) (by kernel_rfl) (by kernel_rfl) (fun _ _ _ h => h) (Or.inl ⟨by rfl, ?_⟩) (by assumption) ?_
          rotate_left 1
          · (intro w' hSw; go_simp; try with_reducible rfl)
          try simp only [Act.put, List.setIfInBounds_toArray, List.set_cons_zero, List.set_cons_succ]
          refine wpAnyW_take (i := 8) (v := ?_) (by simp only [List.getElem?_toArray, List.getElem?_cons_succ, List.getElem?_cons_zero]; rfl) (by kernel_rfl) (by kernel_rfl) (by kernel_rfl) (by kernel_rfl) (by kernel_rfl) (fun _ _ _ h => h) (Or.inl ⟨by rfl, ?_⟩) (by assumption) ?_
          rotate_left 1
          · (intro w' hSw; go_simp; try with_reducible rfl)
          try simp only [Act.put, List.setIfInBounds_toArray, List.set_cons_zero, List.set_cons_succ]
          refine wpAnyW_take (i := 9) (v := ?_) (by simp only [List.getElem?_toArray, List.getElem?_cons_succ, List.getElem?_cons_zero]; rfl) (by kernel_rfl) (by kernel_rfl) (by kernel_rfl) (by kernel_rfl) (by kernel_rfl) (fun _ _ _ h => h) (Or.inl ⟨by rfl, ?_⟩) (by assumption) ?_
          rotate_left 1
          · (intro w' hSw; go_simp; try with_reducible rfl)
          try simp only [Act.put, List.setIfInBounds_toArray, List.set_cons_zero, List.set_cons_succ]
          refine wpAnyW_two (i := 6) (i2 := 16) (by kernel_rfl) (by simp only [List.getElem?_toArray, List.getElem?_cons_succ, List.getElem?_cons_zero]; rfl) (by simp only [List.getElem?_toArray, List.getElem?_cons_succ, List.getElem?_cons_zero]; rfl) (fun K hK => ?_) (fun K hK => ?_)
          · rw [if_pos (by rfl)]
            go_simp
            refine (HPK2.out _).mono ?_
            rintro _ u3 ⟨rfl, h3⟩
            obtain rfl := h3.symm
            go_wp2_with fail
            refine hK.out _ _ hHeld (fun hHeld => ?_)
            clear hK K
            try simp only [Act.put, List.setIfInBounds_toArray, List.set_cons_zero, List.set_cons_succ]
            refine wpAnyW_take (i := 7) (v := ?_) (by simp only [List.getElem?_toArray, List.getElem?_cons_succ, List.getElem?_cons_zero]; rfl) (by kernel_rfl) (by kernel_rfl) (by kernel_rfl) (by kernel_rfl) (by kernel_rfl) (fun _ _ _ h => h) (Or.inl ⟨by rfl, ?_⟩) (by assumption) ?_
            rotate_left 1
            · (intro w' hSw; go_simp; try with_reducible rfl)
            try simp only [Act.put, List.setIfInBounds_toArray, List.set_cons_zero, List.set_cons_succ]
            refine wpAnyW_take (i := 10) (v := ?_) (by simp only [List.getElem?_toArray, List.getElem?_cons_succ, List.getElem?_cons_zero]; rfl) (by kernel_rfl) (by kernel_rfl) (by kernel_rfl) (by kernel_rfl) (by kernel_rfl) (fun _ _ _ h => h) (Or.inl ⟨by rfl, ?_⟩) (by assumption) ?_
            rotate_left 1
            · (intro w' hSw; go_simp; try with_reducible rfl)
            try simp only [Act.put, List.setIfInBounds_toArray, List.set_cons_zero, List.set_cons_succ]
            refine wpAnyW_two (i := 11) (i2 := 16) (by kernel_rfl) (by simp only [List.getElem?_toArray, List.getElem?_cons_succ, List.getElem?_cons_zero]; rfl) (by simp only [List.getElem?_toArray, List.getElem?_cons_succ, List.getElem?_cons_zero]; rfl) (fun K hK => ?_) (fun K hK => ?_)
            · rw [if_pos (by rfl)]
              go_simp
              refine (HPU.out _ _ _ (HN.out.below hHeld) (HWT.out.below hHeld)).mono ?_
              rintro _ u5 ⟨A1, c1, A2, c2, A3, c3, rfl, r1, r2, r3, o1, o2, o3, hb⟩
              have HS : (fun V => Below wr.heap.size wr V) _ := hHeld.trans (hb.mono hHeld.size)
              have N1 := Lib.hid (o1 gq (Nat.lt_of_lt_of_le hgq hHeld.size))
              have N2 := Lib.hid (o2 gq (Nat.lt_of_lt_of_le hgq hHeld.size))
              have N3 := Lib.hid (o3 gq (Nat.lt_of_lt_of_le hgq hHeld.size))
              have R1 := Lib.hid r1
              have R2 := Lib.hid r2
              have R3 := Lib.hid r3
              clear hHeld r1 r2 r3 o1 o2 o3 hb
              go_wp2_with fail
              refine hK.out _ _ HS (fun hHeld => ?_)
              clear hK K HS
              try simp only [Act.put, List.setIfInBounds_toArray, List.set_cons_zero, List.set_cons_succ]
              refine wpAnyW_take (i := 12) (v := ?_) (by simp only [List.getElem?_toArray, List.getElem?_cons_succ, List.getElem?_cons_zero]; rfl) (by kernel_rfl) (by kernel_rfl) (by kernel_rfl) (by kernel_rfl) (by kernel_rfl) (fun _ _ _ h => h) (Or.inl ⟨by rfl, ?_⟩) (by assumption) ?_
              rotate_left 1
              · (intro w' hSw; go_simp; try with_reducible rfl)
              try simp only [Act.put, List.setIfInBounds_toArray, List.set_cons_zero, List.set_cons_succ]
              refine wpAnyW_take (i := 13) (v := ?_) (by simp only [List.getElem?_toArray, List.getElem?_cons_succ, List.getElem?_cons_zero]; rfl) (by kernel_rfl) (by kernel_rfl) (by kernel_rfl) (by kernel_rfl) (by kernel_rfl) (fun _ _ _ h => h) (Or.inl ⟨by rfl, ?_⟩) (by assumption) ?_
              rotate_left 1
              · (intro w' hSw; go_simp; try with_reducible rfl)
              try simp only [Act.put, List.setIfInBounds_toArray, List.set_cons_zero, List.set_cons_succ]
              refine wpAnyW_take (i := 14) (v := ?_) (by simp only [List.getElem?_toArray, List.getElem?_cons_succ, List.getElem?_cons_zero]; rfl) (by kernel_rfl) (by kernel_rfl) (by kernel_rfl) (by kernel_rfl) (by kernel_rfl) (fun _ _ _ h => h) (Or.inl ⟨by rfl, ?_⟩) (by assumption) ?_
              rotate_left 1
              · (intro w' hSw; go_simp; try with_reducible rfl)
              try simp only [Act.put, List.setIfInBounds_toArray, List.set_cons_zero, List.set_cons_succ]
              refine wpAnyW_take (i := 15) (v := ?_) (by simp only [List.getElem?_toArray, List.getElem?_cons_succ, List.getElem?_cons_zero]; rfl) (by kernel_rfl) (by kernel_rfl) (by kernel_rfl) (by kernel_rfl) (by kernel_rfl) (fun _ _ _ h => h) (Or.inl ⟨by rfl, ?_⟩) (by assumption) ?_
              rotate_left 1
              · (intro w' hSw; go_simp; try with_reducible rfl)
              try simp only [Act.put, List.setIfInBounds_toArray, List.set_cons_zero, List.set_cons_succ]
              refine wpAnyW_held (i := 16) (by kernel_rfl) (by simp only [List.getElem?_toArray, List.getElem?_cons_succ, List.getElem?_cons_zero]; rfl) (fun K hK => ?_)
              rw [if_pos (by rfl)]
              obtain ⟨v8, hv8, HX, HB8, hs8⟩ := one_open u5 27 #[.slice none 0 0, .slice none 0 0]
              obtain ⟨ga, hga0⟩ : ∃ g, u5.heap.size = g := ⟨_, rfl⟩
              rw [hga0] at HX
              have hga : wr.heap.size ≤ ga := by rw [← hga0]; exact hHeld.size
              have HS : (fun V => Below wr.heap.size wr V) _ := hHeld.trans (HB8.out.mono hHeld.size)
              clear hHeld hs8
              go_simp
              clear hv8
              refine hK.out _ _ HS (fun hHeld => ?_)
              clear hK K HS
              try simp only [Act.put, List.setIfInBounds_toArray, List.set_cons_zero, List.set_cons_succ]
              refine wpAnyW_held (i := 17) (by kernel_rfl) (by simp only [List.getElem?_toArray, List.getElem?_cons_succ, List.getElem?_cons_zero]; rfl) (fun K hK => ?_)
              rw [if_pos (by rfl)]
              refine wpB (ty := 27) #[.slice A1 nn.length c1, .slice A2 ww.length c2] rfl rfl rfl HX.out infoQ rfl (cellsQ_one _ _ _ _ _ _) ?_
              intro y9 ht hg
              have HS : (fun V => Below wr.heap.size wr V) _ := below_of_grown1 hHeld hg hHeld.size hga
              have hb9 := below_of_grown1 HB8.out hg HB8.out.size (Nat.le_of_eq hga0)
              replace R1 := Lib.hid (R1.out.below hb9)
              replace R2 := Lib.hid (R2.out.below hb9)
              replace R3 := Lib.hid (R3.out.below hb9)
              replace HX := Lib.hid ht
              clear ht hg hHeld
              refine hK.out _ _ HS (fun hHeld => ?_)
              clear hK K HS
              try simp only [Act.put, List.setIfInBounds_toArray, List.set_cons_zero, List.set_cons_succ]
              refine wpAnyW_held (i := 18) (by kernel_rfl) (by simp only [List.getElem?_toArray, List.getElem?_cons_succ, List.getElem?_cons_zero]; rfl) (fun K hK => ?_)
              rw [if_pos (by rfl)]
              go_simp
              refine hK.out _ _ hHeld (fun hHeld => ?_)
              clear hK K
              try simp only [Act.put, List.setIfInBounds_toArray, List.set_cons_zero, List.set_cons_succ]
              refine wpAnyW_freed (i := 19) (by kernel_rfl) (by kernel_rfl) (by simp only [List.getElem?_toArray, List.getElem?_cons_succ, List.getElem?_cons_zero]; rfl) (fun K hK => ?_)
              rw [if_pos (by rfl)]
              go_simp
              have HE := Lib.hid hHeld
              refine hK.out _ _ ?_
              clear hK K hHeld
              try simp only [Act.put, List.setIfInBounds_toArray, List.set_cons_zero, List.set_cons_succ]
              refine wpAnyW_done (by kernel_rfl) ?_ _
              refine NoPanic.normal ?_
              go_wp2_with fail
              go_meet
              exact ⟨ga, A1, c1, A2, c2, A3, c3, rfl, rfl, rfl, Lib.hid ⟨HX.out, R1.out, R2.out, R3.out, N1.out, N2.out, N3.out, HE.out⟩⟩
            · rw [if_pos (by rfl)]
              obtain ⟨v8, hv8, HX, HB8, hs8⟩ := one_open wr.drew 27 #[.slice none 0 0, .slice none 0 0]
              obtain ⟨ga, hga0⟩ : ∃ g, wr.drew.heap.size = g := ⟨_, rfl⟩
              rw [hga0] at HX
              have hga : wr.heap.size ≤ ga := by rw [← hga0]; exact hHeld.size
              have HS : (fun V => Below wr.heap.size wr V) _ := hHeld.trans (HB8.out.mono hHeld.size)
              clear hHeld hs8
              go_simp
              clear hv8
              refine hK.out _ _ HS (fun hHeld => ?_)
              clear hK K HS
              try simp only [Act.put, List.setIfInBounds_toArray, List.set_cons_zero, List.set_cons_succ]
              refine wpAnyW_held (i := 11) (by kernel_rfl) (by simp only [List.getElem?_toArray, List.getElem?_cons_succ, List.getElem?_cons_zero]; rfl) (fun K hK => ?_)
              rw [if_pos (by rfl)]
              go_simp
              refine (HPU.out _ _ _ (HN.out.below hHeld) (HWT.out.below hHeld)).mono ?_
              rintro _ u5 ⟨A1, c1, A2, c2, A3, c3, rfl, r1, r2, r3, o1, o2, o3, hb⟩
              have HS : (fun V => Below wr.heap.size wr V) _ := hHeld.trans (hb.mono hHeld.size)
              have N1 := Lib.hid (o1 gq (Nat.lt_of_lt_of_le hgq hHeld.size))
              have N2 := Lib.hid (o2 gq (Nat.lt_of_lt_of_le hgq hHeld.size))
              have N3 := Lib.hid (o3 gq (Nat.lt_of_lt_of_le hgq hHeld.size))
              have R1 := Lib.hid r1
              have R2 := Lib.hid r2
              have R3 := Lib.hid r3
              have G1 := Lib.hid (o1 ga HX.out.lt)
              have G2 := Lib.hid (o2 ga HX.out.lt)
              have G3 := Lib.hid (o3 ga HX.out.lt)
              replace HX := Lib.hid (HX.out.later hb)
              clear hHeld r1 r2 r3 o1 o2 o3 hb
              go_wp2_with fail
              refine hK.out _ _ HS (fun hHeld => ?_)
              clear hK K HS
              try simp only [Act.put, List.setIfInBounds_toArray, List.set_cons_zero, List.set_cons_succ]
              refine wpAnyW_take (i := 12) (v := ?_) (by simp only [List.getElem?_toArray, List.getElem?_cons_succ, List.getElem?_cons_zero]; rfl) (by kernel_rfl) (by kernel_rfl) (by kernel_rfl) (by kernel_rfl) (by kernel_rfl) (fun _ _ _ h => h) (Or.inl ⟨by rfl, ?_⟩) (by assumption) ?_
              rotate_left 1
              · (intro w' hSw; go_simp; try with_reducible rfl)
              try simp only [Act.put, List.setIfInBounds_toArray, List.set_cons_zero, List.set_cons_succ]
              refine wpAnyW_take (i := 13) (v := ?_) (by simp only [List.getElem?_toArray, List.getElem?_cons_succ, List.getElem?_cons_zero]; rfl) (by kernel_rfl) (by kernel_rfl) (by kernel_rfl) (by kernel_rfl) (by kernel_rfl) (fun _ _ _ h => h) (Or.inl ⟨by rfl, ?_⟩) (by assumption) ?_
              rotate_left 1
              · (intro w' hSw; go_simp; try with_reducible rfl)
              try simp only [Act.put, List.setIfInBounds_toArray, List.set_cons_zero, List.set_cons_succ]
              refine wpAnyW_take (i := 14) (v := ?_) (by simp only [List.getElem?_toArray, List.getElem?_cons_succ, List.getElem?_cons_zero]; rfl) (by kernel_rfl) (by kernel_rfl) (by kernel_rfl) (by kernel_rfl) (by kernel_rfl) (fun _ _ _ h => h) (Or.inl ⟨by rfl, ?_⟩) (by assumption) ?_
              rotate_left 1
              · (intro w' hSw; go_simp; try with_reducible rfl)
              try simp only [Act.put, List.setIfInBounds_toArray, List.set_cons_zero, List.set_cons_succ]
              refine wpAnyW_take (i := 15) (v := ?_) (by simp only [List.getElem?_toArray, List.getElem?_cons_succ, List.getElem?_cons_zero]; rfl) (by kernel_rfl) (by kernel_rfl) (by kernel_rfl) (by kernel_rfl) (by kernel_rfl) (fun _ _ _ h => h) (Or.inl ⟨by rfl, ?_⟩) (by assumption) ?_
              rotate_left 1
              · (intro w' hSw; go_simp; try with_reducible rfl)
              try simp only [Act.put, List.setIfInBounds_toArray, List.set_cons_zero, List.set_cons_succ]
              refine wpAnyW_held (i := 17) (by kernel_rfl) (by simp only [List.getElem?_toArray, List.getElem?_cons_succ, List.getElem?_cons_zero]; rfl) (fun K hK => ?_)
              rw [if_pos (by rfl)]
              refine wpB (ty := 27) #[.slice A1 nn.length c1, .slice A2 ww.length c2] rfl rfl rfl HX.out infoQ rfl (cellsQ_one _ _ _ _ _ _) ?_
              intro y9 ht hg
              have HS : (fun V => Below wr.heap.size wr V) _ := below_of_grown1 hHeld hg hHeld.size hga
              replace R1 := Lib.hid (R1.out.kept G1.out hg)
              replace R2 := Lib.hid (R2.out.kept G2.out hg)
              replace R3 := Lib.hid (R3.out.kept G3.out hg)
              replace HX := Lib.hid ht
              clear ht hg hHeld
              refine hK.out _ _ HS (fun hHeld => ?_)
              clear hK K HS
              try simp only [Act.put, List.setIfInBounds_toArray, List.set_cons_zero, List.set_cons_succ]
              refine wpAnyW_held (i := 18) (by kernel_rfl) (by simp only [List.getElem?_toArray, List.getElem?_cons_succ, List.getElem?_cons_zero]; rfl) (fun K hK => ?_)
              rw [if_pos (by rfl)]
              go_simp
              refine hK.out _ _ hHeld (fun hHeld => ?_)
              clear hK K
              try simp only [Act.put, List.setIfInBounds_toArray, List.set_cons_zero, List.set_cons_succ]
              refine wpAnyW_freed (i := 19) (by kernel_rfl) (by kernel_rfl) (by simp only [List.getElem?_toArray, List.getElem?_cons_succ, List.getElem?_cons_zero]; rfl) (fun K hK => ?_)
              rw [if_pos (by rfl)]
              go_simp
              have HE := Lib.hid hHeld
              refine hK.out _ _ ?_
              clear hK K hHeld
              try simp only [Act.put, List.setIfInBounds_toArray, List.set_cons_zero, List.set_cons_succ]
              refine wpAnyW_done (by kernel_rfl) ?_ _
              refine NoPanic.normal ?_
              go_wp2_with fail
              go_meet
              exact ⟨ga, A1, c1, A2, c2, A3, c3, rfl, rfl, rfl, Lib.hid ⟨HX.out, R1.out, R2.out, R3.out, N1.out, N2.out, N3.out, HE.out⟩⟩
          · rw [if_pos (by rfl)]
            obtain ⟨v8, hv8, HX, HB8, hs8⟩ := one_open wr.drew 27 #[.slice none 0 0, .slice none 0 0]
            obtain ⟨ga, hga0⟩ : ∃ g, wr.drew.heap.size = g := ⟨_, rfl⟩
            rw [hga0] at HX
            have hga : wr.heap.size ≤ ga := by rw [← hga0]; exact hHeld.size
            have HS : (fun V => Below wr.heap.size wr V) _ := hHeld.trans (HB8.out.mono hHeld.size)
            clear hHeld hs8
            go_simp
            clear hv8
            refine hK.out _ _ HS (fun hHeld => ?_)
            clear hK K HS
            try simp only [Act.put, List.setIfInBounds_toArray, List.set_cons_zero, List.set_cons_succ]
            refine wpAnyW_held (i := 6) (by kernel_rfl) (by simp only [List.getElem?_toArray, List.getElem?_cons_succ, List.getElem?_cons_zero]; rfl) (fun K hK => ?_)
            rw [if_pos (by rfl)]
            go_simp
            refine (HPK2.out _).mono ?_
            rintro _ u3 ⟨rfl, h3⟩
            obtain rfl := h3.symm
            go_wp2_with fail
            refine hK.out _ _ hHeld (fun hHeld => ?_)
            clear hK K
            try simp only [Act.put, List.setIfInBounds_toArray, List.set_cons_zero, List.set_cons_succ]
            refine wpAnyW_take (i := 7) (v := ?_) (by simp only [List.getElem?_toArray, List.getElem?_cons_succ, List.getElem?_cons_zero]; rfl) (by kernel_rfl) (by kernel_rfl) (by kernel_rfl) (by kernel_rfl) (by kernel_rfl) (fun _ _ _ h => h) (Or.inl ⟨by rfl, ?_⟩) (by assumption) ?_
            rotate_left 1
            · (intro w' hSw; go_simp; try with_reducible rfl)
            try simp only [Act.put, List.setIfInBounds_toArray, List.set_cons_zero, List.set_cons_succ]
            refine wpAnyW_take (i := 10) (v := ?_) (by simp only [List.getElem?_toArray, List.getElem?_cons_succ, List.getElem?_cons_zero]; rfl) (by kernel_rfl) (by kernel_rfl) (by kernel_rfl) (by kernel_rfl) (by kernel_rfl) (fun _ _ _ h => h) (Or.inl ⟨by rfl, ?_⟩) (by assumption) ?_
            rotate_left 1
            · (intro w' hSw; go_simp; try with_reducible rfl)
            try simp only [Act.put, List.setIfInBounds_toArray, List.set_cons_zero, List.set_cons_succ]
            refine wpAnyW_held (i := 11) (by kernel_rfl) (by simp only [List.getElem?_toArray, List.getElem?_cons_succ, List.getElem?_cons_zero]; rfl) (fun K hK => ?_)
            rw [if_pos (by rfl)]
            go_simp
            refine (HPU.out _ _ _ (HN.out.below hHeld) (HWT.out.below hHeld)).mono ?_
            rintro _ u5 ⟨A1, c1, A2, c2, A3, c3, rfl, r1, r2, r3, o1, o2, o3, hb⟩
            have HS : (fun V => Below wr.heap.size wr V) _ := hHeld.trans (hb.mono hHeld.size)
            have N1 := Lib.hid (o1 gq (Nat.lt_of_lt_of_le hgq hHeld.size))
            have N2 := Lib.hid (o2 gq (Nat.lt_of_lt_of_le hgq hHeld.size))
            have N3 := Lib.hid (o3 gq (Nat.lt_of_lt_of_le hgq hHeld.size))
            have R1 := Lib.hid r1
            have R2 := Lib.hid r2
            have R3 := Lib.hid r3
            have G1 := Lib.hid (o1 ga HX.out.lt)
            have G2 := Lib.hid (o2 ga HX.out.lt)
            have G3 := Lib.hid (o3 ga HX.out.lt)
            replace HX := Lib.hid (HX.out.later hb)
            clear hHeld r1 r2 r3 o1 o2 o3 hb
            go_wp2_with fail
            refine hK.out _ _ HS (fun hHeld => ?_)
            clear hK K HS
            try simp only [Act.put, List.setIfInBounds_toArray, List.set_cons_zero, List.set_cons_succ]
            refine wpAnyW_take (i := 12) (v := ?_) (by simp only [List.getElem?_toArray, List.getElem?_cons_succ, List.getElem?_cons_zero]; rfl) (by kernel_rfl) (by kernel_rfl) (by kernel_rfl) (by kernel_rfl) (by kernel_rfl) (fun _ _ _ h => h) (Or.inl ⟨by rfl, ?_⟩) (by assumption) ?_
            rotate_left 1
            · (intro w' hSw; go_simp; try with_reducible rfl)
            try simp only [Act.put, List.setIfInBounds_toArray, List.set_cons_zero, List.set_cons_succ]
            refine wpAnyW_take (i := 13) (v := ?_) (by simp only [List.getElem?_toArray, List.getElem?_cons_succ, List.getElem?_cons_zero]; rfl) (by kernel_rfl) (by kernel_rfl) (by kernel_rfl) (by kernel_rfl) (by kernel_rfl) (fun _ _ _ h => h) (Or.inl ⟨by rfl, ?_⟩) (by assumption) ?_
            rotate_left 1
            · (intro w' hSw; go_simp; try with_reducible rfl)
            try simp only [Act.put, List.setIfInBounds_toArray, List.set_cons_zero, List.set_cons_succ]
            refine wpAnyW_take (i := 14) (v := ?_) (by simp only [List.getElem?_toArray, List.getElem?_cons_succ, List.getElem?_cons_zero]; rfl) (by kernel_rfl) (by kernel_rfl) (by kernel_rfl) (by kernel_rfl) (by kernel_rfl) (fun _ _ _ h => h) (Or.inl ⟨by rfl, ?_⟩) (by assumption) ?_
            rotate_left 1
            · (intro w' hSw; go_simp; try with_reducible rfl)
            try simp only [Act.put, List.setIfInBounds_toArray, List.set_cons_zero, List.set_cons_succ]
            refine wpAnyW_take (i := 15) (v := ?_) (by simp only [List.getElem?_toArray, List.getElem?_cons_succ, List.getElem?_cons_zero]; rfl) (by kernel_rfl) (by kernel_rfl) (by kernel_rfl) (by kernel_rfl) (by kernel_rfl) (fun _ _ _ h => h) (Or.inl ⟨by rfl, ?_⟩) (by assumption) ?_
            rotate_left 1
            · (intro w' hSw; go_simp; try with_reducible rfl)
            try simp only [Act.put, List.setIfInBounds_toArray, List.set_cons_zero, List.set_cons_succ]
            refine wpAnyW_held (i := 17) (by kernel_rfl) (by simp only [List.getElem?_toArray, List.getElem?_cons_succ, List.getElem?_cons_zero]; rfl) (fun K hK => ?_)
            rw [if_pos (by rfl)]
            refine wpB (ty := 27) #[.slice A1 nn.length c1, .slice A2 ww.length c2] rfl rfl rfl HX.out infoQ rfl (cellsQ_one _ _ _ _ _ _) ?_
            intro y9 ht hg
            have HS : (fun V => Below wr.heap.size wr V) _ := below_of_grown1 hHeld hg hHeld.size hga
            replace R1 := Lib.hid (R1.out.kept G1.out hg)
            replace R2 := Lib.hid (R2.out.kept G2.out hg)
            replace R3 := Lib.hid (R3.out.kept G3.out hg)
            replace HX := Lib.hid ht
            clear ht hg hHeld
            refine hK.out _ _ HS (fun hHeld => ?_)
            clear hK K HS
            try simp only [Act.put, List.setIfInBounds_toArray, List.set_cons_zero, List.set_cons_succ]
            refine wpAnyW_held (i := 18) (by kernel_rfl) (by simp only [List.getElem?_toArray, List.getElem?_cons_succ, List.getElem?_cons_zero]; rfl) (fun K hK => ?_)
            rw [if_pos (by rfl)]
            go_simp
            refine hK.out _ _ hHeld (fun hHeld => ?_)
            clear hK K
            try simp only [Act.put, List.setIfInBounds_toArray, List.set_cons_zero, List.set_cons_succ]
            refine wpAnyW_freed (i := 19) (by kernel_rfl) (by kernel_rfl) (by simp only [List.getElem?_toArray, List.getElem?_cons_succ, List.getElem?_cons_zero]; rfl) (fun K hK => ?_)
            rw [if_pos (by rfl)]
            go_simp
            have HE := Lib.hid hHeld
            refine hK.out _ _ ?_
            clear hK K hHeld
            try simp only [Act.put, List.setIfInBounds_toArray, List.set_cons_zero, List.set_cons_succ]
            refine wpAnyW_done (by kernel_rfl) ?_ _
            refine NoPanic.normal ?_
            go_wp2_with fail
            go_meet
            exact ⟨ga, A1, c1, A2, c2, A3, c3, rfl, rfl, rfl, Lib.hid ⟨HX.out, R1.out, R2.out, R3.out, N1.out, N2.out, N3.out, HE.out⟩⟩
        case rest =>
          obtain ⟨ga, A1, c1, A2, c2, A3, c3, rfl, rfl, rfl, HH⟩ := hcut
          obtain ⟨hx, r1, r2, r3, n1, n2, n3, hbb⟩ := HH.out
          have HX := Lib.hid hx
          have R1 := Lib.hid r1
          have R2 := Lib.hid r2
          have N1 := Lib.hid n1
          have N2 := Lib.hid n2
          replace HQ := Lib.hid (HQ.out.later hbb)
          replace HN := Lib.hid (HN.out.below hbb)
          replace HWT := Lib.hid (HWT.out.below hbb)
          replace HB := Lib.hid (HB.out.trans (hbb.mono HB.out.size))
          have hwgq := HGW.out
          clear hx r1 r2 r3 n1 n2 n3 hbb HH hgq hbw x1 z1 z2 z3 z4 z5 z6 z7 hf2
          by_cases he : ee = 0
          · subst he
            have hk1 := HP0.out rfl
            have hk2 := HP1.out rfl
            have HK := Lib.hid (show ww.length ≤ j + 1 ∧ OkS nn ww from ⟨by have := HIO.out.1; omega, hk1⟩)
            clear hk1 hk2
            go_wp2_with (first
              | ((with_reducible refine gate9 ?_); refine ldB (ty := 27) (cs := #[.slice A1 nn.length c1, .slice A2 ww.length c2]) rfl rfl rfl HX.out Try.underlying27 rfl infoQ ?_)
              | ((with_reducible refine gate9 ?_); refine stB (ty := 27) #[.slice A1 nn.length c1, .slice A2 ww.length c2] rfl rfl rfl rfl HQ.out infoQ rfl (cellsQ_one _ _ _ _ _ _) ?_; intro w9 ht hg; replace R1 := Lib.hid (R1.out.kept N1.out hg); replace R2 := Lib.hid (R2.out.kept N2.out hg); replace HB := Lib.hid (below_of_grown1 HB.out hg HB.out.size hwgq); replace HQ := Lib.hid ht; clear ht hg))
            go_roundw
            case rel => exact ⟨j + 1, nn, ww, by omega, by go_num, HK, Lib.hid ⟨A1, c1, A2, c2, HQ.out, R1.out, R2.out⟩, HB⟩
            case measure => simp [intOf]; omega
          · have qe : (ee == 0) = false := by simpa using he
            clear he
            go_wp2_with fail
            go_roundw
            case rel => exact ⟨j + 1, nx, wt, by omega, by go_num, Lib.hid ⟨by have := HIO.out.1; omega, HIO.out.2⟩, Lib.hid ⟨B1, d1, B2, d2, HQ.out, HN.out, HWT.out⟩, HB⟩
            case measure => simp [intOf]; omega
      · obtain rfl : j = l.length := by omega
        have hok := HIO.out.2
        have hwl := HIO.out.1
        have hlen := hok.len
        obtain ⟨px, hpx, hp12⟩ := pick16 n 12 (by omega) (by omega)
        have HPN := Lib.hid (fun V => pick_any n 12 HFN.out (by omega) (by omega) V)
        rw [hpx] at HPN
        have HSR := Lib.hid (hok.skip (by omega) px.toNat (by omega))
        have HSK := Lib.hid (fun V a b ha hb => skip_any nx wt 0 (up (atN nx 0) px.toNat) (by omega) (by omega) a b V ha hb hok.ok)
        obtain ⟨bn, on, cn, en1, hbn, hen⟩ := cell_at HN.out (st := 0) (by omega)
        cases en1
        have hen1 := hen
        obtain ⟨bn', on', cn', en2, hbn', hen'⟩ := cell_at HN.out (st := 1) (by omega)
        cases en2
        have HE0 := Lib.hid hen1
        have HE1 := Lib.hid hen'
        have HLN : Hid (nx.length = 2) := Lib.hid hlen
        have HUP : Hid (IntKind.u16.wrap (((atN nx 0).toNat : Int) + (px.toNat : Int)) = ((up (atN nx 0) px.toNat).toNat : Int)) := Lib.hid (up_wrap _ _)
        have HWW := Lib.hid (fun s a b V hn hb => owaits_any wt (by omega) s a b hn V hb)
        have HWB := Lib.hid (show wt.length ≤ 60 by omega)
        clear hpx hp12 hok hwl hen hen1 hen' hlen hbn'
        rw [HLN.out] at HQ HN
        generalize up (atN nx 0) px.toNat = at' at *
        generalize skipN nx wt 0 at' = nn at *
        generalize skipW nx wt 0 at' = ww at *
        generalize skipT nx wt 0 at' = tt at *
        rw [HSR.out.e0] at HSK
        unfold PutR at HSK
        rw [HSR.out.len] at HSK
        generalize hn0 : atN nx 0 = n0 at *
        generalize hn1 : atN nx 1 = n1 at *
        have HNN1 := Lib.hid hn1
        clear hn0 hn1
        have hn2 : (nx.length : Int) = 2 := by rw [HLN.out]; rfl
        go_wp2_with fail
        generalize wr = wy at *
        have HS : (fun V => Below wy.heap.size wy V) wy.drew := below_drawn (Below.refl _ _)
        refine wp_region_noPanic ?_
        refine wp_region_waits (S := (fun V => Below wy.heap.size wy V)) [8] (by kernel_rfl) HS (fun hHeld => ?_)
        clear HS
        refine wpAnyW_take (i := 0) (v := ?_) (by simp only [List.getElem?_toArray, List.getElem?_cons_zero]; rfl) (by kernel_rfl) (by kernel_rfl) (by kernel_rfl) (by kernel_rfl) (by kernel_rfl) (fun _ _ _ h => h) (Or.inl ⟨by rfl, ?_⟩) (by assumption) ?_
        rotate_left 1
        · (intro w' hSw; go_simp; try with_reducible rfl)
        try simp only [Act.put, List.setIfInBounds_toArray, List.set_cons_zero, List.set_cons_succ]
        refine wpAnyW_take (i := 1) (v := ?_) (by simp only [List.getElem?_toArray, List.getElem?_cons_succ, List.getElem?_cons_zero]; rfl) (by kernel_rfl) (by kernel_rfl) (by kernel_rfl) (by kernel_rfl) (by kernel_rfl) (fun _ _ _ h => h) (Or.inl ⟨by rfl, ?_⟩) (by assumption) ?_
        rotate_left 1
        · (intro w' hSw; have hq := (HQ.out.later hSw).cell 0 (.slice (some ⟨bn, on, none⟩) 2 d1) rfl; go_simp; try with_reducible rfl)
        try simp only [Act.put, List.setIfInBounds_toArray, List.set_cons_zero, List.set_cons_succ]
        refine wpAnyW_take (i := 2) (v := ?_) (by simp only [List.getElem?_toArray, List.getElem?_cons_succ, List.getElem?_cons_zero]; rfl) (by kernel_rfl) (by kernel_rfl) (by kernel_rfl) (by kernel_rfl) (by kernel_rfl) (fun _ _ _ h => h) (Or.inl ⟨by rfl, ?_⟩) (by assumption) ?_
        rotate_left 1
        · (intro w' hSw; go_simp; try with_reducible rfl)
        try simp only [Act.put, List.setIfInBounds_toArray, List.set_cons_zero, List.set_cons_succ]
        refine wpAnyW_take (i := 3) (v := ?_) (by simp only [List.getElem?_toArray, List.getElem?_cons_succ, List.getElem?_cons_zero]; rfl) (by kernel_rfl) (by kernel_rfl) (by kernel_rfl) (by kernel_rfl) (by kernel_rfl) (fun _ _ _ h => h) (Or.inl ⟨by rfl, ?_⟩) (by assumption) ?_
        rotate_left 1
        · (intro w' hSw; have hq := (hSw.cell (p := ⟨bn, on, none⟩) hbn).trans HE0.out; go_simp; try with_reducible rfl)
        try simp only [Act.put, List.setIfInBounds_toArray, List.set_cons_zero, List.set_cons_succ]
        refine wpAnyW_take (i := 4) (v := ?_) (by simp only [List.getElem?_toArray, List.getElem?_cons_succ, List.getElem?_cons_zero]; rfl) (by kernel_rfl) (by kernel_rfl) (by kernel_rfl) (by kernel_rfl) (by kernel_rfl) (fun _ _ _ h => h) (Or.inl ⟨by rfl, ?_⟩) (by assumption) ?_
        rotate_left 1
        · (intro w' hSw; go_simp; try with_reducible rfl)
        try simp only [Act.put, List.setIfInBounds_toArray, List.set_cons_zero, List.set_cons_succ]
        refine wpAnyW_held (i := 5) (by kernel_rfl) (by simp only [List.getElem?_toArray, List.getElem?_cons_succ, List.getElem?_cons_zero]; rfl) (fun K hK => ?_)
        rw [if_pos (by rfl)]
        go_simp
        refine (HPN.out _).mono ?_
        rintro _ u3 ⟨rfl, h3⟩
        obtain rfl := h3.symm
        go_wp2_with fail
        refine hK.out _ _ hHeld (fun hHeld => ?_)
        clear hK K
        try simp only [Act.put, List.setIfInBounds_toArray, List.set_cons_zero, List.set_cons_succ]
        have hup := HUP.out
        have hw16 := wrap16 px
        refine wpAnyW_take (i := 6) (v := ?_) (by simp only [List.getElem?_toArray, List.getElem?_cons_succ, List.getElem?_cons_zero]; rfl) (by kernel_rfl) (by kernel_rfl) (by kernel_rfl) (by kernel_rfl) (by kernel_rfl) (fun _ _ _ h => h) (Or.inl ⟨by rfl, ?_⟩) (by assumption) ?_
        rotate_left 1
        · (intro w' hSw; go_simp; try with_reducible rfl)
        try simp only [Act.put, List.setIfInBounds_toArray, List.set_cons_zero, List.set_cons_succ]
        refine wpAnyW_take (i := 7) (v := ?_) (by simp only [List.getElem?_toArray, List.getElem?_cons_succ, List.getElem?_cons_zero]; rfl) (by kernel_rfl) (by kernel_rfl) (by kernel_rfl) (by kernel_rfl) (by kernel_rfl) (fun _ _ _ h => h) (Or.inl ⟨by rfl, ?_⟩) (by assumption) ?_
        rotate_left 1
        · (intro w' hSw; go_simp; try with_reducible rfl)
        try simp only [Act.put, List.setIfInBounds_toArray, List.set_cons_zero, List.set_cons_succ]
        refine wpAnyW_freed (i := 8) (by kernel_rfl) (by kernel_rfl) (by simp only [List.getElem?_toArray, List.getElem?_cons_succ, List.getElem?_cons_zero]; rfl) (fun K hK => ?_)
        rw [if_pos (by rfl)]
        go_simp
        replace HQ := Lib.hid (HQ.out.later hHeld)
        replace HN := Lib.hid (HN.out.below hHeld)
        replace HWT := Lib.hid (HWT.out.below hHeld)
        replace HE1 := Lib.hid ((hHeld.cell (p := ⟨bn, on + 1, none⟩) hbn).trans HE1.out)
        replace HB := Lib.hid (HB.out.trans (hHeld.mono HB.out.size))
        have hbn2 := Nat.lt_of_lt_of_le hbn hHeld.size
        refine hK.out _ _ ?_
        clear hK K hHeld hup hw16
        try simp only [Act.put, List.setIfInBounds_toArray, List.set_cons_zero, List.set_cons_succ]
        refine wpAnyW_done (by kernel_rfl) ?_ _
        refine NoPanic.normal ?_
        go_wp2_with (first
      | ((with_reducible refine gate9 ?_); refine ldB (ty := 27) (cs := #[.slice (some ⟨bn, on, none⟩) 2 d1, .slice B2 wt.length d2]) rfl rfl rfl HQ.out Try.underlying27 rfl infoQ ?_)
      | (go_at_call 16; (with_reducible refine (HSK.out _ _ _ HN.out HWT.out).mono ?_); rintro e w5 ⟨A1, c1', A2, c2', A3, c3', rfl, r1, r2, r3, o1, o2, o3, hb⟩; have R1 := Lib.hid r1; have R2 := Lib.hid r2; have R3 := Lib.hid r3; replace HQ := Lib.hid (HQ.out.later hb); replace HWT := Lib.hid (HWT.out.below hb); replace HE1 := Lib.hid ((hb.cell (p := ⟨bn, on + 1, none⟩) hbn2).trans HE1.out); have hbn3 := Nat.lt_of_lt_of_le hbn2 hb.size; replace HB := Lib.hid (HB.out.trans (hb.mono HB.out.size)); clear r1 r2 r3 o1 o2 o3 hb; obtain ⟨W6, hW6, HZ6, HC6, hs6⟩ := one_open w5 27 #[.slice none 0 0, .slice none 0 0]; obtain ⟨g6, hg6⟩ : ∃ g, w5.heap.size = g := ⟨_, rfl⟩; rw [hg6] at HZ6; clear hs6)
      | ((with_reducible refine gate9 ?_); refine stB (ty := 27) #[.slice A1 2 c1', .slice A2 ww.length c2'] rfl rfl rfl rfl HZ6.out infoQ rfl (cellsQ_one _ _ _ _ _ _) ?_; intro v7 ht hg; have hb := below_of_grown1 HC6.out hg HC6.out.size (Nat.le_of_eq hg6); have HX := Lib.hid ht; replace HQ := Lib.hid (HQ.out.later hb); replace HWT := Lib.hid (HWT.out.below hb); replace R1 := Lib.hid (R1.out.below hb); replace R2 := Lib.hid (R2.out.below hb); replace R3 := Lib.hid (R3.out.below hb); replace HE1 := Lib.hid ((hb.cell (p := ⟨bn, on + 1, none⟩) hbn3).trans HE1.out); have hbn4 := Nat.lt_of_lt_of_le hbn3 hb.size; replace HB := Lib.hid (HB.out.trans (hb.mono HB.out.size)); clear ht hg hb HZ6 HC6))
        generalize v7 = wz at *
        obtain ⟨b2, o2, k2, e2, hb2, hc2⟩ := cell_at R1.out (st := 0) (by rw [HSR.out.len]; omega)
        rw [HSR.out.len] at e2
        cases e2
        obtain ⟨b2', o2', k2', e2', hb2', hc3⟩ := cell_at R1.out (st := 1) (by rw [HSR.out.len]; omega)
        rw [HSR.out.len] at e2'
        cases e2'
        rw [HSR.out.n0] at hc2
        rw [HSR.out.n1, HNN1.out] at hc3
        have HC2 := Lib.hid hc2
        have HC3 := Lib.hid hc3
        have HTL : Hid ((tt.length : Int) ≤ 1000) := Lib.hid (by have := HSR.out.tl; omega)
        have HWL : Hid (ww.length ≤ 60) := Lib.hid (by have := HSR.out.wl; have := HWB.out; omega)
        have HRW := Lib.hid (fun s a b V hn hb => owaits_any ww (by have := HWL.out; omega) s a b hn V hb)
        have HQ1 := Lib.hid (fun a b V hn hb => HWW.out 1 a b V hn hb)
        have HQ0 := Lib.hid (fun a b V hn hb => HWW.out 0 a b V hn hb)
        have HR1 := Lib.hid (fun a b V hn hb => HRW.out 1 a b V hn hb)
        have HR0 := Lib.hid (fun a b V hn hb => HRW.out 0 a b V hn hb)
        rw [HSR.out.w1] at HR1
        have HSUM := HSR.out.w0
        have hqw := waits_le wt 0
        generalize waitsN wt 1 = w1 at *
        generalize waitsN wt 0 = w0 at *
        generalize hwr0 : waitsN ww 0 = r0 at *
        have HSM : Hid (tt.length + r0 ≤ w0 ∧ w0 ≤ 60) := Lib.hid ⟨HSUM, by have := HWB.out; omega⟩
        have HTO := Lib.hid HSR.out.told
        have HLF := Lib.hid (fun (x : Mg) (hx : x ∈ ww) (hs : x.st = 0) => show ((up at' tt.length).toNat : Int) < (x.ss.toNat : Int) by have := HSR.out.left x hx hs; rw [HSR.out.n0] at this; omega)
        have z1 : IntKind.u16.wrap ((tt.length : Int)) = (tt.length : Int) := by have := HTL.out; show (tt.length : Int) % 65536 = _; omega
        have z2 : IntKind.u16.wrap ((at'.toNat : Int) + (tt.length : Int)) = ((up at' tt.length).toNat : Int) := up_sum _ _
        generalize up at' tt.length = x2 at *
        clear hc2 hc3 HWW HRW HSUM hqw hwr0 HSR hb2' hn2
        have HS : (fun V => Below wz.heap.size wz V) wz.drew := below_drawn (Below.refl _ _)
        refine wp_region_noPanic ?_
        refine wp_region_waits (S := (fun V => Below wz.heap.size wz V)) [] (by kernel_rfl) HS (fun hHeld => ?_)
        clear HS
        refine wpAnyW_take (i := 0) (v := ?_) (by simp only [List.getElem?_toArray, List.getElem?_cons_zero]; rfl) (by kernel_rfl) (by kernel_rfl) (by kernel_rfl) (by kernel_rfl) (by kernel_rfl) (fun _ _ _ h => h) (Or.inl ⟨by rfl, ?_⟩) (by assumption) ?_
        rotate_left 1
        · (intro w' hSw; go_simp; try with_reducible rfl)
        try simp only [Act.put, List.setIfInBounds_toArray, List.set_cons_zero, List.set_cons_succ]
        refine wpAnyW_take (i := 1) (v := ?_) (by simp only [List.getElem?_toArray, List.getElem?_cons_succ, List.getElem?_cons_zero]; rfl) (by kernel_rfl) (by kernel_rfl) (by kernel_rfl) (by kernel_rfl) (by kernel_rfl) (fun _ _ _ h => h) (Or.inl ⟨by rfl, ?_⟩) (by assumption) ?_
        rotate_left 1
        · (intro w' hSw; go_simp; try with_reducible rfl)
        try simp only [Act.put, List.setIfInBounds_toArray, List.set_cons_zero, List.set_cons_succ]
        refine wpAnyW_take (i := 2) (v := ?_) (by simp only [List.getElem?_toArray, List.getElem?_cons_succ, List.getElem?_cons_zero]; rfl) (by kernel_rfl) (by kernel_rfl) (by kernel_rfl) (by kernel_rfl) (by kernel_rfl) (fun _ _ _ h => h) (Or.inl ⟨by rfl, ?_⟩) (by assumption) ?_
        rotate_left 1
        · (intro w' hSw; go_simp; try with_reducible rfl)
        try simp only [Act.put, List.setIfInBounds_toArray, List.set_cons_zero, List.set_cons_succ]
        refine wpAnyW_take (i := 3) (v := ?_) (by simp only [List.getElem?_toArray, List.getElem?_cons_succ, List.getElem?_cons_zero]; rfl) (by kernel_rfl) (by kernel_rfl) (by kernel_rfl) (by kernel_rfl) (by kernel_rfl) (fun _ _ _ h => h) (Or.inl ⟨by rfl, ?_⟩) (by assumption) ?_
        rotate_left 1
        · (intro w' hSw; go_simp; try with_reducible rfl)
        try simp only [Act.put, List.setIfInBounds_toArray, List.set_cons_zero, List.set_cons_succ]
        refine wpAnyW_take (i := 4) (v := ?_) (by simp only [List.getElem?_toArray, List.getElem?_cons_succ, List.getElem?_cons_zero]; rfl) (by kernel_rfl) (by kernel_rfl) (by kernel_rfl) (by kernel_rfl) (by kernel_rfl) (fun _ _ _ h => h) (Or.inl ⟨by rfl, ?_⟩) (by assumption) ?_
        rotate_left 1
        · (intro w' hSw; have hq := (HX.out.later hSw).cell 0 (.slice (some ⟨b2, o2, none⟩) 2 c1') rfl; go_simp; try with_reducible rfl)
        try simp only [Act.put, List.setIfInBounds_toArray, List.set_cons_zero, List.set_cons_succ]
        refine wpAnyW_take (i := 5) (v := ?_) (by simp only [List.getElem?_toArray, List.getElem?_cons_succ, List.getElem?_cons_zero]; rfl) (by kernel_rfl) (by kernel_rfl) (by kernel_rfl) (by kernel_rfl) (by kernel_rfl) (fun _ _ _ h => h) (Or.inl ⟨by rfl, ?_⟩) (by assumption) ?_
        rotate_left 1
        · (intro w' hSw; go_simp; try with_reducible rfl)
        try simp only [Act.put, List.setIfInBounds_toArray, List.set_cons_zero, List.set_cons_succ]
        refine wpAnyW_take (i := 6) (v := ?_) (by simp only [List.getElem?_toArray, List.getElem?_cons_succ, List.getElem?_cons_zero]; rfl) (by kernel_rfl) (by kernel_rfl) (by kernel_rfl) (by kernel_rfl) (by kernel_rfl) (fun _ _ _ h => h) (Or.inl ⟨by rfl, ?_⟩) (by assumption) ?_
        rotate_left 1
        · (intro w' hSw; have hq := (hSw.cell (p := ⟨b2, o2 + 1, none⟩) hb2).trans HC3.out; go_simp; try with_reducible rfl)
        try simp only [Act.put, List.setIfInBounds_toArray, List.set_cons_zero, List.set_cons_succ]
        refine wpAnyW_take (i := 7) (v := ?_) (by simp only [List.getElem?_toArray, List.getElem?_cons_succ, List.getElem?_cons_zero]; rfl) (by kernel_rfl) (by kernel_rfl) (by kernel_rfl) (by kernel_rfl) (by kernel_rfl) (fun _ _ _ h => h) (Or.inl ⟨by rfl, ?_⟩) (by assumption) ?_
        rotate_left 1
        · (intro w' hSw; go_simp; try with_reducible rfl)
        try simp only [Act.put, List.setIfInBounds_toArray, List.set_cons_zero, List.set_cons_succ]
        refine wpAnyW_take (i := 8) (v := ?_) (by simp only [List.getElem?_toArray, List.getElem?_cons_succ, List.getElem?_cons_zero]; rfl) (by kernel_rfl) (by kernel_rfl) (by kernel_rfl) (by kernel_rfl) (by kernel_rfl) (fun _ _ _ h => h) (Or.inl ⟨by rfl, ?_⟩) (by assumption) ?_
        rotate_left 1
        · (intro w' hSw; have hq := (HQ.out.later hSw).cell 0 (.slice (some ⟨bn, on, none⟩) 2 d1) rfl; go_simp; try with_reducible rfl)
        try simp only [Act.put, List.setIfInBounds_toArray, List.set_cons_zero, List.set_cons_succ]
        refine wpAnyW_take (i := 9) (v := ?_) (by simp only [List.getElem?_toArray, List.getElem?_cons_succ, List.getElem?_cons_zero]; rfl) (by kernel_rfl) (by kernel_rfl) (by kernel_rfl) (by kernel_rfl) (by kernel_rfl) (fun _ _ _ h => h) (Or.inl ⟨by rfl, ?_⟩) (by assumption) ?_
        rotate_left 1
        · (intro w' hSw; go_simp; try with_reducible rfl)
        try simp only [Act.put, List.setIfInBounds_toArray, List.set_cons_zero, List.set_cons_succ]
        refine wpAnyW_take (i := 10) (v := ?_) (by simp only [List.getElem?_toArray, List.getElem?_cons_succ, List.getElem?_cons_zero]; rfl) (by kernel_rfl) (by kernel_rfl) (by kernel_rfl) (by kernel_rfl) (by kernel_rfl) (fun _ _ _ h => h) (Or.inl ⟨by rfl, ?_⟩) (by assumption) ?_
        rotate_left 1
        · (intro w' hSw; have hq := (hSw.cell (p := ⟨bn, on + 1, none⟩) hbn4).trans HE1.out; go_simp; try with_reducible rfl)
        try simp only [Act.put, List.setIfInBounds_toArray, List.set_cons_zero, List.set_cons_succ]
        refine wpAnyW_take (i := 11) (v := ?_) (by simp only [List.getElem?_toArray, List.getElem?_cons_succ, List.getElem?_cons_zero]; rfl) (by kernel_rfl) (by kernel_rfl) (by kernel_rfl) (by kernel_rfl) (by kernel_rfl) (fun _ _ _ h => h) (Or.inl ⟨by rfl, ?_⟩) (by assumption) ?_
        rotate_left 1
        · (intro w' hSw; go_simp; try with_reducible rfl)
        try simp only [Act.put, List.setIfInBounds_toArray, List.set_cons_zero, List.set_cons_succ]
        refine wpAnyW_take (i := 12) (v := ?_) (by simp only [List.getElem?_toArray, List.getElem?_cons_succ, List.getElem?_cons_zero]; rfl) (by kernel_rfl) (by kernel_rfl) (by kernel_rfl) (by kernel_rfl) (by kernel_rfl) (fun _ _ _ h => h) (Or.inl ⟨by rfl, ?_⟩) (by assumption) ?_
        rotate_left 1
        · (intro w' hSw; go_simp; try with_reducible rfl)
        try simp only [Act.put, List.setIfInBounds_toArray, List.set_cons_zero, List.set_cons_succ]
        refine wpAnyW_take (i := 13) (v := ?_) (by simp only [List.getElem?_toArray, List.getElem?_cons_succ, List.getElem?_cons_zero]; rfl) (by kernel_rfl) (by kernel_rfl) (by kernel_rfl) (by kernel_rfl) (by kernel_rfl) (fun _ _ _ h => h) (Or.inl ⟨by rfl, ?_⟩) (by assumption) ?_
        rotate_left 1
        · (intro w' hSw; go_simp; try with_reducible rfl)
        try simp only [Act.put, List.setIfInBounds_toArray, List.set_cons_zero, List.set_cons_succ]
        refine wpAnyW_take (i := 14) (v := _) (by simp only [List.getElem?_toArray, List.getElem?_cons_succ, List.getElem?_cons_zero]; rfl) (by kernel_rfl) (by kernel_rfl) (by kernel_rfl) (by kernel_rfl) (by kernel_rfl) (fun _ _ _ h => h) (yB (ty := 27) (by rfl) rfl rfl (fun V h => HX.out.later h) Try.underlying27 rfl infoQ) (by assumption) ?_
        try simp only [Act.put, List.setIfInBounds_toArray, List.set_cons_zero, List.set_cons_succ]
        refine wpAnyW_take (i := 16) (v := _) (by simp only [List.getElem?_toArray, List.getElem?_cons_succ, List.getElem?_cons_zero]; rfl) (by kernel_rfl) (by kernel_rfl) (by kernel_rfl) (by kernel_rfl) (by kernel_rfl) (fun _ _ _ h => h) (yB (ty := 27) (by rfl) rfl rfl (fun V h => HQ.out.later h) Try.underlying27 rfl infoQ) (by assumption) ?_
        try simp only [Act.put, List.setIfInBounds_toArray, List.set_cons_zero, List.set_cons_succ]
        refine wpAnyW_held (i := 15) (by kernel_rfl) (by simp only [List.getElem?_toArray, List.getElem?_cons_succ, List.getElem?_cons_zero]; rfl) (fun K hK => ?_)
        rw [if_pos (by rfl)]
        go_simp
        refine (HR1.out _ _ _ rfl (R2.out.below hHeld)).mono ?_
        rintro _ w15x ⟨rfl, hb⟩
        have HS : (fun V => Below wz.heap.size wz V) _ := hHeld.trans (hb.mono hHeld.size)
        clear hHeld hb
        go_wp2_with fail
        refine hK.out _ _ HS (fun hHeld => ?_)
        clear hK K HS
        try simp only [Act.put, List.setIfInBounds_toArray, List.set_cons_zero, List.set_cons_succ]
        refine wpAnyW_held (i := 17) (by kernel_rfl) (by simp only [List.getElem?_toArray, List.getElem?_cons_succ, List.getElem?_cons_zero]; rfl) (fun K hK => ?_)
        rw [if_pos (by rfl)]
        go_simp
        refine (HQ1.out _ _ _ rfl (HWT.out.below hHeld)).mono ?_
        rintro _ w17x ⟨rfl, hb⟩
        have HS : (fun V => Below wz.heap.size wz V) _ := hHeld.trans (hb.mono hHeld.size)
        clear hHeld hb
        go_wp2_with fail
        refine hK.out _ _ HS (fun hHeld => ?_)
        clear hK K HS
        try simp only [Act.put, List.setIfInBounds_toArray, List.set_cons_zero, List.set_cons_succ]
        refine wpAnyW_take (i := 18) (v := ?_) (by simp only [List.getElem?_toArray, List.getElem?_cons_succ, List.getElem?_cons_zero]; rfl) (by kernel_rfl) (by kernel_rfl) (by kernel_rfl) (by kernel_rfl) (by kernel_rfl) (fun _ _ _ h => h) (Or.inl ⟨by rfl, ?_⟩) (by assumption) ?_
        rotate_left 1
        · (intro w' hSw; go_simp; try with_reducible rfl)
        try simp only [Act.put, List.setIfInBounds_toArray, List.set_cons_zero, List.set_cons_succ]
        refine wpAnyW_take (i := 19) (v := ?_) (by simp only [List.getElem?_toArray, List.getElem?_cons_succ, List.getElem?_cons_zero]; rfl) (by kernel_rfl) (by kernel_rfl) (by kernel_rfl) (by kernel_rfl) (by kernel_rfl) (fun _ _ _ h => h) (Or.inl ⟨by rfl, ?_⟩) (by assumption) ?_
        rotate_left 1
        · (intro w' hSw; go_simp; try with_reducible rfl)
        try simp only [Act.put, List.setIfInBounds_toArray, List.set_cons_zero, List.set_cons_succ]
        refine wpAnyW_take (i := 20) (v := ?_) (by simp only [List.getElem?_toArray, List.getElem?_cons_succ, List.getElem?_cons_zero]; rfl) (by kernel_rfl) (by kernel_rfl) (by kernel_rfl) (by kernel_rfl) (by kernel_rfl) (fun _ _ _ h => h) (Or.inl ⟨by rfl, ?_⟩) (by assumption) ?_
        rotate_left 1
        · (intro w' hSw; go_simp; try with_reducible rfl)
        try simp only [Act.put, List.setIfInBounds_toArray, List.set_cons_zero, List.set_cons_succ]
        refine wpAnyW_take (i := 21) (v := ?_) (by simp only [List.getElem?_toArray, List.getElem?_cons_succ, List.getElem?_cons_zero]; rfl) (by kernel_rfl) (by kernel_rfl) (by kernel_rfl) (by kernel_rfl) (by kernel_rfl) (fun _ _ _ h => h) (Or.inl ⟨by rfl, ?_⟩) (by assumption) ?_
        rotate_left 1
        · (intro w' hSw; go_simp; try with_reducible rfl)
        try simp only [Act.put, List.setIfInBounds_toArray, List.set_cons_zero, List.set_cons_succ]
        refine wpAnyW_take (i := 22) (v := ?_) (by simp only [List.getElem?_toArray, List.getElem?_cons_succ, List.getElem?_cons_zero]; rfl) (by kernel_rfl) (by kernel_rfl) (by kernel_rfl) (by kernel_rfl) (by kernel_rfl) (fun _ _ _ h => h) (Or.inl ⟨by rfl, ?_⟩) (by assumption) ?_
        rotate_left 1
        · (intro w' hSw; have hq := (HX.out.later hSw).cell 0 (.slice (some ⟨b2, o2, none⟩) 2 c1') rfl; go_simp; try with_reducible rfl)
        try simp only [Act.put, List.setIfInBounds_toArray, List.set_cons_zero, List.set_cons_succ]
        refine wpAnyW_take (i := 23) (v := ?_) (by simp only [List.getElem?_toArray, List.getElem?_cons_succ, List.getElem?_cons_zero]; rfl) (by kernel_rfl) (by kernel_rfl) (by kernel_rfl) (by kernel_rfl) (by kernel_rfl) (fun _ _ _ h => h) (Or.inl ⟨by rfl, ?_⟩) (by assumption) ?_
        rotate_left 1
        · (intro w' hSw; go_simp; try with_reducible rfl)
        try simp only [Act.put, List.setIfInBounds_toArray, List.set_cons_zero, List.set_cons_succ]
        refine wpAnyW_take (i := 24) (v := ?_) (by simp only [List.getElem?_toArray, List.getElem?_cons_succ, List.getElem?_cons_zero]; rfl) (by kernel_rfl) (by kernel_rfl) (by kernel_rfl) (by kernel_rfl) (by kernel_rfl) (fun _ _ _ h => h) (Or.inl ⟨by rfl, ?_⟩) (by assumption) ?_
        rotate_left 1
        · (intro w' hSw; have hq : w'.cell? ⟨b2, o2, none⟩ = some (.int .u16 (x2.toNat : Int)) := (hSw.cell (p := ⟨b2, o2, none⟩) hb2).trans HC2.out; go_simp; try with_reducible rfl)
        try simp only [Act.put, List.setIfInBounds_toArray, List.set_cons_zero, List.set_cons_succ]
        refine wpAnyW_take (i := 25) (v := ?_) (by simp only [List.getElem?_toArray, List.getElem?_cons_succ, List.getElem?_cons_zero]; rfl) (by kernel_rfl) (by kernel_rfl) (by kernel_rfl) (by kernel_rfl) (by kernel_rfl) (fun _ _ _ h => h) (Or.inl ⟨by rfl, ?_⟩) (by assumption) ?_
        rotate_left 1
        · (intro w' hSw; go_simp; try with_reducible rfl)
        try simp only [Act.put, List.setIfInBounds_toArray, List.set_cons_zero, List.set_cons_succ]
        refine wpAnyW_take (i := 26) (v := ?_) (by simp only [List.getElem?_toArray, List.getElem?_cons_succ, List.getElem?_cons_zero]; rfl) (by kernel_rfl) (by kernel_rfl) (by kernel_rfl) (by kernel_rfl) (by kernel_rfl) (fun _ _ _ h => h) (Or.inl ⟨by rfl, ?_⟩) (by assumption) ?_
        rotate_left 1
        · (intro w' hSw; go_simp; try with_reducible rfl)
        try simp only [Act.put, List.setIfInBounds_toArray, List.set_cons_zero, List.set_cons_succ]
        refine wpAnyW_take (i := 27) (v := ?_) (by simp only [List.getElem?_toArray, List.getElem?_cons_succ, List.getElem?_cons_zero]; rfl) (by kernel_rfl) (by kernel_rfl) (by kernel_rfl) (by kernel_rfl) (by kernel_rfl) (fun _ _ _ h => h) (Or.inl ⟨by rfl, ?_⟩) (by assumption) ?_
        rotate_left 1
        · (intro w' hSw; go_simp; try with_reducible rfl)
        try simp only [Act.put, List.setIfInBounds_toArray, List.set_cons_zero, List.set_cons_succ]
        refine wpAnyW_take (i := 28) (v := ?_) (by simp only [List.getElem?_toArray, List.getElem?_cons_succ, List.getElem?_cons_zero]; rfl) (by kernel_rfl) (by kernel_rfl) (by kernel_rfl) (by kernel_rfl) (by kernel_rfl) (fun _ _ _ h => h) (Or.inl ⟨by rfl, ?_⟩) (by assumption) ?_
        rotate_left 1
        · (intro w' hSw; go_simp; try with_reducible rfl)
        try simp only [Act.put, List.setIfInBounds_toArray, List.set_cons_zero, List.set_cons_succ]
        refine wpAnyW_take (i := 29) (v := ?_) (by simp only [List.getElem?_toArray, List.getElem?_cons_succ, List.getElem?_cons_zero]; rfl) (by kernel_rfl) (by kernel_rfl) (by kernel_rfl) (by kernel_rfl) (by kernel_rfl) (fun _ _ _ h => h) (Or.inl ⟨by rfl, ?_⟩) (by assumption) ?_
        rotate_left 1
        · (intro w' hSw; go_simp; try with_reducible rfl)
        try simp only [Act.put, List.setIfInBounds_toArray, List.set_cons_zero, List.set_cons_succ]
        refine wpAnyW_take (i := 30) (v := ?_) (by simp only [List.getElem?_toArray, List.getElem?_cons_succ, List.getElem?_cons_zero]; rfl) (by kernel_rfl) (by kernel_rfl) (by kernel_rfl) (by kernel_rfl) (by kernel_rfl) (fun _ _ _ h => h) (Or.inl ⟨by rfl, ?_⟩) (by assumption) ?_
        rotate_left 1
        · (intro w' hSw; go_simp; try with_reducible rfl)
        try simp only [Act.put, List.setIfInBounds_toArray, List.set_cons_zero, List.set_cons_succ]
        refine wpAnyW_take (i := 31) (v := ?_) (by simp only [List.getElem?_toArray, List.getElem?_cons_succ, List.getElem?_cons_zero]; rfl) (by kernel_rfl) (by kernel_rfl) (by kernel_rfl) (by kernel_rfl) (by kernel_rfl) (fun _ _ _ h => h) (Or.inl ⟨by rfl, ?_⟩) (by assumption) ?_
        rotate_left 1
        · (intro w' hSw; go_simp; try with_reducible rfl)
        try simp only [Act.put, List.setIfInBounds_toArray, List.set_cons_zero, List.set_cons_succ]
        replace HQ := Lib.hid (HQ.out.later hHeld)
        replace HX := Lib.hid (HX.out.later hHeld)
        replace HWT := Lib.hid (HWT.out.below hHeld)
        replace R2 := Lib.hid (R2.out.below hHeld)
        replace R3 := Lib.hid (R3.out.below hHeld)
        replace HC2 := Lib.hid ((hHeld.cell (p := ⟨b2, o2 + 0, none⟩) hb2).trans HC2.out)
        replace HB := Lib.hid (HB.out.trans (hHeld.mono HB.out.size))
        have hb2 := Nat.lt_of_lt_of_le hb2 hHeld.size
        clear hHeld
        refine wpAnyW_done (by kernel_rfl) ?_ _
        refine NoPanic.normal ?_
        clear z1 z2
        go_wp2_with fail
        generalize w17x = wq at *
        go_loopw [17] (fun v17 wr => ∃ i : Nat, i ≤ tt.length ∧ v17 = .int .i64 i ∧ Hid (Below wq.heap.size wq wr))
          (fun v17 _ => tt.length - (intOf v17).toNat)
        case atStart => exact ⟨0, Nat.zero_le _, rfl, Lib.hid (Below.refl _ _)⟩
        case round =>
          obtain ⟨i, hi, rfl, HBL⟩ := hrel
          by_cases hit : i < tt.length
          · obtain ⟨b7, o7, c7, e7, hb7, -, -, hrg7⟩ := R3.out.at hit
            cases e7
            obtain ⟨ht1, ht2⟩ := HTO.out i hit
            have hrg8 := range_below hrg7 hb7 HBL.out
            have y2 : wr.cell? ⟨b7, o7 + i * 6 + 2, none⟩ = some (.int .u16 0) := by have := hrg8 2 _ rfl; rw [ht1] at this; exact this
            have y3 : wr.cell? ⟨b7, o7 + i * 6 + 3, none⟩ = some (.int .u16 ((up at' i).toNat : Int)) := by have := hrg8 3 _ rfl; rw [ht2] at this; exact this
            have q2 : (0 : Int) ≤ (i : Int) := by omega
            have q3 : (i : Int) < (tt.length : Int) := by omega
            have s1 : ((at'.toNat : Int) + (i : Int)) % 65536 = ((up at' i).toNat : Int) := up_sum _ _
            have s3 : IntKind.u16.wrap ((at'.toNat : Int) + (i : Int)) = ((up at' i).toNat : Int) := up_sum _ _
            have s2 := HTL.out
            clear hrg7 hrg8 ht1 ht2
            go_wp2_with fail
            go_roundw
            case rel => exact ⟨i + 1, by omega, by go_num, HBL⟩
            case measure => simp [intOf]; omega
          · obtain rfl : i = tt.length := by omega
            have s2 := HTL.out
            go_wp2_with fail
            replace R2 := Lib.hid (R2.out.below HBL.out)
            replace R3 := Lib.hid (R3.out.below HBL.out)
            replace HQ := Lib.hid (HQ.out.later HBL.out)
            replace HX := Lib.hid (HX.out.later HBL.out)
            replace HWT := Lib.hid (HWT.out.below HBL.out)
            replace HC2 := Lib.hid ((HBL.out.cell (p := ⟨b2, o2 + 0, none⟩) hb2).trans HC2.out)
            replace HB := Lib.hid (HB.out.trans (HBL.out.mono HB.out.size))
            have hb2 := Nat.lt_of_lt_of_le hb2 HBL.out.size
            clear HBL
            generalize wr = wq2 at *
            go_loopw [18] (fun v18 wr => ∃ i : Nat, i ≤ ww.length ∧ v18 = .int .i64 i ∧ Hid (Below wq2.heap.size wq2 wr))
              (fun v18 _ => ww.length - (intOf v18).toNat)
            case atStart => exact ⟨0, Nat.zero_le _, rfl, Lib.hid (Below.refl _ _)⟩
            case round =>
              obtain ⟨i, hi, rfl, HBL⟩ := hrel
              have x1 := (HX.out.later HBL.out).cell 1 (.slice A2 ww.length c2') rfl
              have hw60 : (ww.length : Int) ≤ 60 := by have := HWL.out; omega
              by_cases hit : i < ww.length
              · obtain ⟨b7, o7, c7, e7, hb7, -, -, hrg7⟩ := R2.out.at hit
                cases e7
                have hlf := HLF.out _ (List.getElem_mem hit)
                have HRR := Lib.hid (range_below hrg7 hb7 HBL.out)
                have hb8 : b7 < wr.heap.size := Nat.lt_of_lt_of_le hb7 HBL.out.size
                have q2 : (0 : Int) ≤ (i : Int) := by omega
                have q3 : (i : Int) < (ww.length : Int) := by omega
                clear hrg7
                generalize ww[i] = x at *
                go_wp2_with fail
                have HX9 := Lib.hid (HX.out.later HBL.out)
                have HC9 := Lib.hid ((HBL.out.cell (p := ⟨b2, o2 + 0, none⟩) hb2).trans HC2.out)
                have hb9 := Nat.lt_of_lt_of_le hb2 HBL.out.size
                generalize wr = wr2 at *
                by_cases hs0 : x.st = 0
                · have hlt := hlf hs0
                  have t0 : ((x.st.toNat : Int) == 0) = true := by rw [hs0]; rfl
                  have t1 : decide ((x.ss.toNat : Int) ≤ (x2.toNat : Int)) = false := by rw [decide_eq_false_iff_not]; omega
                  have t2 : decide (x.ss.toNat ≤ x2.toNat) = false := by rw [decide_eq_false_iff_not]; omega
                  obtain ⟨f1, f2⟩ := fit16 x.ss
                  obtain ⟨f3, f4⟩ := fit16 x2
                  clear hlf hlt hs0
                  have HS : (fun V => Below wr2.heap.size wr2 V) wr2.drew := below_drawn (Below.refl _ _)
                  refine wp_region_noPanic ?_
                  refine wp_region_waits (S := (fun V => Below wr2.heap.size wr2 V)) [] (by kernel_rfl) HS (fun hHeld => ?_)
                  clear HS
                  refine wpAnyW_take (i := 0) (v := ?_) (by simp only [List.getElem?_toArray, List.getElem?_cons_zero]; rfl) (by kernel_rfl) (by kernel_rfl) (by kernel_rfl) (by kernel_rfl) (by kernel_rfl) (fun _ _ _ h => h) (Or.inl ⟨by rfl, ?_⟩) (by assumption) ?_
                  rotate_left 1
                  · (intro w' hSw; go_simp; try with_reducible rfl)
                  try simp only [Act.put, List.setIfInBounds_toArray, List.set_cons_zero, List.set_cons_succ]
                  refine wpAnyW_take (i := 1) (v := ?_) (by simp only [List.getElem?_toArray, List.getElem?_cons_succ, List.getElem?_cons_zero]; rfl) (by kernel_rfl) (by kernel_rfl) (by kernel_rfl) (by kernel_rfl) (by kernel_rfl) (fun _ _ _ h => h) (Or.inl ⟨by rfl, ?_⟩) (by assumption) ?_
                  rotate_left 1
                  · (intro w' hSw; have hq := (HX9.out.later hSw).cell 1 (.slice (some ⟨b7, o7, none⟩) ww.length c2') rfl; go_simp; try with_reducible rfl)
                  try simp only [Act.put, List.setIfInBounds_toArray, List.set_cons_zero, List.set_cons_succ]
                  refine wpAnyW_take (i := 2) (v := ?_) (by simp only [List.getElem?_toArray, List.getElem?_cons_succ, List.getElem?_cons_zero]; rfl) (by kernel_rfl) (by kernel_rfl) (by kernel_rfl) (by kernel_rfl) (by kernel_rfl) (fun _ _ _ h => h) (Or.inl ⟨by rfl, ?_⟩) (by assumption) ?_
                  rotate_left 1
                  · (intro w' hSw; go_simp; try with_reducible rfl)
                  try simp only [Act.put, List.setIfInBounds_toArray, List.set_cons_zero, List.set_cons_succ]
                  refine wpAnyW_take (i := 3) (v := ?_) (by simp only [List.getElem?_toArray, List.getElem?_cons_succ, List.getElem?_cons_zero]; rfl) (by kernel_rfl) (by kernel_rfl) (by kernel_rfl) (by kernel_rfl) (by kernel_rfl) (fun _ _ _ h => h) (Or.inl ⟨by rfl, ?_⟩) (by assumption) ?_
                  rotate_left 1
                  · (intro w' hSw; go_simp; try with_reducible rfl)
                  try simp only [Act.put, List.setIfInBounds_toArray, List.set_cons_zero, List.set_cons_succ]
                  refine wpAnyW_take (i := 4) (v := ?_) (by simp only [List.getElem?_toArray, List.getElem?_cons_succ, List.getElem?_cons_zero]; rfl) (by kernel_rfl) (by kernel_rfl) (by kernel_rfl) (by kernel_rfl) (by kernel_rfl) (fun _ _ _ h => h) (Or.inl ⟨by rfl, ?_⟩) (by assumption) ?_
                  rotate_left 1
                  · (intro w' hSw; go_simp; try with_reducible rfl)
                  try simp only [Act.put, List.setIfInBounds_toArray, List.set_cons_zero, List.set_cons_succ]
                  refine wpAnyW_take (i := 5) (v := ?_) (by simp only [List.getElem?_toArray, List.getElem?_cons_succ, List.getElem?_cons_zero]; rfl) (by kernel_rfl) (by kernel_rfl) (by kernel_rfl) (by kernel_rfl) (by kernel_rfl) (fun _ _ _ h => h) (Or.inl ⟨by rfl, ?_⟩) (by assumption) ?_
                  rotate_left 1
                  · (intro w' hSw; have hq := (range_below HRR.out hb8 hSw) 2 (.int .u16 (x.st.toNat : Int)) rfl; go_simp; try with_reducible rfl)
                  try simp only [Act.put, List.setIfInBounds_toArray, List.set_cons_zero, List.set_cons_succ]
                  refine wpAnyW_take (i := 6) (v := ?_) (by simp only [List.getElem?_toArray, List.getElem?_cons_succ, List.getElem?_cons_zero]; rfl) (by kernel_rfl) (by kernel_rfl) (by kernel_rfl) (by kernel_rfl) (by kernel_rfl) (fun _ _ _ h => h) (Or.inl ⟨by rfl, ?_⟩) (by assumption) ?_
                  rotate_left 1
                  · (intro w' hSw; go_simp; try with_reducible rfl)
                  try simp only [Act.put, List.setIfInBounds_toArray, List.set_cons_zero, List.set_cons_succ]
                  refine wpAnyW_take (i := 7) (v := ?_) (by simp only [List.getElem?_toArray, List.getElem?_cons_succ, List.getElem?_cons_zero]; rfl) (by kernel_rfl) (by kernel_rfl) (by kernel_rfl) (by kernel_rfl) (by kernel_rfl) (fun _ _ _ h => h) (Or.inl ⟨by rfl, ?_⟩) (by assumption) ?_
                  rotate_left 1
                  · (intro w' hSw; go_simp; try with_reducible rfl)
                  try simp only [Act.put, List.setIfInBounds_toArray, List.set_cons_zero, List.set_cons_succ]
                  refine wpAnyW_take (i := 8) (v := ?_) (by simp only [List.getElem?_toArray, List.getElem?_cons_succ, List.getElem?_cons_zero]; rfl) (by kernel_rfl) (by kernel_rfl) (by kernel_rfl) (by kernel_rfl) (by kernel_rfl) (fun _ _ _ h => h) (Or.inl ⟨by rfl, ?_⟩) (by assumption) ?_
                  rotate_left 1
                  · (intro w' hSw; go_simp; try with_reducible rfl)
                  try simp only [Act.put, List.setIfInBounds_toArray, List.set_cons_zero, List.set_cons_succ]
                  refine wpAnyW_take (i := 9) (v := ?_) (by simp only [List.getElem?_toArray, List.getElem?_cons_succ, List.getElem?_cons_zero]; rfl) (by kernel_rfl) (by kernel_rfl) (by kernel_rfl) (by kernel_rfl) (by kernel_rfl) (fun _ _ _ h => h) (Or.inl ⟨by rfl, ?_⟩) (by assumption) ?_
                  rotate_left 1
                  · (intro w' hSw; have hq := (HX9.out.later hSw).cell 1 (.slice (some ⟨b7, o7, none⟩) ww.length c2') rfl; go_simp; try with_reducible rfl)
                  try simp only [Act.put, List.setIfInBounds_toArray, List.set_cons_zero, List.set_cons_succ]
                  refine wpAnyW_take (i := 10) (v := ?_) (by simp only [List.getElem?_toArray, List.getElem?_cons_succ, List.getElem?_cons_zero]; rfl) (by kernel_rfl) (by kernel_rfl) (by kernel_rfl) (by kernel_rfl) (by kernel_rfl) (fun _ _ _ h => h) (Or.inl ⟨by rfl, ?_⟩) (by assumption) ?_
                  rotate_left 1
                  · (intro w' hSw; go_simp; try with_reducible rfl)
                  try simp only [Act.put, List.setIfInBounds_toArray, List.set_cons_zero, List.set_cons_succ]
                  refine wpAnyW_take (i := 11) (v := ?_) (by simp only [List.getElem?_toArray, List.getElem?_cons_succ, List.getElem?_cons_zero]; rfl) (by kernel_rfl) (by kernel_rfl) (by kernel_rfl) (by kernel_rfl) (by kernel_rfl) (fun _ _ _ h => h) (Or.inl ⟨by rfl, ?_⟩) (by assumption) ?_
                  rotate_left 1
                  · (intro w' hSw; go_simp; try with_reducible rfl)
                  try simp only [Act.put, List.setIfInBounds_toArray, List.set_cons_zero, List.set_cons_succ]
                  refine wpAnyW_take (i := 12) (v := ?_) (by simp only [List.getElem?_toArray, List.getElem?_cons_succ, List.getElem?_cons_zero]; rfl) (by kernel_rfl) (by kernel_rfl) (by kernel_rfl) (by kernel_rfl) (by kernel_rfl) (fun _ _ _ h => h) (Or.inl ⟨by rfl, ?_⟩) (by assumption) ?_
                  rotate_left 1
                  · (intro w' hSw; go_simp; try with_reducible rfl)
                  try simp only [Act.put, List.setIfInBounds_toArray, List.set_cons_zero, List.set_cons_succ]
                  refine wpAnyW_take (i := 13) (v := ?_) (by simp only [List.getElem?_toArray, List.getElem?_cons_succ, List.getElem?_cons_zero]; rfl) (by kernel_rfl) (by kernel_rfl) (by kernel_rfl) (by kernel_rfl) (by kernel_rfl) (fun _ _ _ h => h) (Or.inl ⟨by rfl, ?_⟩) (by assumption) ?_
                  rotate_left 1
                  · (intro w' hSw; have hq := (range_below HRR.out hb8 hSw) 3 (.int .u16 (x.ss.toNat : Int)) rfl; go_simp; try with_reducible rfl)
                  try simp only [Act.put, List.setIfInBounds_toArray, List.set_cons_zero, List.set_cons_succ]
                  refine wpAnyW_take (i := 14) (v := ?_) (by simp only [List.getElem?_toArray, List.getElem?_cons_succ, List.getElem?_cons_zero]; rfl) (by kernel_rfl) (by kernel_rfl) (by kernel_rfl) (by kernel_rfl) (by kernel_rfl) (fun _ _ _ h => h) (Or.inl ⟨by rfl, ?_⟩) (by assumption) ?_
                  rotate_left 1
                  · (intro w' hSw; go_simp; try with_reducible rfl)
                  try simp only [Act.put, List.setIfInBounds_toArray, List.set_cons_zero, List.set_cons_succ]
                  refine wpAnyW_take (i := 15) (v := ?_) (by simp only [List.getElem?_toArray, List.getElem?_cons_succ, List.getElem?_cons_zero]; rfl) (by kernel_rfl) (by kernel_rfl) (by kernel_rfl) (by kernel_rfl) (by kernel_rfl) (fun _ _ _ h => h) (Or.inl ⟨by rfl, ?_⟩) (by assumption) ?_
                  rotate_left 1
                  · (intro w' hSw; go_simp; try with_reducible rfl)
                  try simp only [Act.put, List.setIfInBounds_toArray, List.set_cons_zero, List.set_cons_succ]
                  refine wpAnyW_take (i := 16) (v := ?_) (by simp only [List.getElem?_toArray, List.getElem?_cons_succ, List.getElem?_cons_zero]; rfl) (by kernel_rfl) (by kernel_rfl) (by kernel_rfl) (by kernel_rfl) (by kernel_rfl) (fun _ _ _ h => h) (Or.inl ⟨by rfl, ?_⟩) (by assumption) ?_
                  rotate_left 1
                  · (intro w' hSw; have hq := (HX9.out.later hSw).cell 0 (.slice (some ⟨b2, o2, none⟩) 2 c1') rfl; go_simp; try with_reducible rfl)
                  try simp only [Act.put, List.setIfInBounds_toArray, List.set_cons_zero, List.set_cons_succ]
                  refine wpAnyW_take (i := 17) (v := ?_) (by simp only [List.getElem?_toArray, List.getElem?_cons_succ, List.getElem?_cons_zero]; rfl) (by kernel_rfl) (by kernel_rfl) (by kernel_rfl) (by kernel_rfl) (by kernel_rfl) (fun _ _ _ h => h) (Or.inl ⟨by rfl, ?_⟩) (by assumption) ?_
                  rotate_left 1
                  · (intro w' hSw; go_simp; try with_reducible rfl)
                  try simp only [Act.put, List.setIfInBounds_toArray, List.set_cons_zero, List.set_cons_succ]
                  refine wpAnyW_take (i := 18) (v := ?_) (by simp only [List.getElem?_toArray, List.getElem?_cons_succ, List.getElem?_cons_zero]; rfl) (by kernel_rfl) (by kernel_rfl) (by kernel_rfl) (by kernel_rfl) (by kernel_rfl) (fun _ _ _ h => h) (Or.inl ⟨by rfl, ?_⟩) (by assumption) ?_
                  rotate_left 1
                  · (intro w' hSw; have hq : w'.cell? ⟨b2, o2, none⟩ = some (.int .u16 (x2.toNat : Int)) := (hSw.cell (p := ⟨b2, o2, none⟩) hb9).trans HC9.out; go_simp; try with_reducible rfl)
                  try simp only [Act.put, List.setIfInBounds_toArray, List.set_cons_zero, List.set_cons_succ]
                  refine wpAnyW_take (i := 19) (v := ?_) (by simp only [List.getElem?_toArray, List.getElem?_cons_succ, List.getElem?_cons_zero]; rfl) (by kernel_rfl) (by kernel_rfl) (by kernel_rfl) (by kernel_rfl) (by kernel_rfl) (fun _ _ _ h => h) (Or.inl ⟨by rfl, ?_⟩) (by assumption) ?_
                  rotate_left 1
                  · (intro w' hSw; go_simp; try with_reducible rfl)
                  try simp only [Act.put, List.setIfInBounds_toArray, List.set_cons_zero, List.set_cons_succ]
                  refine wpAnyW_take (i := 20) (v := ?_) (by simp only [List.getElem?_toArray, List.getElem?_cons_succ, List.getElem?_cons_zero]; rfl) (by kernel_rfl) (by kernel_rfl) (by kernel_rfl) (by kernel_rfl) (by kernel_rfl) (fun _ _ _ h => h) (Or.inl ⟨by rfl, ?_⟩) (by assumption) ?_
                  rotate_left 1
                  · (intro w' hSw; go_simp; try with_reducible rfl)
                  try simp only [Act.put, List.setIfInBounds_toArray, List.set_cons_zero, List.set_cons_succ]
                  refine wpAnyW_take (i := 21) (v := ?_) (by simp only [List.getElem?_toArray, List.getElem?_cons_succ, List.getElem?_cons_zero]; rfl) (by kernel_rfl) (by kernel_rfl) (by kernel_rfl) (by kernel_rfl) (by kernel_rfl) (fun _ _ _ h => h) (Or.inl ⟨by rfl, ?_⟩) (by assumption) ?_
                  rotate_left 1
                  · (intro w' hSw; go_simp; try with_reducible rfl)
                  try simp only [Act.put, List.setIfInBounds_toArray, List.set_cons_zero, List.set_cons_succ]
                  have HE := Lib.hid hHeld
                  clear hHeld
                  refine wpAnyW_done (by kernel_rfl) ?_ _
                  refine NoPanic.normal ?_
                  go_wp2_with fail
                  go_roundw
                  case rel => exact ⟨i + 1, by omega, by go_num, Lib.hid (HBL.out.trans (HE.out.mono HBL.out.size))⟩
                  case measure => simp [intOf]; omega
                · have t0 : ((x.st.toNat : Int) == 0) = false := by
                    rw [beq_eq_false_iff_ne]
                    intro e
                    exact hs0 (UInt16.toNat_inj.1 (by show x.st.toNat = 0; omega))
                  clear hlf hs0
                  have HS : (fun V => Below wr2.heap.size wr2 V) wr2.drew := below_drawn (Below.refl _ _)
                  refine wp_region_noPanic ?_
                  refine wp_region_waits (S := (fun V => Below wr2.heap.size wr2 V)) [] (by kernel_rfl) HS (fun hHeld => ?_)
                  clear HS
                  refine wpAnyW_take (i := 0) (v := ?_) (by simp only [List.getElem?_toArray, List.getElem?_cons_zero]; rfl) (by kernel_rfl) (by kernel_rfl) (by kernel_rfl) (by kernel_rfl) (by kernel_rfl) (fun _ _ _ h => h) (Or.inl ⟨by rfl, ?_⟩) (by assumption) ?_
                  rotate_left 1
                  · (intro w' hSw; go_simp; try with_reducible rfl)
                  try simp only [Act.put, List.setIfInBounds_toArray, List.set_cons_zero, List.set_cons_succ]
                  refine wpAnyW_take (i := 1) (v := ?_) (by simp only [List.getElem?_toArray, List.getElem?_cons_succ, List.getElem?_cons_zero]; rfl) (by kernel_rfl) (by kernel_rfl) (by kernel_rfl) (by kernel_rfl) (by kernel_rfl) (fun _ _ _ h => h) (Or.inl ⟨by rfl, ?_⟩) (by assumption) ?_
                  rotate_left 1
                  · (intro w' hSw; have hq := (HX9.out.later hSw).cell 1 (.slice (some ⟨b7, o7, none⟩) ww.length c2') rfl; go_simp; try with_reducible rfl)
                  try simp only [Act.put, List.setIfInBounds_toArray, List.set_cons_zero, List.set_cons_succ]
                  refine wpAnyW_take (i := 2) (v := ?_) (by simp only [List.getElem?_toArray, List.getElem?_cons_succ, List.getElem?_cons_zero]; rfl) (by kernel_rfl) (by kernel_rfl) (by kernel_rfl) (by kernel_rfl) (by kernel_rfl) (fun _ _ _ h => h) (Or.inl ⟨by rfl, ?_⟩) (by assumption) ?_
                  rotate_left 1
                  · (intro w' hSw; go_simp; try with_reducible rfl)
                  try simp only [Act.put, List.setIfInBounds_toArray, List.set_cons_zero, List.set_cons_succ]
                  refine wpAnyW_take (i := 3) (v := ?_) (by simp only [List.getElem?_toArray, List.getElem?_cons_succ, List.getElem?_cons_zero]; rfl) (by kernel_rfl) (by kernel_rfl) (by kernel_rfl) (by kernel_rfl) (by kernel_rfl) (fun _ _ _ h => h) (Or.inl ⟨by rfl, ?_⟩) (by assumption) ?_
                  rotate_left 1
                  · (intro w' hSw; go_simp; try with_reducible rfl)
                  try simp only [Act.put, List.setIfInBounds_toArray, List.set_cons_zero, List.set_cons_succ]
                  refine wpAnyW_take (i := 4) (v := ?_) (by simp only [List.getElem?_toArray, List.getElem?_cons_succ, List.getElem?_cons_zero]; rfl) (by kernel_rfl) (by kernel_rfl) (by kernel_rfl) (by kernel_rfl) (by kernel_rfl) (fun _ _ _ h => h) (Or.inl ⟨by rfl, ?_⟩) (by assumption) ?_
                  rotate_left 1
                  · (intro w' hSw; go_simp; try with_reducible rfl)
                  try simp only [Act.put, List.setIfInBounds_toArray, List.set_cons_zero, List.set_cons_succ]
                  refine wpAnyW_take (i := 5) (v := ?_) (by simp only [List.getElem?_toArray, List.getElem?_cons_succ, List.getElem?_cons_zero]; rfl) (by kernel_rfl) (by kernel_rfl) (by kernel_rfl) (by kernel_rfl) (by kernel_rfl) (fun _ _ _ h => h) (Or.inl ⟨by rfl, ?_⟩) (by assumption) ?_
                  rotate_left 1
                  · (intro w' hSw; have hq := (range_below HRR.out hb8 hSw) 2 (.int .u16 (x.st.toNat : Int)) rfl; go_simp; try with_reducible rfl)
                  try simp only [Act.put, List.setIfInBounds_toArray, List.set_cons_zero, List.set_cons_succ]
                  refine wpAnyW_take (i := 6) (v := ?_) (by simp only [List.getElem?_toArray, List.getElem?_cons_succ, List.getElem?_cons_zero]; rfl) (by kernel_rfl) (by kernel_rfl) (by kernel_rfl) (by kernel_rfl) (by kernel_rfl) (fun _ _ _ h => h) (Or.inl ⟨by rfl, ?_⟩) (by assumption) ?_
                  rotate_left 1
                  · (intro w' hSw; go_simp; try with_reducible rfl)
                  try simp only [Act.put, List.setIfInBounds_toArray, List.set_cons_zero, List.set_cons_succ]
                  refine wpAnyW_take (i := 7) (v := ?_) (by simp only [List.getElem?_toArray, List.getElem?_cons_succ, List.getElem?_cons_zero]; rfl) (by kernel_rfl) (by kernel_rfl) (by kernel_rfl) (by kernel_rfl) (by kernel_rfl) (fun _ _ _ h => h) (Or.inl ⟨by rfl, ?_⟩) (by assumption) ?_
                  rotate_left 1
                  · (intro w' hSw; go_simp; try with_reducible rfl)
                  try simp only [Act.put, List.setIfInBounds_toArray, List.set_cons_zero, List.set_cons_succ]
                  refine wpAnyW_take (i := 8) (v := undef) (by simp only [List.getElem?_toArray, List.getElem?_cons_succ, List.getElem?_cons_zero]; rfl) (by kernel_rfl) (by kernel_rfl) (by kernel_rfl) (by kernel_rfl) (by kernel_rfl) (fun _ _ _ h => h) (Or.inr ⟨by rfl, rfl⟩) (by assumption) ?_
                  try simp only [Act.put, List.setIfInBounds_toArray, List.set_cons_zero, List.set_cons_succ]
                  refine wpAnyW_take (i := 9) (v := undef) (by simp only [List.getElem?_toArray, List.getElem?_cons_succ, List.getElem?_cons_zero]; rfl) (by kernel_rfl) (by kernel_rfl) (by kernel_rfl) (by kernel_rfl) (by kernel_rfl) (fun _ _ _ h => h) (Or.inr ⟨by rfl, rfl⟩) (by assumption) ?_
                  try simp only [Act.put, List.setIfInBounds_toArray, List.set_cons_zero, List.set_cons_succ]
                  refine wpAnyW_take (i := 10) (v := undef) (by simp only [List.getElem?_toArray, List.getElem?_cons_succ, List.getElem?_cons_zero]; rfl) (by kernel_rfl) (by kernel_rfl) (by kernel_rfl) (by kernel_rfl) (by kernel_rfl) (fun _ _ _ h => h) (Or.inr ⟨by rfl, rfl⟩) (by assumption) ?_
                  try simp only [Act.put, List.setIfInBounds_toArray, List.set_cons_zero, List.set_cons_succ]
                  refine wpAnyW_take (i := 11) (v := undef) (by simp only [List.getElem?_toArray, List.getElem?_cons_succ, List.getElem?_cons_zero]; rfl) (by kernel_rfl) (by kernel_rfl) (by kernel_rfl) (by kernel_rfl) (by kernel_rfl) (fun _ _ _ h => h) (Or.inr ⟨by rfl, rfl⟩) (by assumption) ?_
                  try simp only [Act.put, List.setIfInBounds_toArray, List.set_cons_zero, List.set_cons_succ]
                  refine wpAnyW_take (i := 12) (v := undef) (by simp only [List.getElem?_toArray, List.getElem?_cons_succ, List.getElem?_cons_zero]; rfl) (by kernel_rfl) (by kernel_rfl) (by kernel_rfl) (by kernel_rfl) (by kernel_rfl) (fun _ _ _ h => h) (Or.inr ⟨by rfl, rfl⟩) (by assumption) ?_
                  try simp only [Act.put, List.setIfInBounds_toArray, List.set_cons_zero, List.set_cons_succ]
                  refine wpAnyW_take (i := 13) (v := undef) (by simp only [List.getElem?_toArray, List.getElem?_cons_succ, List.getElem?_cons_zero]; rfl) (by kernel_rfl) (by kernel_rfl) (by kernel_rfl) (by kernel_rfl) (by kernel_rfl) (fun _ _ _ h => h) (Or.inr ⟨by rfl, rfl⟩) (by assumption) ?_
                  try simp only [Act.put, List.setIfInBounds_toArray, List.set_cons_zero, List.set_cons_succ]
                  refine wpAnyW_take (i := 14) (v := undef) (by simp only [List.getElem?_toArray, List.getElem?_cons_succ, List.getElem?_cons_zero]; rfl) (by kernel_rfl) (by kernel_rfl) (by kernel_rfl) (by kernel_rfl) (by kernel_rfl) (fun _ _ _ h => h) (Or.inr ⟨by rfl, rfl⟩) (by assumption) ?_
                  try simp only [Act.put, List.setIfInBounds_toArray, List.set_cons_zero, List.set_cons_succ]
                  refine wpAnyW_take (i := 15) (v := undef) (by simp only [List.getElem?_toArray, List.getElem?_cons_succ, List.getElem?_cons_zero]; rfl) (by kernel_rfl) (by kernel_rfl) (by kernel_rfl) (by kernel_rfl) (by kernel_rfl) (fun _ _ _ h => h) (Or.inr ⟨by rfl, rfl⟩) (by assumption) ?_
                  try simp only [Act.put, List.setIfInBounds_toArray, List.set_cons_zero, List.set_cons_succ]
                  refine wpAnyW_take (i := 16) (v := undef) (by simp only [List.getElem?_toArray, List.getElem?_cons_succ, List.getElem?_cons_zero]; rfl) (by kernel_rfl) (by kernel_rfl) (by kernel_rfl) (by kernel_rfl) (by kernel_rfl) (fun _ _ _ h => h) (Or.inr ⟨by rfl, rfl⟩) (by assumption) ?_
                  try simp only [Act.put, List.setIfInBounds_toArray, List.set_cons_zero, List.set_cons_succ]
                  refine wpAnyW_take (i := 17) (v := undef) (by simp only [List.getElem?_toArray, List.getElem?_cons_succ, List.getElem?_cons_zero]; rfl) (by kernel_rfl) (by kernel_rfl) (by kernel_rfl) (by kernel_rfl) (by kernel_rfl) (fun _ _ _ h => h) (Or.inr ⟨by rfl, rfl⟩) (by assumption) ?_
                  try simp only [Act.put, List.setIfInBounds_toArray, List.set_cons_zero, List.set_cons_succ]
                  refine wpAnyW_take (i := 18) (v := undef) (by simp only [List.getElem?_toArray, List.getElem?_cons_succ, List.getElem?_cons_zero]; rfl) (by kernel_rfl) (by kernel_rfl) (by kernel_rfl) (by kernel_rfl) (by kernel_rfl) (fun _ _ _ h => h) (Or.inr ⟨by rfl, rfl⟩) (by assumption) ?_
                  try simp only [Act.put, List.setIfInBounds_toArray, List.set_cons_zero, List.set_cons_succ]
                  refine wpAnyW_take (i := 19) (v := undef) (by simp only [List.getElem?_toArray, List.getElem?_cons_succ, List.getElem?_cons_zero]; rfl) (by kernel_rfl) (by kernel_rfl) (by kernel_rfl) (by kernel_rfl) (by kernel_rfl) (fun _ _ _ h => h) (Or.inr ⟨by rfl, rfl⟩) (by assumption) ?_
                  try simp only [Act.put, List.setIfInBounds_toArray, List.set_cons_zero, List.set_cons_succ]
                  refine wpAnyW_take (i := 20) (v := undef) (by simp only [List.getElem?_toArray, List.getElem?_cons_succ, List.getElem?_cons_zero]; rfl) (by kernel_rfl) (by kernel_rfl) (by kernel_rfl) (by kernel_rfl) (by kernel_rfl) (fun _ _ _ h => h) (Or.inr ⟨by rfl, rfl⟩) (by assumption) ?_
                  try simp only [Act.put, List.setIfInBounds_toArray, List.set_cons_zero, List.set_cons_succ]
                  refine wpAnyW_take (i := 21) (v := ?_) (by simp only [List.getElem?_toArray, List.getElem?_cons_succ, List.getElem?_cons_zero]; rfl) (by kernel_rfl) (by kernel_rfl) (by kernel_rfl) (by kernel_rfl) (by kernel_rfl) (fun _ _ _ h => h) (Or.inl ⟨by rfl, ?_⟩) (by assumption) ?_
                  rotate_left 1
                  · (intro w' hSw; go_simp; try with_reducible rfl)
                  try simp only [Act.put, List.setIfInBounds_toArray, List.set_cons_zero, List.set_cons_succ]
                  have HE := Lib.hid hHeld
                  clear hHeld
                  refine wpAnyW_done (by kernel_rfl) ?_ _
                  refine NoPanic.normal ?_
                  go_wp2_with fail
                  go_roundw
                  case rel => exact ⟨i + 1, by omega, by go_num, Lib.hid (HBL.out.trans (HE.out.mono HBL.out.size))⟩
                  case measure => simp [intOf]; omega
              · obtain rfl : i = ww.length := by omega
                go_wp2_with fail
                replace R2 := Lib.hid (R2.out.below HBL.out)
                replace HQ := Lib.hid (HQ.out.later HBL.out)
                replace HX := Lib.hid (HX.out.later HBL.out)
                replace HWT := Lib.hid (HWT.out.below HBL.out)
                replace HB := Lib.hid (HB.out.trans (HBL.out.mono HB.out.size))
                have hsm := HSM.out
                have v1 : IntKind.i64.wrap ((tt.length : Int) + (r0 : Int)) = ((tt.length + r0 : Nat) : Int) := by rw [IntKind.wrap_i64]; omega
                have v2 : decide (((tt.length + r0 : Nat) : Int) ≤ (w0 : Int)) = true := by rw [decide_eq_true_iff]; omega
                clear hsm x1 HBL
                generalize ((tt.length + r0 : Nat) : Int) = trs at *
                generalize wr = wz2 at *
                have HS : (fun V => Below wz2.heap.size wz2 V) wz2.drew := below_drawn (Below.refl _ _)
                refine wp_region_noPanic ?_
                refine wp_region_waits (S := (fun V => Below wz2.heap.size wz2 V)) [8] (by kernel_rfl) HS (fun hHeld => ?_)
                clear HS
                refine wpAnyW_take (i := 0) (v := ?_) (by simp only [List.getElem?_toArray, List.getElem?_cons_zero]; rfl) (by kernel_rfl) (by kernel_rfl) (by kernel_rfl) (by kernel_rfl) (by kernel_rfl) (fun _ _ _ h => h) (Or.inl ⟨by rfl, ?_⟩) (by assumption) ?_
                rotate_left 1
                · (intro w' hSw; go_simp; try with_reducible rfl)
                try simp only [Act.put, List.setIfInBounds_toArray, List.set_cons_zero, List.set_cons_succ]
                refine wpAnyW_take (i := 1) (v := ?_) (by simp only [List.getElem?_toArray, List.getElem?_cons_succ, List.getElem?_cons_zero]; rfl) (by kernel_rfl) (by kernel_rfl) (by kernel_rfl) (by kernel_rfl) (by kernel_rfl) (fun _ _ _ h => h) (Or.inl ⟨by rfl, ?_⟩) (by assumption) ?_
                rotate_left 1
                · (intro w' hSw; go_simp; try with_reducible rfl)
                try simp only [Act.put, List.setIfInBounds_toArray, List.set_cons_zero, List.set_cons_succ]
                refine wpAnyW_take (i := 2) (v := _) (by simp only [List.getElem?_toArray, List.getElem?_cons_succ, List.getElem?_cons_zero]; rfl) (by kernel_rfl) (by kernel_rfl) (by kernel_rfl) (by kernel_rfl) (by kernel_rfl) (fun _ _ _ h => h) (yB (ty := 27) (by rfl) rfl rfl (fun V h => HX.out.later h) Try.underlying27 rfl infoQ) (by assumption) ?_
                try simp only [Act.put, List.setIfInBounds_toArray, List.set_cons_zero, List.set_cons_succ]
                refine wpAnyW_take (i := 5) (v := _) (by simp only [List.getElem?_toArray, List.getElem?_cons_succ, List.getElem?_cons_zero]; rfl) (by kernel_rfl) (by kernel_rfl) (by kernel_rfl) (by kernel_rfl) (by kernel_rfl) (fun _ _ _ h => h) (yB (ty := 27) (by rfl) rfl rfl (fun V h => HQ.out.later h) Try.underlying27 rfl infoQ) (by assumption) ?_
                try simp only [Act.put, List.setIfInBounds_toArray, List.set_cons_zero, List.set_cons_succ]
                refine wpAnyW_held (i := 3) (by kernel_rfl) (by simp only [List.getElem?_toArray, List.getElem?_cons_succ, List.getElem?_cons_zero]; rfl) (fun K hK => ?_)
                rw [if_pos (by rfl)]
                go_simp
                refine (HR0.out _ _ _ rfl (R2.out.below hHeld)).mono ?_
                rintro _ w3x ⟨rfl, hb⟩
                have HS : (fun V => Below wz2.heap.size wz2 V) _ := hHeld.trans (hb.mono hHeld.size)
                clear hHeld hb
                go_wp2_with fail
                refine hK.out _ _ HS (fun hHeld => ?_)
                clear hK K HS
                try simp only [Act.put, List.setIfInBounds_toArray, List.set_cons_zero, List.set_cons_succ]
                refine wpAnyW_take (i := 4) (v := ?_) (by simp only [List.getElem?_toArray, List.getElem?_cons_succ, List.getElem?_cons_zero]; rfl) (by kernel_rfl) (by kernel_rfl) (by kernel_rfl) (by kernel_rfl) (by kernel_rfl) (fun _ _ _ h => h) (Or.inl ⟨by rfl, ?_⟩) (by assumption) ?_
                rotate_left 1
                · (intro w' hSw; go_simp; try with_reducible rfl)
                try simp only [Act.put, List.setIfInBounds_toArray, List.set_cons_zero, List.set_cons_succ]
                refine wpAnyW_held (i := 6) (by kernel_rfl) (by simp only [List.getElem?_toArray, List.getElem?_cons_succ, List.getElem?_cons_zero]; rfl) (fun K hK => ?_)
                rw [if_pos (by rfl)]
                go_simp
                refine (HQ0.out _ _ _ rfl (HWT.out.below hHeld)).mono ?_
                rintro _ w6x ⟨rfl, hb⟩
                have HS : (fun V => Below wz2.heap.size wz2 V) _ := hHeld.trans (hb.mono hHeld.size)
                clear hHeld hb
                go_wp2_with fail
                refine hK.out _ _ HS (fun hHeld => ?_)
                clear hK K HS
                try simp only [Act.put, List.setIfInBounds_toArray, List.set_cons_zero, List.set_cons_succ]
                refine wpAnyW_take (i := 7) (v := ?_) (by simp only [List.getElem?_toArray, List.getElem?_cons_succ, List.getElem?_cons_zero]; rfl) (by kernel_rfl) (by kernel_rfl) (by kernel_rfl) (by kernel_rfl) (by kernel_rfl) (fun _ _ _ h => h) (Or.inl ⟨by rfl, ?_⟩) (by assumption) ?_
                rotate_left 1
                · (intro w' hSw; go_simp; try with_reducible rfl)
                try simp only [Act.put, List.setIfInBounds_toArray, List.set_cons_zero, List.set_cons_succ]
                refine wpAnyW_freed (i := 8) (by kernel_rfl) (by kernel_rfl) (by simp only [List.getElem?_toArray, List.getElem?_cons_succ, List.getElem?_cons_zero]; rfl) (fun K hK => ?_)
                rw [if_pos (by rfl)]
                go_simp
                replace HB := Lib.hid (HB.out.trans (hHeld.mono HB.out.size))
                refine hK.out _ _ ?_
                clear hK K hHeld
                try simp only [Act.put, List.setIfInBounds_toArray, List.set_cons_zero, List.set_cons_succ]
                refine wpAnyW_done (by kernel_rfl) ?_ _
                refine NoPanic.normal ?_
                go_wp2_with fail
                go_ret
                exact ⟨rfl, HB.out⟩
  · have q60 : ¬ (l.length : Int) ≤ 60 := by omega
    clear hce
    go_enter Try.func6, Try.ntmps6
    go_wp2_with (first
      | (go_at_call 8; (with_reducible refine (HSH.out _).mono ?_); rintro e w1 ⟨rfl, hb⟩; replace HB := Lib.hid (HB.out.trans (hb.mono HB.out.size)); clear hb)
      | (go_at_call 9; (with_reducible refine (HNW.out _).mono ?_); rintro e w2 ⟨A0, k0, rfl, hown, hb⟩; have RN0 := Lib.hid (row_of_own hown); replace HB := Lib.hid (HB.out.trans (hb.mono HB.out.size)); clear hown hb; obtain ⟨W3, hW3, HZ3, HC3, hs3⟩ := one_open w2 27 #[.slice none 0 0, .slice none 0 0]; obtain ⟨gq, hgq0⟩ : ∃ g, w2.heap.size = g := ⟨_, rfl⟩; rw [hgq0] at HZ3; clear hs3)
      | ((with_reducible refine gate9 ?_); refine stB (ty := 27) #[.slice A0 2 k0, .slice none 0 0] rfl rfl rfl rfl HZ3.out infoQ rfl (cellsQ_one _ _ _ _ _ _) ?_; intro w3 ht hg; have hb := below_of_grown1 HC3.out hg HC3.out.size (Nat.le_of_eq hgq0); have HQ := Lib.hid ht; have HN := Lib.hid (RN0.out.below hb); have hgw : w.heap.size ≤ gq := (by have := HB.out.size; omega); replace HB := Lib.hid (HB.out.trans (hb.mono HB.out.size)); clear ht hg hb HZ3 HC3 RN0))
    go_ret
    exact ⟨rfl, HB.out⟩

set_option maxRecDepth 100000 in
theorem lifted (os : Os) (started : os.Started) (H : Type) (enc : TypeId × Value → H) :
    ReturnsInHanded {} Try.checked os 6 .any (Rows.orderSkipsSpec.pre6 enc Try.prog Try.f6 Rows.orderSkipsRow.domain false) (Rows.orderSkipsSpec.post enc Try.prog Try.f6 false true false false) := by
  refine returnsInHanded_of_change_sized (C := Try.checked) own started (by kernel_rfl) Try.func6
    (ChangeSpec.witness6 (enc := enc) (C := Try.checked) false ⟨#[], #[.slice none 0 0, .int .i64 0], []⟩ 8 (by kernel_rfl) (by kernel_rfl) (by kernel_rfl) (by kernel_rfl)) ?_
  intro W base args ds gs before hval0 hW _ hreach _
  have hval : ∀ (j : Nat) t v, Try.f6.params[j]? = some t → args[j]? = some v → Value.okWide Try.prog W .any base t v := hval0
  obtain ⟨p, q, hA0, _, _, _, _⟩ := id hW
  have hA : DataW.TrodAll enc Try.prog W 0 (fun _ => true) true Try.f6.params.toList args.toList ds p := hA0
  rw [Try.params6] at hA hval
  obtain ⟨v0, vs0, d0, ds0, p0, q0, hargs, rfl, rfl, h0, r0⟩ := trodAll_cons hA
  obtain ⟨v1, vs1, d1, ds1, p1, q1, rfl, rfl, rfl, h1, r1⟩ := trodAll_cons r0
  obtain ⟨rfl, rfl, rfl⟩ := trodAll_nil r1
  obtain rfl : args = #[v0, v1] := by cases args; simp_all
  obtain ⟨l0, w0, m0⟩ := ints_in (hval 0 59 v0 rfl rfl) h0
  obtain ⟨a1, rfl, rfl, rfl, w1⟩ := open_int Try.underlying3 (hval 1 3 v1 rfl rfl) h1
  refine (walk l0 a1 m0 (bounds_i64 w1) v0 W w0).mono fun e W' ⟨he, hg⟩ => ?_
  subst he
  exact ⟨_, rfl, law_post laidOut Try.underlying4 (by kernel_rfl) (by kernel_rfl) rfl hW (by simp [Rows.orderSkipsSpec]) hg⟩

theorem proved : Rows.OrderSkipsSaid :=
  OpenClaim.holds_of_wide 6 Try.f6 rfl rfl rfl rfl rfl rfl rfl ⟨rfl, rfl, rfl, rfl, rfl⟩ rfl rfl rfl rfl rfl (by kernel_rfl) Try.func6 (by kernel_rfl)
    (of_decide_eq_true (by kernel_rfl)) (by unfold Func.isWrapper; first | (rw [if_pos (by decide +kernel)]; kernel_rfl) | (rw [if_neg (by decide +kernel)]; exact ⟨rfl, rfl⟩))
    (fun os started H enc _ => lifted os started H enc)
#print axioms proved
end Go.Proofs.Ytondgdacjbfihaa.orderSkips
