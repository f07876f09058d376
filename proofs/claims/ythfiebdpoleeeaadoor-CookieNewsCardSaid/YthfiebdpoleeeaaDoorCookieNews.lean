/-
  What is built is built under the key that was turned last; it is read at once: any keys (1 to 10, of at most 200 bytes each), any state (with a text of at most 300); others are not asked of.
-/
import Derived.Test.YthfiebdpoleeeaaDoorLift
import Derived.Test.YthfiebdpoleeeaaDoorSn9
import Derived.Test.YthfiebdpoleeeaaDoorLaid
import Derived.Test.YthfiebdpoleeeaaDoorCards
import Derived.Test.YthfiebdpoleeeaaDoorTie
import Derived.SevenTiedAt
import Derived.Test.YthfiebdpoleeeaaDoorAr9
import Derived.Test.YthfiebdpoleeeaaDoorOpen
import Derived.Deep.LoopGhost
namespace Go.Proofs.YthfiebdpoleeeaaDoor.cookieNews
open Go.ChangeShapes Go.WideShapes Go.ChangeAt Go.RowKit
set_option linter.unusedVariables false

theorem StS.grown {T n0 : Nat} {s : St} {w W W' : World} {a : Nat} (h : StS T n0 s w W) (hg : W.grownBy W' (some a)) (ha : n0 < a) : StS T n0 s w W' :=
  ⟨(hg.block n0 h.lt (by simp; omega)).trans h.own, h.below.trans (below_of_grown hg h.below.size (by have := h.base; omega)), h.base⟩
theorem news_read {k : Ky} {s : St} {y : ByteArray} (hn : k.nt = true) (hk : k.nk = y) (hw : WfS s) (hr : rightS s = true) : readKy k (cookieB y s) s.made = (s, 0) := by
  have e : readK k.nk (cookieB y s) = (s, 0) := by rw [hk]; exact read_back hw hr y
  have hl := (right_of hr).life
  rw [ky_good (now := s.made) hn (try_new (by rw [e]; show (0 : Nat) ≠ 5; decide)) (by rw [e]) (by rw [e]; unfold staleB; exact decide_eq_false (by dsimp only; omega)), e]
theorem news_short {k : Ky} {c : ByteArray} {now : Int} (hn : k.nt = true) (hc : c.size < 32) : readKy k c now = (zeroS, 3) := by
  have e : readK k.nk c = (zeroS, 3) := readK_short _ hc
  rw [ky_bad (now := now) hn (try_new (by rw [e]; decide)) (by rw [e]; decide), e]
/-- Where the rounds are. -/
def NwS (n3 a : Nat) (s : St) (w W : World) : Prop := StS 25 n3 s w W ∧ ∃ k, KyS W a k ∧ k.nk.size ≤ 200 ∧ k.ok.size ≤ 200
set_option maxHeartbeats 1000000 in
set_option maxRecDepth 100000 in
theorem walk (v : Value) (l : List ByteArray) (s : St) (hs : InS s) (w : World) (hv : RowE encS w v l) (hK : Kub w) :
    Calls Tryd.prog 7 #[v, .agg (cellsS s)] w fun e w' => e = .returned (.bool true) ∧ Below w.heap.size w w' := by
  have HS := Lib.hid (StS.new 25 s w)
  have HI := Lib.hid (sizeS s)
  have HE := Lib.hid (cellsS_one s)
  have HIz := Lib.hid (sizeS zeroS)
  have HEz := Lib.hid (cellsS_one zeroS)
  have HK := Lib.hid hK
  have HSH := Lib.hid (fun W => short_any s W)
  clear hK
  obtain ⟨A, cap, rfl, hcap, hmax, hcells⟩ := hv
  have HC := Lib.hid hcells
  clear hcells
  unfold maxLen at hmax
  generalize hn : l.length = n at *
  clear hn
  cases hsh : shortB s with
  | false =>
    rw [hsh] at HSH
    clear hsh hs
    go_enter Tryd.func7, Tryd.ntmps7
    go_wp2_with fail
    refine (shown_any _ (HK.out.later HS.out.below)).mono ?_
    rintro e w1 ⟨rfl, hb1⟩
    replace HS := Lib.hid (HS.out.later hb1)
    clear hb1
    go_wp2_with (refine wpList_load_want (by rfl) 25 (.tmp 3) rfl w.heap.size rfl 25 (cellsS s) (0, 0) _ HS.out.own Tryd.underlying25 rfl HI.out ?_)
    refine (HSH.out _).mono ?_
    rintro e w2 ⟨rfl, hb1⟩
    replace HS := Lib.hid (HS.out.later hb1)
    clear hb1
    go_wp2_with fail
    go_ret
    exact ⟨rfl, HS.out.below⟩
  | true =>
  rw [hsh] at HSH
  by_cases hk : 10 < n
  · have hk' : (10 : Int) < (n : Int) := by omega
    clear hsh hs hk
    go_enter Tryd.func7, Tryd.ntmps7
    go_wp2_with fail
    refine (shown_any _ (HK.out.later HS.out.below)).mono ?_
    rintro e w1 ⟨rfl, hb1⟩
    replace HS := Lib.hid (HS.out.later hb1)
    clear hb1
    go_wp2_with (refine wpList_load_want (by rfl) 25 (.tmp 3) rfl w.heap.size rfl 25 (cellsS s) (0, 0) _ HS.out.own Tryd.underlying25 rfl HI.out ?_)
    refine (HSH.out _).mono ?_
    rintro e w2 ⟨rfl, hb1⟩
    replace HS := Lib.hid (HS.out.later hb1)
    clear hb1
    go_wp2_with fail
    go_ret
    exact ⟨rfl, HS.out.below⟩
  by_cases h0 : n = 0
  · subst h0
    clear hsh hs
    go_enter Tryd.func7, Tryd.ntmps7
    go_wp2_with fail
    refine (shown_any _ (HK.out.later HS.out.below)).mono ?_
    rintro e w1 ⟨rfl, hb1⟩
    replace HS := Lib.hid (HS.out.later hb1)
    clear hb1
    go_wp2_with (refine wpList_load_want (by rfl) 25 (.tmp 3) rfl w.heap.size rfl 25 (cellsS s) (0, 0) _ HS.out.own Tryd.underlying25 rfl HI.out ?_)
    refine (HSH.out _).mono ?_
    rintro e w2 ⟨rfl, hb1⟩
    replace HS := Lib.hid (HS.out.later hb1)
    clear hb1
    go_wp2_with fail
    go_ret
    exact ⟨rfl, HS.out.below⟩
  have hk' : ¬ (10 : Int) < (n : Int) := by omega
  have h0' : ((n : Int) == 0) = false := beq_eq_false_iff_ne.2 (by omega)
  have hpos : 0 < n := by omega
  clear h0 hk
  obtain ⟨b, off, rfl, hbl, hcell⟩ := HC.out hpos
  clear hpos
  have HCL := Lib.hid (show ∀ k W, k < n → Below w.heap.size w W → W.cell? ⟨b, off + k, none⟩ = some (.string l[k]!) from fun k W hk hW => (hW.cell (p := ⟨b, off + k, none⟩) hbl).trans (hcell k hk))
  have hp : (s.peer.size : Int) ≤ 300 := of_decide_eq_true hsh
  have HIN := Lib.hid hs
  clear hcell HC hbl hsh hs
  go_enter Tryd.func7, Tryd.ntmps7
  go_wp2_with fail
  refine (shown_any _ (HK.out.later HS.out.below)).mono ?_
  rintro e w1 ⟨rfl, hb1⟩
  replace HS := Lib.hid (HS.out.later hb1)
  clear hb1
  go_wp2_with (refine wpList_load_want (by rfl) 25 (.tmp 3) rfl w.heap.size rfl 25 (cellsS s) (0, 0) _ HS.out.own Tryd.underlying25 rfl HI.out ?_)
  refine (HSH.out _).mono ?_
  rintro e w2 ⟨rfl, hb1⟩
  replace HS := Lib.hid (HS.out.later hb1)
  clear hb1
  have HN0 : Hid (NwS w.heap.size w2.heap.size s w (w2.alloc (.cells #[.string ⟨#[]⟩, .bool false, .string ⟨#[]⟩, .bool false, .int .i64 0] 46))) :=
    Lib.hid ⟨HS.out.later ((Below.refl _ _).alloc (Nat.le_refl _) _), zeroKy, heap_alloc_new w2 _, by decide, by decide⟩
  have hna : w.heap.size < w2.heap.size := HS.out.lt
  clear HS
  go_wp2_with fail
  generalize w2.heap.size = a at *
  generalize World.alloc w2 _ = w3 at *
  go_loopw [8] (fun i wr => ∃ k : Nat, k ≤ n ∧ i = .int .i64 k ∧ Hid (NwS w.heap.size a s w wr)) (fun i _ => n - (intOf i).toNat)
  case atStart => exact ⟨0, by omega, rfl, HN0⟩
  case round =>
    obtain ⟨k, hkn, rfl, HN⟩ := hrel
    by_cases hlt : k < n
    · have HCK := Lib.hid (fun W (hW : Below w.heap.size w W) => HCL.out k W hlt hW)
      generalize l[k]! = y at *
      have c0 := HCK.out wr HN.out.1.below
      have z0 : (0 : Int) ≤ (k : Int) := by omega
      have z1 : (k : Int) < (n : Int) := by omega
      by_cases hy : 200 < y.size
      · have hy' : (200 : Int) < (y.size : Int) := by omega
        go_wp2_with fail
        go_ret
        exact ⟨rfl, HN.out.1.below⟩
      have hy' : ¬ (200 : Int) < (y.size : Int) := by omega
      obtain ⟨hst, ky, hky, hs1, hs2⟩ := HN.out
      have HT := Lib.hid (turn_any a ky y (by omega) (k : Int) wr hky)
      obtain ⟨K1, hK1⟩ : ∃ K1, K1 = turnKy ky y (k : Int) := ⟨_, rfl⟩
      rw [← hK1] at HT
      have t1 : K1.nt = true := by rw [hK1]; rfl
      have t2 : K1.nk = y := by rw [hK1]; rfl
      have t3 : K1.ok.size ≤ 200 := by rw [hK1]; exact hs1
      have t4 : K1.since = (k : Int) := by rw [hK1]; rfl
      have HST := Lib.hid hst
      have hb := fun W (h : Kub W) => build_any9 y s HIN.out.wf (by omega) W h
      have hkb := fun W (h : Kub W) (hY : KyS W a K1) => kbuild_any a K1 s HIN.out.wf (by rw [t2]; omega) W h hY
      have ebk : buildKy K1 s = buildK y s := by unfold buildKy; rw [if_pos t1, t2]
      rw [ebk] at hkb
      have hrd := fun (c : ByteArray) (hc : c.size ≤ 900000) (hbb : c.size < 32 ∨ BoundN s.made ∧ BoundN K1.since) W (h : Kub W) (hY : KyS W a K1) => kread_any a K1 c s.made (by rw [t2]; omega) (by omega) hc hbb W h hY
      have HZ1 := Lib.hid (show K1.nk.size ≤ 200 by rw [t2]; omega)
      have HZ2 := Lib.hid t3
      clear hst hky hs1 hs2 HN hK1 ebk hy
      by_cases hr : rightS s = true
      · have hcs := cookie_size y s
        have hR := right_of hr
        have hrd1 := hrd (cookieB y s) (by omega) (.inr ⟨by have := hR.made; unfold BoundN; omega, by rw [t4]; unfold BoundN; omega⟩)
        rw [news_read t1 t2 HIN.out.wf hr] at hrd1
        rw [buildK_right y hr] at hb hkb
        generalize cookieB y s = C at *
        have hq := fun W => neq_same s W
        have RV : True := trivial
        have HB := Lib.hid hb
        have HKB := Lib.hid hkb
        have HRD := Lib.hid hrd1
        clear hb hkb hrd hrd1 hr hR hcs RV t1 t2 t3 t4
        go_wp2_with fail
        refine HT.out.mono ?_
        rintro e w4 ⟨rfl, hY4, hg4⟩
        have HS4 := Lib.hid (StS.grown HST.out hg4 hna)
        have HY4 := Lib.hid hY4
        clear hY4 hg4 HT HST
        go_wp2_with (refine wpList_load_want (by rfl) 25 (.tmp 3) rfl w.heap.size rfl 25 (cellsS s) (0, 0) _ HS4.out.own Tryd.underlying25 rfl HI.out ?_)
        refine (HKB.out _ (HK.out.later HS4.out.below) HY4.out).mono ?_
        rintro e w5 ⟨rfl, hb5⟩
        have HS5 := Lib.hid (HS4.out.later hb5)
        have HY5 := Lib.hid (HY4.out.later hb5)
        clear hb5 HKB HS4 HY4
        go_wp2_with fail
        refine wp_region_noPanic ?_
        refine wp_region_held_drew (S := fun W' => W'.cell? ⟨b, off + k, none⟩ = some (.string y) ∧ StS 25 w.heap.size s w W') (by kernel_rfl) ?_ (fun hHeld => ?_)
        · exact ⟨HCK.out w5.drew HS5.out.below.drew, HS5.out.drew⟩
        refine k9 0 ?_ (y := ?_) (h := ?_)
        rotate_left 1
        · (intro w' hSw; (try dsimp only at hSw); go_simp; try with_reducible rfl)
        try simp only [Act.put, List.setIfInBounds_toArray, List.set_cons_zero, List.set_cons_succ]
        refine k9 1 ?_ (y := ?_) (h := ?_)
        rotate_left 1
        · (intro w' hSw; (try dsimp only at hSw); go_simp; try with_reducible rfl)
        try simp only [Act.put, List.setIfInBounds_toArray, List.set_cons_zero, List.set_cons_succ]
        refine k9 2 ?_ (y := ?_) (h := ?_)
        rotate_left 1
        · (intro w' hSw; (try dsimp only at hSw); go_simp; try with_reducible rfl)
        try simp only [Act.put, List.setIfInBounds_toArray, List.set_cons_zero, List.set_cons_succ]
        refine k9 3 ?_ (y := ?_) (h := ?_)
        rotate_left 1
        · (intro w' hSw; have hq9 := hSw.1; clear hSw; (try dsimp only at hSw); go_simp; try with_reducible rfl)
        try simp only [Act.put, List.setIfInBounds_toArray, List.set_cons_zero, List.set_cons_succ]
        refine k7 4 _ (y := yieldsIf_load_mid (by rfl) 25 (.tmp 3) rfl _ 0 (by rfl) _ _ (fun W h => range_of_row h.2.own) Tryd.underlying25 rfl HI.out) (h := ?_)
        try simp only [Act.put, List.setIfInBounds_toArray, List.set_cons_zero, List.set_cons_succ]
        refine wpAnyH_ready (rs := [5]) (by kernel_rfl) (by simp) ?_
        refine AllReadyH.cons (by simp only [q9a, q9s, q9z]; rfl) (fun K hK => ?_) AllReadyH.nil
        go_simp
        refine (HB.out _ (HK.out.later HS5.out.below.drew)).mono ?_
        rintro _ w6 ⟨rfl, hb6⟩
        have HS6 := Lib.hid (HS5.out.drew.later hb6)
        have HY6 := Lib.hid (KyS.later (W := w5.drew) HY5.out hb6)
        refine hK.out _ _ ?_ (fun hHeld => ?_)
        · exact ⟨HCK.out w6 HS6.out.below, HS6.out⟩
        clear hK K
        try simp only [Act.put, List.setIfInBounds_toArray, List.set_cons_zero, List.set_cons_succ]
        refine k9 6 ?_ (y := ?_) (h := ?_)
        rotate_left 1
        · (intro w' hSw; (try dsimp only at hSw); go_simp; try with_reducible rfl)
        try simp only [Act.put, List.setIfInBounds_toArray, List.set_cons_zero, List.set_cons_succ]
        refine k9 7 ?_ (y := ?_) (h := ?_)
        rotate_left 1
        · (intro w' hSw; (try dsimp only at hSw); go_simp; try with_reducible rfl)
        try simp only [Act.put, List.setIfInBounds_toArray, List.set_cons_zero, List.set_cons_succ]
        refine k9 8 ?_ (y := ?_) (h := ?_)
        rotate_left 1
        · (intro w' hSw; (try dsimp only at hSw); go_simp; try with_reducible rfl)
        try simp only [Act.put, List.setIfInBounds_toArray, List.set_cons_zero, List.set_cons_succ]
        refine k9 9 ?_ (y := ?_) (h := ?_)
        rotate_left 1
        · (intro w' hSw; (try dsimp only at hSw); go_simp; try with_reducible rfl)
        try simp only [Act.put, List.setIfInBounds_toArray, List.set_cons_zero, List.set_cons_succ]
        refine k9 10 ?_ (y := ?_) (h := ?_)
        rotate_left 1
        · (intro w' hSw; (try dsimp only at hSw); go_simp; try with_reducible rfl)
        try simp only [Act.put, List.setIfInBounds_toArray, List.set_cons_zero, List.set_cons_succ]
        refine wpAnyH_done (by kernel_rfl) ?_ _
        refine NoPanic.normal ?_
        clear hHeld
        have k12 : w6.cell? ⟨w.heap.size, 12, none⟩ = some (.int .i64 s.made) := by rw [cell_in HS6.out.own]; rfl
        clear HS5 HY5 hb6
        go_wp2_with fail
        refine (HRD.out _ (HK.out.later HS6.out.below) HY6.out).mono ?_
        rintro e w7 ⟨rfl, hb7⟩
        have HS7 := Lib.hid ((HS6.out.later hb7).later ((Below.refl _ _).alloc (Nat.le_refl _) (.cells (cellsS s) 25)))
        have HY7 := Lib.hid ((HY6.out.later hb7).later ((Below.refl _ _).alloc (Nat.le_refl _) (.cells (cellsS s) 25)))
        have HO7 := Lib.hid (heap_alloc_new w7 (.cells (cellsS s) 25))
        clear hb7 HS6 HY6 HRD HB k12
        go_wp2_with (first
      | (refine wpList_store_row rfl 25 (.tmp 13) (.tmp 85) rfl w7.heap.size (cellsS s) rfl rfl 25 #[.int .u32 0, .int .u32 0, .int .u32 0, .int .u32 0, .int .u32 0, .int .u32 0, .int .u32 0, .int .u16 0, .int .u16 0, .int .u16 0, .int .u16 0, .string ⟨#[]⟩, .int .i64 0, .int .i64 0] (heap_alloc_new _ _) HI.out rfl HE.out ?_; rw [World.setRow_alloc_new])
      | (refine wpList_load_want (by rfl) 25 (.tmp 13) rfl w7.heap.size rfl 25 (cellsS s) (0, 0) _ HO7.out Tryd.underlying25 rfl HI.out ?_)
      | (refine wpList_load_want (by rfl) 25 (.tmp 3) rfl w.heap.size rfl 25 (cellsS s) (0, 0) _ HS7.out.own Tryd.underlying25 rfl HI.out ?_))
        go_roundw
        case rel => exact ⟨k + 1, by omega, by go_num, Lib.hid ⟨HS7.out, K1, HY7.out, HZ1.out, HZ2.out⟩⟩
        case measure => simp [intOf]; omega
      · have hr' : rightS s = false := by simpa using hr
        have hrd1 := hrd ⟨#[]⟩ (by decide) (.inl (by decide))
        rw [news_short t1 (by decide)] at hrd1
        rw [buildK_wrong y hr'] at hb hkb
        have HB := Lib.hid hb
        have HKB := Lib.hid hkb
        have HRD := Lib.hid hrd1
        clear hb hkb hrd hrd1 hr hr' t1 t2 t3 t4
        go_wp2_with fail
        refine HT.out.mono ?_
        rintro e w4 ⟨rfl, hY4, hg4⟩
        have HS4 := Lib.hid (StS.grown HST.out hg4 hna)
        have HY4 := Lib.hid hY4
        clear hY4 hg4 HT HST
        go_wp2_with (refine wpList_load_want (by rfl) 25 (.tmp 3) rfl w.heap.size rfl 25 (cellsS s) (0, 0) _ HS4.out.own Tryd.underlying25 rfl HI.out ?_)
        refine (HKB.out _ (HK.out.later HS4.out.below) HY4.out).mono ?_
        rintro e w5 ⟨rfl, hb5⟩
        have HS5 := Lib.hid (HS4.out.later hb5)
        have HY5 := Lib.hid (HY4.out.later hb5)
        clear hb5 HKB HS4 HY4
        go_wp2_with fail
        refine wp_region_noPanic ?_
        refine wp_region_held_drew (S := fun W' => W'.cell? ⟨b, off + k, none⟩ = some (.string y) ∧ StS 25 w.heap.size s w W') (by kernel_rfl) ?_ (fun hHeld => ?_)
        · exact ⟨HCK.out w5.drew HS5.out.below.drew, HS5.out.drew⟩
        refine k9 0 ?_ (y := ?_) (h := ?_)
        rotate_left 1
        · (intro w' hSw; (try dsimp only at hSw); go_simp; try with_reducible rfl)
        try simp only [Act.put, List.setIfInBounds_toArray, List.set_cons_zero, List.set_cons_succ]
        refine k9 1 ?_ (y := ?_) (h := ?_)
        rotate_left 1
        · (intro w' hSw; (try dsimp only at hSw); go_simp; try with_reducible rfl)
        try simp only [Act.put, List.setIfInBounds_toArray, List.set_cons_zero, List.set_cons_succ]
        refine k9 2 ?_ (y := ?_) (h := ?_)
        rotate_left 1
        · (intro w' hSw; (try dsimp only at hSw); go_simp; try with_reducible rfl)
        try simp only [Act.put, List.setIfInBounds_toArray, List.set_cons_zero, List.set_cons_succ]
        refine k9 3 ?_ (y := ?_) (h := ?_)
        rotate_left 1
        · (intro w' hSw; have hq9 := hSw.1; clear hSw; (try dsimp only at hSw); go_simp; try with_reducible rfl)
        try simp only [Act.put, List.setIfInBounds_toArray, List.set_cons_zero, List.set_cons_succ]
        refine k7 4 _ (y := yieldsIf_load_mid (by rfl) 25 (.tmp 3) rfl _ 0 (by rfl) _ _ (fun W h => range_of_row h.2.own) Tryd.underlying25 rfl HI.out) (h := ?_)
        try simp only [Act.put, List.setIfInBounds_toArray, List.set_cons_zero, List.set_cons_succ]
        refine wpAnyH_ready (rs := [5]) (by kernel_rfl) (by simp) ?_
        refine AllReadyH.cons (by simp only [q9a, q9s, q9z]; rfl) (fun K hK => ?_) AllReadyH.nil
        go_simp
        refine (HB.out _ (HK.out.later HS5.out.below.drew)).mono ?_
        rintro _ w6 ⟨rfl, hb6⟩
        have HS6 := Lib.hid (HS5.out.drew.later hb6)
        have HY6 := Lib.hid (KyS.later (W := w5.drew) HY5.out hb6)
        refine hK.out _ _ ?_ (fun hHeld => ?_)
        · exact ⟨HCK.out w6 HS6.out.below, HS6.out⟩
        clear hK K
        try simp only [Act.put, List.setIfInBounds_toArray, List.set_cons_zero, List.set_cons_succ]
        refine k9 6 ?_ (y := ?_) (h := ?_)
        rotate_left 1
        · (intro w' hSw; (try dsimp only at hSw); go_simp; try with_reducible rfl)
        try simp only [Act.put, List.setIfInBounds_toArray, List.set_cons_zero, List.set_cons_succ]
        refine k9 7 ?_ (y := ?_) (h := ?_)
        rotate_left 1
        · (intro w' hSw; (try dsimp only at hSw); go_simp; try with_reducible rfl)
        try simp only [Act.put, List.setIfInBounds_toArray, List.set_cons_zero, List.set_cons_succ]
        refine k9 8 ?_ (y := ?_) (h := ?_)
        rotate_left 1
        · (intro w' hSw; (try dsimp only at hSw); go_simp; try with_reducible rfl)
        try simp only [Act.put, List.setIfInBounds_toArray, List.set_cons_zero, List.set_cons_succ]
        refine k9 9 ?_ (y := ?_) (h := ?_)
        rotate_left 1
        · (intro w' hSw; (try dsimp only at hSw); go_simp; try with_reducible rfl)
        try simp only [Act.put, List.setIfInBounds_toArray, List.set_cons_zero, List.set_cons_succ]
        refine k9 10 ?_ (y := ?_) (h := ?_)
        rotate_left 1
        · (intro w' hSw; (try dsimp only at hSw); go_simp; try with_reducible rfl)
        try simp only [Act.put, List.setIfInBounds_toArray, List.set_cons_zero, List.set_cons_succ]
        refine wpAnyH_done (by kernel_rfl) ?_ _
        refine NoPanic.normal ?_
        clear hHeld
        have k12 : w6.cell? ⟨w.heap.size, 12, none⟩ = some (.int .i64 s.made) := by rw [cell_in HS6.out.own]; rfl
        clear HS5 HY5 hb6
        go_wp2_with fail
        refine (HRD.out _ (HK.out.later HS6.out.below) HY6.out).mono ?_
        rintro e w7 ⟨rfl, hb7⟩
        have HS7 := Lib.hid ((HS6.out.later hb7).later ((Below.refl _ _).alloc (Nat.le_refl _) (.cells (cellsS zeroS) 25)))
        have HY7 := Lib.hid ((HY6.out.later hb7).later ((Below.refl _ _).alloc (Nat.le_refl _) (.cells (cellsS zeroS) 25)))
        have HO7 := Lib.hid (heap_alloc_new w7 (.cells (cellsS zeroS) 25))
        clear hb7 HS6 HY6 HRD HB k12
        go_wp2_with (refine wpList_store_row rfl 25 (.tmp 13) (.tmp 85) rfl w7.heap.size (cellsS zeroS) rfl rfl 25 #[.int .u32 0, .int .u32 0, .int .u32 0, .int .u32 0, .int .u32 0, .int .u32 0, .int .u32 0, .int .u16 0, .int .u16 0, .int .u16 0, .int .u16 0, .string ⟨#[]⟩, .int .i64 0, .int .i64 0] (heap_alloc_new _ _) HIz.out rfl HEz.out ?_; rw [World.setRow_alloc_new])
        go_roundw
        case rel => exact ⟨k + 1, by omega, by go_num, Lib.hid ⟨HS7.out, K1, HY7.out, HZ1.out, HZ2.out⟩⟩
        case measure => simp [intOf]; omega
    · obtain rfl : k = n := by omega
      go_wp2_with fail
      go_ret
      exact ⟨rfl, HN.out.1.below⟩

set_option maxRecDepth 100000 in
theorem lifted (os : Os) (started : os.Started) (H : Type) (enc : TypeId × Value → H) :
    ReturnsInHanded {} Tryd.checked os 7 .any (fun w args => (Rows.cookieNewsSpec.pre enc Tryd.prog Tryd.f7 [] false w args ∧ laidMetH Tryd.prog laidK w) ∧ sizedMet enc Tryd.prog Tryd.f7 (OpenSpec.ofChange Rows.cookieNewsSpec) false w args) (Rows.cookieNewsSpec.post enc Tryd.prog Tryd.f7 false true false false) := by
  refine returnsInHanded_of_change_and (C := Tryd.checked) (X := fun w _ => laidMetH Tryd.prog laidK w) (fun _ _ _ hh h => h.of_heap hh) own started (by kernel_rfl) Tryd.func7
    (ChangeSpec.witness_shaped (enc := enc) (C := Tryd.checked) (os := os) (X := fun w _ => laidMetH Tryd.prog laidK w) false (World.doorLaid Tryd.prog 14 os) #[.slice none 0 0, .agg #[.int .u32 0, .int .u32 0, .int .u32 0, .int .u32 0, .int .u32 0, .int .u32 0, .int .u32 0, .int .u16 0, .int .u16 0, .int .u16 0, .int .u16 0, .string ⟨#[]⟩, .int .i64 0, .int .i64 0]] 8 rfl (World.shaped_of_RefB (by kernel_rfl) (by kernel_rfl)) (by kernel_rfl) (by kernel_rfl) (by kernel_rfl) (door_met os _)) ?_
  intro W base args ds gs before hval0 hW _ hreach hL _
  have hval : ∀ (j : Nat) t v, Tryd.f7.params[j]? = some t → args[j]? = some v → Value.okWide Tryd.prog W .any base t v := hval0
  obtain ⟨p, q, hA0, _, _, _, _⟩ := id hW
  have hA : DataW.TrodAll enc Tryd.prog W 0 (fun _ => true) true Tryd.f7.params.toList args.toList ds p := hA0
  rw [Tryd.params7] at hA hval
  obtain ⟨v0, vs0, d0, ds0, p0, q0, hargs, rfl, rfl, h0, r0⟩ := trodAll_cons hA
  obtain ⟨v1, vs1, d1, ds1, p1, q1, rfl, rfl, rfl, h1, r1⟩ := trodAll_cons r0
  obtain ⟨rfl, rfl, rfl⟩ := trodAll_nil r1
  obtain rfl : args = #[v0, v1] := by cases args; simp_all
  obtain ⟨l0, w0, s0⟩ := strings_in (hval 0 50 v0 rfl rfl) h0
  obtain ⟨s1, rfl, i1⟩ := state_in (hval 1 25 v1 rfl rfl) h1
  refine (walk v0 l0 s1 i1 W w0 (kub_of_laid hL)).mono fun e W' ⟨he, hg⟩ => ?_
  subst he
  exact ⟨_, rfl, law_post laidOut Tryd.underlying4 (by kernel_rfl) (by kernel_rfl) rfl hW (by simp [Rows.cookieNewsSpec]) hg⟩

theorem row_proved : Rows.CookieNewsSaid :=
  OpenClaim.holds_of_wide 7 Tryd.f7 rfl rfl rfl rfl rfl rfl rfl ⟨rfl, rfl, rfl, rfl, rfl⟩ rfl rfl rfl rfl rfl (by kernel_rfl) Tryd.func7 (by kernel_rfl)
    (of_decide_eq_true (by kernel_rfl)) (by unfold Func.isWrapper; first | (rw [if_pos (by decide +kernel)]; kernel_rfl) | (rw [if_neg (by decide +kernel)]; exact ⟨rfl, rfl⟩))
    (fun os started H enc _ => lifted os started H enc)

theorem proved : Rows.CookieNewsCardSaid :=
  Claim7.holds_tied_plain_at .later [] [.data] true _ _
    row_proved (fun _ h => by cases h) (by kernel_rfl) (fun _ h => by cases h) cookieNews_row_tie rfl ⟨rfl, rfl⟩ (by kernel_rfl) rfl
    (fun f fn hf hfn => by
      obtain rfl : f = 7 := Option.some.inj ((show Tryd.prog.funcNamed "towline/towlinelaw9.CookieNews" = some 7 by kernel_rfl).symm.trans hf) |>.symm
      obtain rfl : fn = Tryd.f7 := (Option.some.inj (Tryd.func7.symm.trans hfn)).symm
      exact ⟨by kernel_rfl, fun j t ht => by
        rw [Tryd.params7] at ht
        have hm : t ∈ [50, 25] := by have := Array.mem_of_getElem? ht; simp at this; simp; first | omega | (rcases this with h | h <;> simp [h]) | (rcases this with h | h | h <;> simp [h]) | (rcases this with h | h | h | h <;> simp [h])
        have hall : ([50, 25].all fun u => !Tryd.prog.wantsStandIn u) = true := by kernel_rfl
        exact (show Tryd.prog.wantsStandIn t = false by simpa using List.all_eq_true.1 hall t hm)⟩)
    (by kernel_rfl)
#print axioms proved
end Go.Proofs.YthfiebdpoleeeaaDoor.cookieNews
