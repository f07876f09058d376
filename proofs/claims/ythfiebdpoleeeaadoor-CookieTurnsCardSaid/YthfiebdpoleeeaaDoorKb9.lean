/-
  Package cookie: keys: Build and Read: contracts.
-/
import Derived.Test.YthfiebdpoleeeaaDoorKy9
namespace Go.Proofs.YthfiebdpoleeeaaDoor
open Go.RowKit
set_option linter.unusedVariables false
set_option linter.unusedSimpArgs false

theorem kub_build (key : ByteArray) (s : St) : (buildK key s).1.size ≤ 200 ∨ True := .inr trivial
set_option maxHeartbeats 4000000 in
set_option maxRecDepth 100000 in
theorem kbuild_any (a : Nat) (k : Ky) (s : St) (hw : WfS s) (hk : k.nk.size ≤ 900000) (w : World) (hK : Kub w) (h : KyS w a k) :
    Calls Tryd.prog 22 #[.pointer (some ⟨a, 0, none⟩), .agg (cellsS s)] w fun e w' => e = .returned (.tuple #[.string (buildKy k s).1, .int .i64 ((buildKy k s).2 : Nat)]) ∧ Below w.heap.size w w' := by
  have HS := Lib.hid (StS.new 25 s w)
  have HI := Lib.hid (sizeS s)
  have h1 := h.later HS.out.below
  have c1 : (w.alloc (.cells (cellsS s) 25)).cell? ⟨a, 1, none⟩ = some (.bool k.nt) := by rw [cell_in h1]; rfl
  have HY := Lib.hid h1
  have HK := Lib.hid hK
  clear hK h h1
  cases hn : k.nt with
  | false =>
    have hr : buildKy k s = (⟨#[]⟩, 8) := by unfold buildKy; rw [hn]; rfl
    rw [hr]
    rw [hn] at c1
    clear hr hn hw hk HY
    go_enter Tryd.func22, Tryd.ntmps22
    go_wp2_with fail
    go_ret2
    exact ⟨rfl, HS.out.below⟩
  | true =>
  have hr : buildKy k s = buildK k.nk s := by unfold buildKy; rw [hn]; rfl
  rw [hr]
  rw [hn] at c1
  have HB := Lib.hid (fun W (h : Kub W) => build_any9 k.nk s hw hk W h)
  clear hr hn hw hk
  generalize buildK k.nk s = r at *
  go_enter Tryd.func22, Tryd.ntmps22
  go_wp2_with fail
  refine wp_region_noPanic ?_
  refine wp_region_held_drew (S := fun W' => KyS W' a k ∧ StS 25 w.heap.size s w W') (by kernel_rfl) ?_ (fun hHeld => ?_)
  · exact ⟨HY.out, HS.out.drew⟩
  refine k9 0 ?_ (y := ?_) (h := ?_)
  rotate_left 1
  · (intro w' hSw; (try dsimp only at hSw); go_simp; try with_reducible rfl)
  try simp only [Act.put, List.setIfInBounds_toArray, List.set_cons_zero, List.set_cons_succ]
  refine k9 1 ?_ (y := ?_) (h := ?_)
  rotate_left 1
  · (intro w' hSw; (try dsimp only at hSw); go_simp; try with_reducible rfl)
  try simp only [Act.put, List.setIfInBounds_toArray, List.set_cons_zero, List.set_cons_succ]
  refine k9 2 ?_ (y := ?_) (h := ?_)
  rotate_left 1
  · (intro w' hSw; (try dsimp only at hSw); go_simp; try with_reducible rfl)
  try simp only [Act.put, List.setIfInBounds_toArray, List.set_cons_zero, List.set_cons_succ]
  refine k9 3 ?_ (y := ?_) (h := ?_)
  rotate_left 1
  · (intro w' hSw; (try dsimp only at hSw); go_simp; try with_reducible rfl)
  try simp only [Act.put, List.setIfInBounds_toArray, List.set_cons_zero, List.set_cons_succ]
  refine k9 4 ?_ (y := ?_) (h := ?_)
  rotate_left 1
  · (intro w' hSw; have hq : w'.cell? ⟨a, 0, none⟩ = some (.string k.nk) := (by rw [cell_in hSw.1]; rfl); clear hSw; (try dsimp only at hSw); go_simp; try with_reducible rfl)
  try simp only [Act.put, List.setIfInBounds_toArray, List.set_cons_zero, List.set_cons_succ]
  refine k7 5 _ (y := yieldsIf_load_mid (by rfl) 25 (.tmp 3) rfl _ 0 (by rfl) _ _ (fun W h => range_of_row h.2.own) Tryd.underlying25 rfl HI.out) (h := ?_)
  try simp only [Act.put, List.setIfInBounds_toArray, List.set_cons_zero, List.set_cons_succ]
  refine wpAnyH_ready (rs := [6]) (by kernel_rfl) (by simp) ?_
  refine AllReadyH.cons (by simp only [q9a, q9s, q9z]; rfl) (fun K hK => ?_) AllReadyH.nil
  go_simp
  refine (HB.out _ (HK.out.later HS.out.below.drew)).mono ?_
  rintro _ w5 ⟨rfl, hb5⟩
  have HS5 := Lib.hid (HS.out.drew.later hb5)
  have HY5 := Lib.hid (KyS.later (W := (w.alloc (.cells (cellsS s) 25)).drew) HY.out hb5)
  refine hK.out _ _ ?_ (fun hHeld => ?_)
  · exact ⟨HY5.out, HS5.out⟩
  clear hK K
  try simp only [Act.put, List.setIfInBounds_toArray, List.set_cons_zero, List.set_cons_succ]
  refine k9 7 ?_ (y := ?_) (h := ?_)
  rotate_left 1
  · (intro w' hSw; (try dsimp only at hSw); go_simp; try with_reducible rfl)
  try simp only [Act.put, List.setIfInBounds_toArray, List.set_cons_zero, List.set_cons_succ]
  refine k9 8 ?_ (y := ?_) (h := ?_)
  rotate_left 1
  · (intro w' hSw; (try dsimp only at hSw); go_simp; try with_reducible rfl)
  try simp only [Act.put, List.setIfInBounds_toArray, List.set_cons_zero, List.set_cons_succ]
  refine k9 9 ?_ (y := ?_) (h := ?_)
  rotate_left 1
  · (intro w' hSw; (try dsimp only at hSw); go_simp; try with_reducible rfl)
  try simp only [Act.put, List.setIfInBounds_toArray, List.set_cons_zero, List.set_cons_succ]
  refine k9 10 ?_ (y := ?_) (h := ?_)
  rotate_left 1
  · (intro w' hSw; (try dsimp only at hSw); go_simp; try with_reducible rfl)
  try simp only [Act.put, List.setIfInBounds_toArray, List.set_cons_zero, List.set_cons_succ]
  refine wpAnyH_done (by kernel_rfl) ?_ _
  refine NoPanic.normal ?_
  clear hHeld
  go_wp2_with fail
  go_ret2
  exact ⟨rfl, HS5.out.below⟩

/-! ### Read -/
theorem ky_none {k : Ky} (c : ByteArray) (now : Int) (h : k.nt = false) : readKy k c now = (zeroS, 8) := by unfold readKy; rw [h]; rfl
theorem ky_bad {k : Ky} {c : ByteArray} {now : Int} {r : St × Nat} (h : k.nt = true) (ht : tryKy k c now = r) (he : r.2 ≠ 0) : readKy k c now = (zeroS, r.2) := by unfold readKy; rw [h, ht, if_pos rfl, if_pos he]
theorem ky_stale {k : Ky} {c : ByteArray} {now : Int} {r : St × Nat} (h : k.nt = true) (ht : tryKy k c now = r) (he : r.2 = 0) (hs : staleB r.1 now = true) : readKy k c now = (zeroS, 7) := by
  unfold readKy; rw [h, ht, if_pos rfl, if_neg (by simp [he]), if_pos hs]
theorem ky_good {k : Ky} {c : ByteArray} {now : Int} {r : St × Nat} (h : k.nt = true) (ht : tryKy k c now = r) (he : r.2 = 0) (hs : staleB r.1 now = false) : readKy k c now = r := by
  unfold readKy; rw [h, ht, if_pos rfl, if_neg (by simp [he]), if_neg (by simp [hs])]
theorem try_old {k : Ky} {c : ByteArray} {now : Int} (h5 : (readK k.nk c).2 = 5) (hs : stillB k now = true) : tryKy k c now = readK k.ok c := by unfold tryKy; rw [if_pos ⟨h5, hs⟩]
theorem try_no {k : Ky} {c : ByteArray} {now : Int} (hs : stillB k now = false) : tryKy k c now = readK k.nk c := by unfold tryKy; rw [if_neg (by simp [hs])]
theorem try_new {k : Ky} {c : ByteArray} {now : Int} (h5 : (readK k.nk c).2 ≠ 5) : tryKy k c now = readK k.nk c := by unfold tryKy; rw [if_neg (by simp [h5])]
def BoundN (n : Int) : Prop := -1125899906842624 ≤ n ∧ n ≤ 1125899906842624

set_option maxHeartbeats 4000000 in
set_option maxRecDepth 100000 in
theorem kread_new_bad (a : Nat) (k : Ky) (c : ByteArray) (now : Int) (hk1 : k.nk.size ≤ 900000) (hk2 : k.ok.size ≤ 900000) (hc : c.size ≤ 900000) (hn : k.nt = true) (h5 : (readK k.nk c).2 ≠ 5) (he : (readK k.nk c).2 ≠ 0) (w : World) (hK : Kub w) (h : KyS w a k) :
    Calls Tryd.prog 24 #[.pointer (some ⟨a, 0, none⟩), .string c, .int .i64 now] w fun e w' => e = .returned (.tuple #[.agg (cellsS (readKy k c now).1), .int .i64 ((readKy k c now).2 : Nat)]) ∧ Below w.heap.size w w' := by
  have hr := ky_bad (now := now) hn (try_new h5) he
  rw [hr]
  have HS : Hid (StS 25 w.heap.size zeroS w (w.alloc (.cells #[.int .u32 0, .int .u32 0, .int .u32 0, .int .u32 0, .int .u32 0, .int .u32 0, .int .u32 0, .int .u16 0, .int .u16 0, .int .u16 0, .int .u16 0, .string ⟨#[]⟩, .int .i64 0, .int .i64 0] 25))) := Lib.hid (StS.new 25 zeroS w)
  have HI := Lib.hid (sizeS zeroS)
  have HE := Lib.hid (cellsS_one zeroS)
  have HY : Hid (KyS (w.alloc (.cells #[.int .u32 0, .int .u32 0, .int .u32 0, .int .u32 0, .int .u32 0, .int .u32 0, .int .u32 0, .int .u16 0, .int .u16 0, .int .u16 0, .int .u16 0, .string ⟨#[]⟩, .int .i64 0, .int .i64 0] 25)) a k) := Lib.hid (h.later HS.out.below)
  have c1 : (w.alloc (.cells #[.int .u32 0, .int .u32 0, .int .u32 0, .int .u32 0, .int .u32 0, .int .u32 0, .int .u32 0, .int .u16 0, .int .u16 0, .int .u16 0, .int .u16 0, .string ⟨#[]⟩, .int .i64 0, .int .i64 0] 25)).cell? ⟨a, 1, none⟩ = some (.bool true) := by rw [cell_in HY.out, ← hn]; rfl
  have c0 : (w.alloc (.cells #[.int .u32 0, .int .u32 0, .int .u32 0, .int .u32 0, .int .u32 0, .int .u32 0, .int .u32 0, .int .u16 0, .int .u16 0, .int .u16 0, .int .u16 0, .string ⟨#[]⟩, .int .i64 0, .int .i64 0] 25)).cell? ⟨a, 0, none⟩ = some (.string k.nk) := by rw [cell_in HY.out]; rfl
  have HK := Lib.hid hK
  have HR1 := Lib.hid (fun W (h : Kub W) => read_any9 k.nk c hk1 hc W h)
  have h5i : ¬ (((readK k.nk c).2 : Nat) : Int) = 5 := by omega
  have hei : ¬ (((readK k.nk c).2 : Nat) : Int) = 0 := by omega
  clear hr he h5 hk1 hk2 hc hK hn h
  generalize readK k.nk c = r1 at *
  obtain ⟨s1, e1⟩ := r1
  dsimp only at *
  have HI1 := Lib.hid (sizeS s1)
  have HE1 := Lib.hid (cellsS_one s1)
  go_enter Tryd.func24, Tryd.ntmps24
  go_wp2_with fail
  refine (HR1.out _ (HK.out.later HS.out.below)).mono ?_
  rintro e w2 ⟨rfl, hb2⟩
  have HS2 := Lib.hid (HS.out.later hb2)
  have HN2 := Lib.hid (HS2.out.later ((Below.refl _ _).alloc (Nat.le_refl _) (.cells (cellsS s1) 25)))
  have HW2 := Lib.hid (heap_alloc_new w2 (.cells (cellsS s1) 25))
  have HY2 := Lib.hid ((HY.out.later hb2).later ((Below.refl _ _).alloc (Nat.le_refl _) (.cells (cellsS s1) 25)))
  have HSA : Hid ((w2.alloc (.cells #[.int .u32 0, .int .u32 0, .int .u32 0, .int .u32 0, .int .u32 0, .int .u32 0, .int .u32 0, .int .u16 0, .int .u16 0, .int .u16 0, .int .u16 0, .string ⟨#[]⟩, .int .i64 0, .int .i64 0] 25)).setRow w2.heap.size (cellsS s1) = w2.alloc (.cells (cellsS s1) 25)) := Lib.hid (World.setRow_alloc_new _ _ _ _)
  have hlt2 : w.heap.size < w2.heap.size := HS2.out.lt
  clear hb2 HS c0 c1 HR1 HY
  go_wp2_with (first
    | (refine wpList_store_row rfl 25 (.tmp 8) (.tmp 25) rfl w2.heap.size (cellsS s1) rfl rfl 25 #[.int .u32 0, .int .u32 0, .int .u32 0, .int .u32 0, .int .u32 0, .int .u32 0, .int .u32 0, .int .u16 0, .int .u16 0, .int .u16 0, .int .u16 0, .string ⟨#[]⟩, .int .i64 0, .int .i64 0] (heap_alloc_new _ _) HI1.out rfl HE1.out ?_; rw [HSA.out])
    | (refine wpList_store_row rfl 25 (.tmp 6) (.tmp 47) rfl w.heap.size (cellsS zeroS) rfl rfl 25 (cellsS zeroS) HN2.out.own HI.out rfl HE.out ?_))
  refine bodyPost_ret (results_row1 (P := Tryd.prog) rfl _ _ w.heap.size 25 (cellsS zeroS) (0, 0) _ rfl (setRow_at HN2.out.own) Tryd.underlying25 rfl HI.out) rfl ⟨rfl, below_setRow HN2.out.below _ _ (Nat.le_refl _)⟩

set_option maxHeartbeats 4000000 in
set_option maxRecDepth 100000 in
theorem kread_new_stale (a : Nat) (k : Ky) (c : ByteArray) (now : Int) (hk1 : k.nk.size ≤ 900000) (hk2 : k.ok.size ≤ 900000) (hc : c.size ≤ 900000) (hn : k.nt = true) (h5 : (readK k.nk c).2 ≠ 5) (hbn : BoundN now) (he : (readK k.nk c).2 = 0) (hs : staleB (readK k.nk c).1 now = true) (w : World) (hK : Kub w) (h : KyS w a k) :
    Calls Tryd.prog 24 #[.pointer (some ⟨a, 0, none⟩), .string c, .int .i64 now] w fun e w' => e = .returned (.tuple #[.agg (cellsS (readKy k c now).1), .int .i64 ((readKy k c now).2 : Nat)]) ∧ Below w.heap.size w w' := by
  have hr := ky_stale (now := now) hn (try_new h5) he hs
  rw [hr]
  have HS : Hid (StS 25 w.heap.size zeroS w (w.alloc (.cells #[.int .u32 0, .int .u32 0, .int .u32 0, .int .u32 0, .int .u32 0, .int .u32 0, .int .u32 0, .int .u16 0, .int .u16 0, .int .u16 0, .int .u16 0, .string ⟨#[]⟩, .int .i64 0, .int .i64 0] 25))) := Lib.hid (StS.new 25 zeroS w)
  have HI := Lib.hid (sizeS zeroS)
  have HE := Lib.hid (cellsS_one zeroS)
  have HY : Hid (KyS (w.alloc (.cells #[.int .u32 0, .int .u32 0, .int .u32 0, .int .u32 0, .int .u32 0, .int .u32 0, .int .u32 0, .int .u16 0, .int .u16 0, .int .u16 0, .int .u16 0, .string ⟨#[]⟩, .int .i64 0, .int .i64 0] 25)) a k) := Lib.hid (h.later HS.out.below)
  have c1 : (w.alloc (.cells #[.int .u32 0, .int .u32 0, .int .u32 0, .int .u32 0, .int .u32 0, .int .u32 0, .int .u32 0, .int .u16 0, .int .u16 0, .int .u16 0, .int .u16 0, .string ⟨#[]⟩, .int .i64 0, .int .i64 0] 25)).cell? ⟨a, 1, none⟩ = some (.bool true) := by rw [cell_in HY.out, ← hn]; rfl
  have c0 : (w.alloc (.cells #[.int .u32 0, .int .u32 0, .int .u32 0, .int .u32 0, .int .u32 0, .int .u32 0, .int .u32 0, .int .u16 0, .int .u16 0, .int .u16 0, .int .u16 0, .string ⟨#[]⟩, .int .i64 0, .int .i64 0] 25)).cell? ⟨a, 0, none⟩ = some (.string k.nk) := by rw [cell_in HY.out]; rfl
  have HK := Lib.hid hK
  have HR1 := Lib.hid (fun W (h : Kub W) => read_any9 k.nk c hk1 hc W h)
  have hgood := (right_of (readK_good he).2).made
  have HSL := Lib.hid (fun W => stale_any (readK k.nk c).1 now hbn hgood W)
  rw [hs] at HSL
  rw [he] at HR1
  clear hr he h5 hs hgood hk1 hk2 hc hK hn h hbn
  generalize readK k.nk c = r1 at *
  obtain ⟨s1, e1⟩ := r1
  dsimp only at *
  have HI1 := Lib.hid (sizeS s1)
  have HE1 := Lib.hid (cellsS_one s1)
  go_enter Tryd.func24, Tryd.ntmps24
  go_wp2_with fail
  refine (HR1.out _ (HK.out.later HS.out.below)).mono ?_
  rintro e w2 ⟨rfl, hb2⟩
  have HS2 := Lib.hid (HS.out.later hb2)
  have HN2 := Lib.hid (HS2.out.later ((Below.refl _ _).alloc (Nat.le_refl _) (.cells (cellsS s1) 25)))
  have HW2 := Lib.hid (heap_alloc_new w2 (.cells (cellsS s1) 25))
  have HY2 := Lib.hid ((HY.out.later hb2).later ((Below.refl _ _).alloc (Nat.le_refl _) (.cells (cellsS s1) 25)))
  have HSA : Hid ((w2.alloc (.cells #[.int .u32 0, .int .u32 0, .int .u32 0, .int .u32 0, .int .u32 0, .int .u32 0, .int .u32 0, .int .u16 0, .int .u16 0, .int .u16 0, .int .u16 0, .string ⟨#[]⟩, .int .i64 0, .int .i64 0] 25)).setRow w2.heap.size (cellsS s1) = w2.alloc (.cells (cellsS s1) 25)) := Lib.hid (World.setRow_alloc_new _ _ _ _)
  have hlt2 : w.heap.size < w2.heap.size := HS2.out.lt
  clear hb2 HS c0 c1 HR1 HY
  go_wp2_with (first
    | (refine wpList_store_row rfl 25 (.tmp 8) (.tmp 25) rfl w2.heap.size (cellsS s1) rfl rfl 25 #[.int .u32 0, .int .u32 0, .int .u32 0, .int .u32 0, .int .u32 0, .int .u32 0, .int .u32 0, .int .u16 0, .int .u16 0, .int .u16 0, .int .u16 0, .string ⟨#[]⟩, .int .i64 0, .int .i64 0] (heap_alloc_new _ _) HI1.out rfl HE1.out ?_; rw [HSA.out])
    | (refine wpList_load_row rfl 25 (.tmp 8) rfl w2.heap.size rfl 25 (cellsS s1) (0, 0) _ HW2.out Tryd.underlying25 rfl HI1.out ?_))
  refine (HSL.out _).mono ?_
  rintro e w5 ⟨rfl, hb5⟩
  have HW5 := Lib.hid ((hb5.block w2.heap.size (Array.getElem?_eq_some_iff.1 HW2.out).1).trans HW2.out)
  have HN5 := Lib.hid ((hb5.block w.heap.size (Array.getElem?_eq_some_iff.1 HN2.out.own).1).trans HN2.out.own)
  have HB5 := Lib.hid (HN2.out.below.trans (hb5.mono HN2.out.below.size))
  clear hb5 HSL
  go_wp2_with (refine wpList_store_row rfl 25 (.tmp 6) (.tmp 53) rfl w.heap.size (cellsS zeroS) rfl rfl 25 (cellsS zeroS) HN5.out HI.out rfl HE.out ?_)
  refine bodyPost_ret (results_row1 (P := Tryd.prog) rfl _ _ w.heap.size 25 (cellsS zeroS) (0, 0) _ rfl (setRow_at HN5.out) Tryd.underlying25 rfl HI.out) rfl ⟨rfl, below_setRow HB5.out _ _ (Nat.le_refl _)⟩

set_option maxHeartbeats 4000000 in
set_option maxRecDepth 100000 in
theorem kread_new_good (a : Nat) (k : Ky) (c : ByteArray) (now : Int) (hk1 : k.nk.size ≤ 900000) (hk2 : k.ok.size ≤ 900000) (hc : c.size ≤ 900000) (hn : k.nt = true) (h5 : (readK k.nk c).2 ≠ 5) (hbn : BoundN now) (he : (readK k.nk c).2 = 0) (hs : staleB (readK k.nk c).1 now = false) (w : World) (hK : Kub w) (h : KyS w a k) :
    Calls Tryd.prog 24 #[.pointer (some ⟨a, 0, none⟩), .string c, .int .i64 now] w fun e w' => e = .returned (.tuple #[.agg (cellsS (readKy k c now).1), .int .i64 ((readKy k c now).2 : Nat)]) ∧ Below w.heap.size w w' := by
  have hr := ky_good (now := now) hn (try_new h5) he hs
  rw [hr]
  have HS : Hid (StS 25 w.heap.size zeroS w (w.alloc (.cells #[.int .u32 0, .int .u32 0, .int .u32 0, .int .u32 0, .int .u32 0, .int .u32 0, .int .u32 0, .int .u16 0, .int .u16 0, .int .u16 0, .int .u16 0, .string ⟨#[]⟩, .int .i64 0, .int .i64 0] 25))) := Lib.hid (StS.new 25 zeroS w)
  have HI := Lib.hid (sizeS zeroS)
  have HE := Lib.hid (cellsS_one zeroS)
  have HY : Hid (KyS (w.alloc (.cells #[.int .u32 0, .int .u32 0, .int .u32 0, .int .u32 0, .int .u32 0, .int .u32 0, .int .u32 0, .int .u16 0, .int .u16 0, .int .u16 0, .int .u16 0, .string ⟨#[]⟩, .int .i64 0, .int .i64 0] 25)) a k) := Lib.hid (h.later HS.out.below)
  have c1 : (w.alloc (.cells #[.int .u32 0, .int .u32 0, .int .u32 0, .int .u32 0, .int .u32 0, .int .u32 0, .int .u32 0, .int .u16 0, .int .u16 0, .int .u16 0, .int .u16 0, .string ⟨#[]⟩, .int .i64 0, .int .i64 0] 25)).cell? ⟨a, 1, none⟩ = some (.bool true) := by rw [cell_in HY.out, ← hn]; rfl
  have c0 : (w.alloc (.cells #[.int .u32 0, .int .u32 0, .int .u32 0, .int .u32 0, .int .u32 0, .int .u32 0, .int .u32 0, .int .u16 0, .int .u16 0, .int .u16 0, .int .u16 0, .string ⟨#[]⟩, .int .i64 0, .int .i64 0] 25)).cell? ⟨a, 0, none⟩ = some (.string k.nk) := by rw [cell_in HY.out]; rfl
  have HK := Lib.hid hK
  have HR1 := Lib.hid (fun W (h : Kub W) => read_any9 k.nk c hk1 hc W h)
  have hgood := (right_of (readK_good he).2).made
  have HSL := Lib.hid (fun W => stale_any (readK k.nk c).1 now hbn hgood W)
  rw [hs] at HSL
  rw [he] at HR1
  rw [he]
  clear hr he h5 hs hgood hk1 hk2 hc hK hn h hbn
  generalize readK k.nk c = r1 at *
  obtain ⟨s1, e1⟩ := r1
  dsimp only at *
  have HI1 := Lib.hid (sizeS s1)
  have HE1 := Lib.hid (cellsS_one s1)
  go_enter Tryd.func24, Tryd.ntmps24
  go_wp2_with fail
  refine (HR1.out _ (HK.out.later HS.out.below)).mono ?_
  rintro e w2 ⟨rfl, hb2⟩
  have HS2 := Lib.hid (HS.out.later hb2)
  have HN2 := Lib.hid (HS2.out.later ((Below.refl _ _).alloc (Nat.le_refl _) (.cells (cellsS s1) 25)))
  have HW2 := Lib.hid (heap_alloc_new w2 (.cells (cellsS s1) 25))
  have HY2 := Lib.hid ((HY.out.later hb2).later ((Below.refl _ _).alloc (Nat.le_refl _) (.cells (cellsS s1) 25)))
  have HSA : Hid ((w2.alloc (.cells #[.int .u32 0, .int .u32 0, .int .u32 0, .int .u32 0, .int .u32 0, .int .u32 0, .int .u32 0, .int .u16 0, .int .u16 0, .int .u16 0, .int .u16 0, .string ⟨#[]⟩, .int .i64 0, .int .i64 0] 25)).setRow w2.heap.size (cellsS s1) = w2.alloc (.cells (cellsS s1) 25)) := Lib.hid (World.setRow_alloc_new _ _ _ _)
  have hlt2 : w.heap.size < w2.heap.size := HS2.out.lt
  clear hb2 HS c0 c1 HR1 HY
  go_wp2_with (first
    | (refine wpList_store_row rfl 25 (.tmp 8) (.tmp 25) rfl w2.heap.size (cellsS s1) rfl rfl 25 #[.int .u32 0, .int .u32 0, .int .u32 0, .int .u32 0, .int .u32 0, .int .u32 0, .int .u32 0, .int .u16 0, .int .u16 0, .int .u16 0, .int .u16 0, .string ⟨#[]⟩, .int .i64 0, .int .i64 0] (heap_alloc_new _ _) HI1.out rfl HE1.out ?_; rw [HSA.out])
    | (refine wpList_load_row rfl 25 (.tmp 8) rfl w2.heap.size rfl 25 (cellsS s1) (0, 0) _ HW2.out Tryd.underlying25 rfl HI1.out ?_))
  refine (HSL.out _).mono ?_
  rintro e w5 ⟨rfl, hb5⟩
  have HW5 := Lib.hid ((hb5.block w2.heap.size (Array.getElem?_eq_some_iff.1 HW2.out).1).trans HW2.out)
  have HN5 := Lib.hid ((hb5.block w.heap.size (Array.getElem?_eq_some_iff.1 HN2.out.own).1).trans HN2.out.own)
  have HB5 := Lib.hid (HN2.out.below.trans (hb5.mono HN2.out.below.size))
  clear hb5 HSL
  go_wp2_with (first
    | (refine wpList_load_row rfl 25 (.tmp 8) rfl w2.heap.size rfl 25 (cellsS s1) (0, 0) _ HW5.out Tryd.underlying25 rfl HI1.out ?_)
    | (refine wpList_store_row rfl 25 (.tmp 6) (.tmp 54) rfl w.heap.size (cellsS s1) rfl rfl 25 (cellsS zeroS) HN5.out HI1.out rfl HE1.out ?_))
  refine bodyPost_ret (results_row1 (P := Tryd.prog) rfl _ _ w.heap.size 25 (cellsS s1) (0, 0) _ rfl (setRow_at HN5.out) Tryd.underlying25 rfl HI1.out) rfl ⟨rfl, below_setRow HB5.out _ _ (Nat.le_refl _)⟩

set_option maxHeartbeats 4000000 in
set_option maxRecDepth 100000 in
theorem kread_no_bad (a : Nat) (k : Ky) (c : ByteArray) (now : Int) (hk1 : k.nk.size ≤ 900000) (hk2 : k.ok.size ≤ 900000) (hc : c.size ≤ 900000) (hn : k.nt = true) (h5 : (readK k.nk c).2 = 5) (hst : stillB k now = false) (hbn : BoundN now) (hbs : BoundN k.since)  (w : World) (hK : Kub w) (h : KyS w a k) :
    Calls Tryd.prog 24 #[.pointer (some ⟨a, 0, none⟩), .string c, .int .i64 now] w fun e w' => e = .returned (.tuple #[.agg (cellsS (readKy k c now).1), .int .i64 ((readKy k c now).2 : Nat)]) ∧ Below w.heap.size w w' := by
  have hr := ky_bad (now := now) hn (try_no hst) (by rw [h5]; decide)
  rw [h5] at hr
  rw [hr]
  have HS : Hid (StS 25 w.heap.size zeroS w (w.alloc (.cells #[.int .u32 0, .int .u32 0, .int .u32 0, .int .u32 0, .int .u32 0, .int .u32 0, .int .u32 0, .int .u16 0, .int .u16 0, .int .u16 0, .int .u16 0, .string ⟨#[]⟩, .int .i64 0, .int .i64 0] 25))) := Lib.hid (StS.new 25 zeroS w)
  have HI := Lib.hid (sizeS zeroS)
  have HE := Lib.hid (cellsS_one zeroS)
  have HY : Hid (KyS (w.alloc (.cells #[.int .u32 0, .int .u32 0, .int .u32 0, .int .u32 0, .int .u32 0, .int .u32 0, .int .u32 0, .int .u16 0, .int .u16 0, .int .u16 0, .int .u16 0, .string ⟨#[]⟩, .int .i64 0, .int .i64 0] 25)) a k) := Lib.hid (h.later HS.out.below)
  have c1 : (w.alloc (.cells #[.int .u32 0, .int .u32 0, .int .u32 0, .int .u32 0, .int .u32 0, .int .u32 0, .int .u32 0, .int .u16 0, .int .u16 0, .int .u16 0, .int .u16 0, .string ⟨#[]⟩, .int .i64 0, .int .i64 0] 25)).cell? ⟨a, 1, none⟩ = some (.bool true) := by rw [cell_in HY.out, ← hn]; rfl
  have c0 : (w.alloc (.cells #[.int .u32 0, .int .u32 0, .int .u32 0, .int .u32 0, .int .u32 0, .int .u32 0, .int .u32 0, .int .u16 0, .int .u16 0, .int .u16 0, .int .u16 0, .string ⟨#[]⟩, .int .i64 0, .int .i64 0] 25)).cell? ⟨a, 0, none⟩ = some (.string k.nk) := by rw [cell_in HY.out]; rfl
  have HK := Lib.hid hK
  have HR1 := Lib.hid (fun W (h : Kub W) => read_any9 k.nk c hk1 hc W h)
  have HST := Lib.hid (fun W (h : KyS W a k) => still_any a k now hbn hbs W h)
  rw [hst] at HST
  rw [h5] at HR1
  clear hr h5 hst hk1 hk2 hc hK hn h hbn hbs
  generalize (readK k.nk c).1 = s1 at *
  have HI1 := Lib.hid (sizeS s1)
  have HE1 := Lib.hid (cellsS_one s1)
  go_enter Tryd.func24, Tryd.ntmps24
  go_wp2_with fail
  refine (HR1.out _ (HK.out.later HS.out.below)).mono ?_
  rintro e w2 ⟨rfl, hb2⟩
  have HS2 := Lib.hid (HS.out.later hb2)
  have HN2 := Lib.hid (HS2.out.later ((Below.refl _ _).alloc (Nat.le_refl _) (.cells (cellsS s1) 25)))
  have HW2 := Lib.hid (heap_alloc_new w2 (.cells (cellsS s1) 25))
  have HY2 := Lib.hid ((HY.out.later hb2).later ((Below.refl _ _).alloc (Nat.le_refl _) (.cells (cellsS s1) 25)))
  have HSA : Hid ((w2.alloc (.cells #[.int .u32 0, .int .u32 0, .int .u32 0, .int .u32 0, .int .u32 0, .int .u32 0, .int .u32 0, .int .u16 0, .int .u16 0, .int .u16 0, .int .u16 0, .string ⟨#[]⟩, .int .i64 0, .int .i64 0] 25)).setRow w2.heap.size (cellsS s1) = w2.alloc (.cells (cellsS s1) 25)) := Lib.hid (World.setRow_alloc_new _ _ _ _)
  have hlt2 : w.heap.size < w2.heap.size := HS2.out.lt
  clear hb2 HS c0 c1 HR1 HY
  go_wp2_with (first
    | (refine wpList_store_row rfl 25 (.tmp 8) (.tmp 25) rfl w2.heap.size (cellsS s1) rfl rfl 25 #[.int .u32 0, .int .u32 0, .int .u32 0, .int .u32 0, .int .u32 0, .int .u32 0, .int .u32 0, .int .u16 0, .int .u16 0, .int .u16 0, .int .u16 0, .string ⟨#[]⟩, .int .i64 0, .int .i64 0] (heap_alloc_new _ _) HI1.out rfl HE1.out ?_; rw [HSA.out])
    | (go_at_call 38; ((with_reducible refine (HST.out _ HY2.out).mono ?_); rintro e w3 ⟨rfl, rfl⟩))
    | (refine wpList_store_row rfl 25 (.tmp 6) (.tmp 47) rfl w.heap.size (cellsS zeroS) rfl rfl 25 (cellsS zeroS) HN2.out.own HI.out rfl HE.out ?_))
  refine bodyPost_ret (results_row1 (P := Tryd.prog) rfl _ _ w.heap.size 25 (cellsS zeroS) (0, 0) _ rfl (setRow_at HN2.out.own) Tryd.underlying25 rfl HI.out) rfl ⟨rfl, below_setRow HN2.out.below _ _ (Nat.le_refl _)⟩

set_option maxHeartbeats 4000000 in
set_option maxRecDepth 100000 in
theorem kread_old_bad (a : Nat) (k : Ky) (c : ByteArray) (now : Int) (hk1 : k.nk.size ≤ 900000) (hk2 : k.ok.size ≤ 900000) (hc : c.size ≤ 900000) (hn : k.nt = true) (h5 : (readK k.nk c).2 = 5) (hst : stillB k now = true) (hbn : BoundN now) (hbs : BoundN k.since) (he : (readK k.ok c).2 ≠ 0) (w : World) (hK : Kub w) (h : KyS w a k) :
    Calls Tryd.prog 24 #[.pointer (some ⟨a, 0, none⟩), .string c, .int .i64 now] w fun e w' => e = .returned (.tuple #[.agg (cellsS (readKy k c now).1), .int .i64 ((readKy k c now).2 : Nat)]) ∧ Below w.heap.size w w' := by
  have hr := ky_bad (now := now) hn (try_old h5 hst) he
  rw [hr]
  have HS : Hid (StS 25 w.heap.size zeroS w (w.alloc (.cells #[.int .u32 0, .int .u32 0, .int .u32 0, .int .u32 0, .int .u32 0, .int .u32 0, .int .u32 0, .int .u16 0, .int .u16 0, .int .u16 0, .int .u16 0, .string ⟨#[]⟩, .int .i64 0, .int .i64 0] 25))) := Lib.hid (StS.new 25 zeroS w)
  have HI := Lib.hid (sizeS zeroS)
  have HE := Lib.hid (cellsS_one zeroS)
  have HY : Hid (KyS (w.alloc (.cells #[.int .u32 0, .int .u32 0, .int .u32 0, .int .u32 0, .int .u32 0, .int .u32 0, .int .u32 0, .int .u16 0, .int .u16 0, .int .u16 0, .int .u16 0, .string ⟨#[]⟩, .int .i64 0, .int .i64 0] 25)) a k) := Lib.hid (h.later HS.out.below)
  have c1 : (w.alloc (.cells #[.int .u32 0, .int .u32 0, .int .u32 0, .int .u32 0, .int .u32 0, .int .u32 0, .int .u32 0, .int .u16 0, .int .u16 0, .int .u16 0, .int .u16 0, .string ⟨#[]⟩, .int .i64 0, .int .i64 0] 25)).cell? ⟨a, 1, none⟩ = some (.bool true) := by rw [cell_in HY.out, ← hn]; rfl
  have c0 : (w.alloc (.cells #[.int .u32 0, .int .u32 0, .int .u32 0, .int .u32 0, .int .u32 0, .int .u32 0, .int .u32 0, .int .u16 0, .int .u16 0, .int .u16 0, .int .u16 0, .string ⟨#[]⟩, .int .i64 0, .int .i64 0] 25)).cell? ⟨a, 0, none⟩ = some (.string k.nk) := by rw [cell_in HY.out]; rfl
  have HK := Lib.hid hK
  have HR1 := Lib.hid (fun W (h : Kub W) => read_any9 k.nk c hk1 hc W h)
  have HST := Lib.hid (fun W (h : KyS W a k) => still_any a k now hbn hbs W h)
  rw [hst] at HST
  have HR2 := Lib.hid (fun W (h : Kub W) => read_any9 k.ok c hk2 hc W h)
  rw [h5] at HR1
  have hei : ¬ (((readK k.ok c).2 : Nat) : Int) = 0 := by omega
  clear hr he h5 hst hk1 hk2 hc hK hn h hbn hbs
  generalize (readK k.nk c).1 = s1 at *
  generalize readK k.ok c = r2 at *
  obtain ⟨s2, e2⟩ := r2
  dsimp only at *
  have HI1 := Lib.hid (sizeS s1)
  have HE1 := Lib.hid (cellsS_one s1)
  have HI2 := Lib.hid (sizeS s2)
  have HE2 := Lib.hid (cellsS_one s2)
  go_enter Tryd.func24, Tryd.ntmps24
  go_wp2_with fail
  refine (HR1.out _ (HK.out.later HS.out.below)).mono ?_
  rintro e w2 ⟨rfl, hb2⟩
  have HS2 := Lib.hid (HS.out.later hb2)
  have HN2 := Lib.hid (HS2.out.later ((Below.refl _ _).alloc (Nat.le_refl _) (.cells (cellsS s1) 25)))
  have HW2 := Lib.hid (heap_alloc_new w2 (.cells (cellsS s1) 25))
  have HY2 := Lib.hid ((HY.out.later hb2).later ((Below.refl _ _).alloc (Nat.le_refl _) (.cells (cellsS s1) 25)))
  have HSA : Hid ((w2.alloc (.cells #[.int .u32 0, .int .u32 0, .int .u32 0, .int .u32 0, .int .u32 0, .int .u32 0, .int .u32 0, .int .u16 0, .int .u16 0, .int .u16 0, .int .u16 0, .string ⟨#[]⟩, .int .i64 0, .int .i64 0] 25)).setRow w2.heap.size (cellsS s1) = w2.alloc (.cells (cellsS s1) 25)) := Lib.hid (World.setRow_alloc_new _ _ _ _)
  have hlt2 : w.heap.size < w2.heap.size := HS2.out.lt
  clear hb2 HS c0 c1 HR1 HY
  have k2 : (w2.alloc (.cells (cellsS s1) 25)).cell? ⟨a, 2, none⟩ = some (.string k.ok) := by rw [cell_in HY2.out]; rfl
  go_wp2_with (first
    | (refine wpList_store_row rfl 25 (.tmp 8) (.tmp 25) rfl w2.heap.size (cellsS s1) rfl rfl 25 #[.int .u32 0, .int .u32 0, .int .u32 0, .int .u32 0, .int .u32 0, .int .u32 0, .int .u32 0, .int .u16 0, .int .u16 0, .int .u16 0, .int .u16 0, .string ⟨#[]⟩, .int .i64 0, .int .i64 0] (heap_alloc_new _ _) HI1.out rfl HE1.out ?_; rw [HSA.out])
    | (go_at_call 38; ((with_reducible refine (HST.out _ HY2.out).mono ?_); rintro e w3 ⟨rfl, rfl⟩)))
  refine (HR2.out _ (HK.out.later HN2.out.below)).mono ?_
  rintro e w4 ⟨rfl, hb4⟩
  have HW3 := Lib.hid ((hb4.block w2.heap.size (by rw [World.size_alloc]; omega)).trans HW2.out)
  have HN3 := Lib.hid (HN2.out.later hb4)
  have HW4 := Lib.hid (setRow_at (cs := cellsS s2) HW3.out)
  have HN4 := Lib.hid ((setRow_other w4 w2.heap.size w.heap.size (cellsS s2) (by omega)).trans HN3.out.own)
  have HB4 := Lib.hid (below_setRow HN3.out.below w2.heap.size (cellsS s2) (by omega))
  clear hb4 HN2 HW2 k2 HY2 HST HR2
  go_wp2_with (first
    | (refine wpList_store_row rfl 25 (.tmp 8) (.tmp 42) rfl w2.heap.size (cellsS s2) rfl rfl 25 (cellsS s1) HW3.out HI2.out rfl HE2.out ?_)
    | (refine wpList_store_row rfl 25 (.tmp 6) (.tmp 47) rfl w.heap.size (cellsS zeroS) rfl rfl 25 (cellsS zeroS) HN4.out HI.out rfl HE.out ?_))
  refine bodyPost_ret (results_row1 (P := Tryd.prog) rfl _ _ w.heap.size 25 (cellsS zeroS) (0, 0) _ rfl (setRow_at HN4.out) Tryd.underlying25 rfl HI.out) rfl ⟨rfl, below_setRow HB4.out _ _ (Nat.le_refl _)⟩

set_option maxHeartbeats 4000000 in
set_option maxRecDepth 100000 in
theorem kread_old_stale (a : Nat) (k : Ky) (c : ByteArray) (now : Int) (hk1 : k.nk.size ≤ 900000) (hk2 : k.ok.size ≤ 900000) (hc : c.size ≤ 900000) (hn : k.nt = true) (h5 : (readK k.nk c).2 = 5) (hst : stillB k now = true) (hbn : BoundN now) (hbs : BoundN k.since) (he : (readK k.ok c).2 = 0) (hs : staleB (readK k.ok c).1 now = true) (w : World) (hK : Kub w) (h : KyS w a k) :
    Calls Tryd.prog 24 #[.pointer (some ⟨a, 0, none⟩), .string c, .int .i64 now] w fun e w' => e = .returned (.tuple #[.agg (cellsS (readKy k c now).1), .int .i64 ((readKy k c now).2 : Nat)]) ∧ Below w.heap.size w w' := by
  have hr := ky_stale (now := now) hn (try_old h5 hst) he hs
  rw [hr]
  have HS : Hid (StS 25 w.heap.size zeroS w (w.alloc (.cells #[.int .u32 0, .int .u32 0, .int .u32 0, .int .u32 0, .int .u32 0, .int .u32 0, .int .u32 0, .int .u16 0, .int .u16 0, .int .u16 0, .int .u16 0, .string ⟨#[]⟩, .int .i64 0, .int .i64 0] 25))) := Lib.hid (StS.new 25 zeroS w)
  have HI := Lib.hid (sizeS zeroS)
  have HE := Lib.hid (cellsS_one zeroS)
  have HY : Hid (KyS (w.alloc (.cells #[.int .u32 0, .int .u32 0, .int .u32 0, .int .u32 0, .int .u32 0, .int .u32 0, .int .u32 0, .int .u16 0, .int .u16 0, .int .u16 0, .int .u16 0, .string ⟨#[]⟩, .int .i64 0, .int .i64 0] 25)) a k) := Lib.hid (h.later HS.out.below)
  have c1 : (w.alloc (.cells #[.int .u32 0, .int .u32 0, .int .u32 0, .int .u32 0, .int .u32 0, .int .u32 0, .int .u32 0, .int .u16 0, .int .u16 0, .int .u16 0, .int .u16 0, .string ⟨#[]⟩, .int .i64 0, .int .i64 0] 25)).cell? ⟨a, 1, none⟩ = some (.bool true) := by rw [cell_in HY.out, ← hn]; rfl
  have c0 : (w.alloc (.cells #[.int .u32 0, .int .u32 0, .int .u32 0, .int .u32 0, .int .u32 0, .int .u32 0, .int .u32 0, .int .u16 0, .int .u16 0, .int .u16 0, .int .u16 0, .string ⟨#[]⟩, .int .i64 0, .int .i64 0] 25)).cell? ⟨a, 0, none⟩ = some (.string k.nk) := by rw [cell_in HY.out]; rfl
  have HK := Lib.hid hK
  have HR1 := Lib.hid (fun W (h : Kub W) => read_any9 k.nk c hk1 hc W h)
  have HST := Lib.hid (fun W (h : KyS W a k) => still_any a k now hbn hbs W h)
  rw [hst] at HST
  have HR2 := Lib.hid (fun W (h : Kub W) => read_any9 k.ok c hk2 hc W h)
  have hgood := (right_of (readK_good he).2).made
  have HSL := Lib.hid (fun W => stale_any (readK k.ok c).1 now hbn hgood W)
  rw [hs] at HSL
  rw [h5] at HR1
  rw [he] at HR2
  clear hr he h5 hst hs hgood hk1 hk2 hc hK hn h hbn hbs
  generalize (readK k.nk c).1 = s1 at *
  generalize readK k.ok c = r2 at *
  obtain ⟨s2, e2⟩ := r2
  dsimp only at *
  have HI1 := Lib.hid (sizeS s1)
  have HE1 := Lib.hid (cellsS_one s1)
  have HI2 := Lib.hid (sizeS s2)
  have HE2 := Lib.hid (cellsS_one s2)
  go_enter Tryd.func24, Tryd.ntmps24
  go_wp2_with fail
  refine (HR1.out _ (HK.out.later HS.out.below)).mono ?_
  rintro e w2 ⟨rfl, hb2⟩
  have HS2 := Lib.hid (HS.out.later hb2)
  have HN2 := Lib.hid (HS2.out.later ((Below.refl _ _).alloc (Nat.le_refl _) (.cells (cellsS s1) 25)))
  have HW2 := Lib.hid (heap_alloc_new w2 (.cells (cellsS s1) 25))
  have HY2 := Lib.hid ((HY.out.later hb2).later ((Below.refl _ _).alloc (Nat.le_refl _) (.cells (cellsS s1) 25)))
  have HSA : Hid ((w2.alloc (.cells #[.int .u32 0, .int .u32 0, .int .u32 0, .int .u32 0, .int .u32 0, .int .u32 0, .int .u32 0, .int .u16 0, .int .u16 0, .int .u16 0, .int .u16 0, .string ⟨#[]⟩, .int .i64 0, .int .i64 0] 25)).setRow w2.heap.size (cellsS s1) = w2.alloc (.cells (cellsS s1) 25)) := Lib.hid (World.setRow_alloc_new _ _ _ _)
  have hlt2 : w.heap.size < w2.heap.size := HS2.out.lt
  clear hb2 HS c0 c1 HR1 HY
  have k2 : (w2.alloc (.cells (cellsS s1) 25)).cell? ⟨a, 2, none⟩ = some (.string k.ok) := by rw [cell_in HY2.out]; rfl
  go_wp2_with (first
    | (refine wpList_store_row rfl 25 (.tmp 8) (.tmp 25) rfl w2.heap.size (cellsS s1) rfl rfl 25 #[.int .u32 0, .int .u32 0, .int .u32 0, .int .u32 0, .int .u32 0, .int .u32 0, .int .u32 0, .int .u16 0, .int .u16 0, .int .u16 0, .int .u16 0, .string ⟨#[]⟩, .int .i64 0, .int .i64 0] (heap_alloc_new _ _) HI1.out rfl HE1.out ?_; rw [HSA.out])
    | (go_at_call 38; ((with_reducible refine (HST.out _ HY2.out).mono ?_); rintro e w3 ⟨rfl, rfl⟩)))
  refine (HR2.out _ (HK.out.later HN2.out.below)).mono ?_
  rintro e w4 ⟨rfl, hb4⟩
  have HW3 := Lib.hid ((hb4.block w2.heap.size (by rw [World.size_alloc]; omega)).trans HW2.out)
  have HN3 := Lib.hid (HN2.out.later hb4)
  have HW4 := Lib.hid (setRow_at (cs := cellsS s2) HW3.out)
  have HN4 := Lib.hid ((setRow_other w4 w2.heap.size w.heap.size (cellsS s2) (by omega)).trans HN3.out.own)
  have HB4 := Lib.hid (below_setRow HN3.out.below w2.heap.size (cellsS s2) (by omega))
  clear hb4 HN2 HW2 k2 HY2 HST HR2
  go_wp2_with (first
    | (refine wpList_store_row rfl 25 (.tmp 8) (.tmp 42) rfl w2.heap.size (cellsS s2) rfl rfl 25 (cellsS s1) HW3.out HI2.out rfl HE2.out ?_)
    | (refine wpList_load_row rfl 25 (.tmp 8) rfl w2.heap.size rfl 25 (cellsS s2) (0, 0) _ HW4.out Tryd.underlying25 rfl HI2.out ?_))
  refine (HSL.out _).mono ?_
  rintro e w5 ⟨rfl, hb5⟩
  have HW5 := Lib.hid ((hb5.block w2.heap.size (Array.getElem?_eq_some_iff.1 HW4.out).1).trans HW4.out)
  have HN5 := Lib.hid ((hb5.block w.heap.size (Array.getElem?_eq_some_iff.1 HN4.out).1).trans HN4.out)
  have HB5 := Lib.hid (HB4.out.trans (hb5.mono HB4.out.size))
  clear hb5 HSL
  go_wp2_with (refine wpList_store_row rfl 25 (.tmp 6) (.tmp 53) rfl w.heap.size (cellsS zeroS) rfl rfl 25 (cellsS zeroS) HN5.out HI.out rfl HE.out ?_)
  refine bodyPost_ret (results_row1 (P := Tryd.prog) rfl _ _ w.heap.size 25 (cellsS zeroS) (0, 0) _ rfl (setRow_at HN5.out) Tryd.underlying25 rfl HI.out) rfl ⟨rfl, below_setRow HB5.out _ _ (Nat.le_refl _)⟩

set_option maxHeartbeats 4000000 in
set_option maxRecDepth 100000 in
theorem kread_old_good (a : Nat) (k : Ky) (c : ByteArray) (now : Int) (hk1 : k.nk.size ≤ 900000) (hk2 : k.ok.size ≤ 900000) (hc : c.size ≤ 900000) (hn : k.nt = true) (h5 : (readK k.nk c).2 = 5) (hst : stillB k now = true) (hbn : BoundN now) (hbs : BoundN k.since) (he : (readK k.ok c).2 = 0) (hs : staleB (readK k.ok c).1 now = false) (w : World) (hK : Kub w) (h : KyS w a k) :
    Calls Tryd.prog 24 #[.pointer (some ⟨a, 0, none⟩), .string c, .int .i64 now] w fun e w' => e = .returned (.tuple #[.agg (cellsS (readKy k c now).1), .int .i64 ((readKy k c now).2 : Nat)]) ∧ Below w.heap.size w w' := by
  have hr := ky_good (now := now) hn (try_old h5 hst) he hs
  rw [hr]
  have HS : Hid (StS 25 w.heap.size zeroS w (w.alloc (.cells #[.int .u32 0, .int .u32 0, .int .u32 0, .int .u32 0, .int .u32 0, .int .u32 0, .int .u32 0, .int .u16 0, .int .u16 0, .int .u16 0, .int .u16 0, .string ⟨#[]⟩, .int .i64 0, .int .i64 0] 25))) := Lib.hid (StS.new 25 zeroS w)
  have HI := Lib.hid (sizeS zeroS)
  have HE := Lib.hid (cellsS_one zeroS)
  have HY : Hid (KyS (w.alloc (.cells #[.int .u32 0, .int .u32 0, .int .u32 0, .int .u32 0, .int .u32 0, .int .u32 0, .int .u32 0, .int .u16 0, .int .u16 0, .int .u16 0, .int .u16 0, .string ⟨#[]⟩, .int .i64 0, .int .i64 0] 25)) a k) := Lib.hid (h.later HS.out.below)
  have c1 : (w.alloc (.cells #[.int .u32 0, .int .u32 0, .int .u32 0, .int .u32 0, .int .u32 0, .int .u32 0, .int .u32 0, .int .u16 0, .int .u16 0, .int .u16 0, .int .u16 0, .string ⟨#[]⟩, .int .i64 0, .int .i64 0] 25)).cell? ⟨a, 1, none⟩ = some (.bool true) := by rw [cell_in HY.out, ← hn]; rfl
  have c0 : (w.alloc (.cells #[.int .u32 0, .int .u32 0, .int .u32 0, .int .u32 0, .int .u32 0, .int .u32 0, .int .u32 0, .int .u16 0, .int .u16 0, .int .u16 0, .int .u16 0, .string ⟨#[]⟩, .int .i64 0, .int .i64 0] 25)).cell? ⟨a, 0, none⟩ = some (.string k.nk) := by rw [cell_in HY.out]; rfl
  have HK := Lib.hid hK
  have HR1 := Lib.hid (fun W (h : Kub W) => read_any9 k.nk c hk1 hc W h)
  have HST := Lib.hid (fun W (h : KyS W a k) => still_any a k now hbn hbs W h)
  rw [hst] at HST
  have HR2 := Lib.hid (fun W (h : Kub W) => read_any9 k.ok c hk2 hc W h)
  have hgood := (right_of (readK_good he).2).made
  have HSL := Lib.hid (fun W => stale_any (readK k.ok c).1 now hbn hgood W)
  rw [hs] at HSL
  rw [h5] at HR1
  rw [he] at HR2
  rw [he]
  clear hr he h5 hst hs hgood hk1 hk2 hc hK hn h hbn hbs
  generalize (readK k.nk c).1 = s1 at *
  generalize readK k.ok c = r2 at *
  obtain ⟨s2, e2⟩ := r2
  dsimp only at *
  have HI1 := Lib.hid (sizeS s1)
  have HE1 := Lib.hid (cellsS_one s1)
  have HI2 := Lib.hid (sizeS s2)
  have HE2 := Lib.hid (cellsS_one s2)
  go_enter Tryd.func24, Tryd.ntmps24
  go_wp2_with fail
  refine (HR1.out _ (HK.out.later HS.out.below)).mono ?_
  rintro e w2 ⟨rfl, hb2⟩
  have HS2 := Lib.hid (HS.out.later hb2)
  have HN2 := Lib.hid (HS2.out.later ((Below.refl _ _).alloc (Nat.le_refl _) (.cells (cellsS s1) 25)))
  have HW2 := Lib.hid (heap_alloc_new w2 (.cells (cellsS s1) 25))
  have HY2 := Lib.hid ((HY.out.later hb2).later ((Below.refl _ _).alloc (Nat.le_refl _) (.cells (cellsS s1) 25)))
  have HSA : Hid ((w2.alloc (.cells #[.int .u32 0, .int .u32 0, .int .u32 0, .int .u32 0, .int .u32 0, .int .u32 0, .int .u32 0, .int .u16 0, .int .u16 0, .int .u16 0, .int .u16 0, .string ⟨#[]⟩, .int .i64 0, .int .i64 0] 25)).setRow w2.heap.size (cellsS s1) = w2.alloc (.cells (cellsS s1) 25)) := Lib.hid (World.setRow_alloc_new _ _ _ _)
  have hlt2 : w.heap.size < w2.heap.size := HS2.out.lt
  clear hb2 HS c0 c1 HR1 HY
  have k2 : (w2.alloc (.cells (cellsS s1) 25)).cell? ⟨a, 2, none⟩ = some (.string k.ok) := by rw [cell_in HY2.out]; rfl
  go_wp2_with (first
    | (refine wpList_store_row rfl 25 (.tmp 8) (.tmp 25) rfl w2.heap.size (cellsS s1) rfl rfl 25 #[.int .u32 0, .int .u32 0, .int .u32 0, .int .u32 0, .int .u32 0, .int .u32 0, .int .u32 0, .int .u16 0, .int .u16 0, .int .u16 0, .int .u16 0, .string ⟨#[]⟩, .int .i64 0, .int .i64 0] (heap_alloc_new _ _) HI1.out rfl HE1.out ?_; rw [HSA.out])
    | (go_at_call 38; ((with_reducible refine (HST.out _ HY2.out).mono ?_); rintro e w3 ⟨rfl, rfl⟩)))
  refine (HR2.out _ (HK.out.later HN2.out.below)).mono ?_
  rintro e w4 ⟨rfl, hb4⟩
  have HW3 := Lib.hid ((hb4.block w2.heap.size (by rw [World.size_alloc]; omega)).trans HW2.out)
  have HN3 := Lib.hid (HN2.out.later hb4)
  have HW4 := Lib.hid (setRow_at (cs := cellsS s2) HW3.out)
  have HN4 := Lib.hid ((setRow_other w4 w2.heap.size w.heap.size (cellsS s2) (by omega)).trans HN3.out.own)
  have HB4 := Lib.hid (below_setRow HN3.out.below w2.heap.size (cellsS s2) (by omega))
  clear hb4 HN2 HW2 k2 HY2 HST HR2
  go_wp2_with (first
    | (refine wpList_store_row rfl 25 (.tmp 8) (.tmp 42) rfl w2.heap.size (cellsS s2) rfl rfl 25 (cellsS s1) HW3.out HI2.out rfl HE2.out ?_)
    | (refine wpList_load_row rfl 25 (.tmp 8) rfl w2.heap.size rfl 25 (cellsS s2) (0, 0) _ HW4.out Tryd.underlying25 rfl HI2.out ?_))
  refine (HSL.out _).mono ?_
  rintro e w5 ⟨rfl, hb5⟩
  have HW5 := Lib.hid ((hb5.block w2.heap.size (Array.getElem?_eq_some_iff.1 HW4.out).1).trans HW4.out)
  have HN5 := Lib.hid ((hb5.block w.heap.size (Array.getElem?_eq_some_iff.1 HN4.out).1).trans HN4.out)
  have HB5 := Lib.hid (HB4.out.trans (hb5.mono HB4.out.size))
  clear hb5 HSL
  go_wp2_with (first
    | (refine wpList_load_row rfl 25 (.tmp 8) rfl w2.heap.size rfl 25 (cellsS s2) (0, 0) _ HW5.out Tryd.underlying25 rfl HI2.out ?_)
    | (refine wpList_store_row rfl 25 (.tmp 6) (.tmp 54) rfl w.heap.size (cellsS s2) rfl rfl 25 (cellsS zeroS) HN5.out HI2.out rfl HE2.out ?_))
  refine bodyPost_ret (results_row1 (P := Tryd.prog) rfl _ _ w.heap.size 25 (cellsS s2) (0, 0) _ rfl (setRow_at HN5.out) Tryd.underlying25 rfl HI2.out) rfl ⟨rfl, below_setRow HB5.out _ _ (Nat.le_refl _)⟩

set_option maxHeartbeats 4000000 in
set_option maxRecDepth 100000 in
theorem kread_none (a : Nat) (k : Ky) (c : ByteArray) (now : Int) (hn : k.nt = false) (w : World) (h : KyS w a k) :
    Calls Tryd.prog 24 #[.pointer (some ⟨a, 0, none⟩), .string c, .int .i64 now] w fun e w' => e = .returned (.tuple #[.agg (cellsS (readKy k c now).1), .int .i64 ((readKy k c now).2 : Nat)]) ∧ Below w.heap.size w w' := by
  rw [ky_none c now hn]
  have HS : Hid (StS 25 w.heap.size zeroS w (w.alloc (.cells #[.int .u32 0, .int .u32 0, .int .u32 0, .int .u32 0, .int .u32 0, .int .u32 0, .int .u32 0, .int .u16 0, .int .u16 0, .int .u16 0, .int .u16 0, .string ⟨#[]⟩, .int .i64 0, .int .i64 0] 25))) := Lib.hid (StS.new 25 zeroS w)
  have HI := Lib.hid (sizeS zeroS)
  have c1 : (w.alloc (.cells #[.int .u32 0, .int .u32 0, .int .u32 0, .int .u32 0, .int .u32 0, .int .u32 0, .int .u32 0, .int .u16 0, .int .u16 0, .int .u16 0, .int .u16 0, .string ⟨#[]⟩, .int .i64 0, .int .i64 0] 25)).cell? ⟨a, 1, none⟩ = some (.bool false) := by rw [cell_in (h.later HS.out.below), ← hn]; rfl
  clear hn h
  go_enter Tryd.func24, Tryd.ntmps24
  go_wp2_with fail
  refine bodyPost_ret (results_row1 (P := Tryd.prog) rfl _ _ w.heap.size 25 (cellsS zeroS) (0, 0) _ rfl (heap_alloc_new w _) Tryd.underlying25 rfl HI.out) rfl ⟨rfl, HS.out.below⟩
/-- Read by keys, whatever they are. -/
theorem kread_any (a : Nat) (k : Ky) (c : ByteArray) (now : Int) (hk1 : k.nk.size ≤ 900000) (hk2 : k.ok.size ≤ 900000) (hc : c.size ≤ 900000) (hb : c.size < 32 ∨ BoundN now ∧ BoundN k.since) (w : World) (hK : Kub w) (h : KyS w a k) :
    Calls Tryd.prog 24 #[.pointer (some ⟨a, 0, none⟩), .string c, .int .i64 now] w fun e w' => e = .returned (.tuple #[.agg (cellsS (readKy k c now).1), .int .i64 ((readKy k c now).2 : Nat)]) ∧ Below w.heap.size w w' := by
  cases hn : k.nt with
  | false => exact kread_none a k c now hn w h
  | true =>
    rcases hb with hb | ⟨hbn, hbs⟩
    · have e3 : readK k.nk c = (zeroS, 3) := readK_short _ hb
      exact kread_new_bad a k c now hk1 hk2 hc hn (by rw [e3]; decide) (by rw [e3]; decide) w hK h
    · by_cases h5 : (readK k.nk c).2 = 5
      · cases hst : stillB k now with
        | false => exact kread_no_bad a k c now hk1 hk2 hc hn h5 hst hbn hbs w hK h
        | true =>
          by_cases he : (readK k.ok c).2 = 0
          · cases hs : staleB (readK k.ok c).1 now with
            | false => exact kread_old_good a k c now hk1 hk2 hc hn h5 hst hbn hbs he hs w hK h
            | true => exact kread_old_stale a k c now hk1 hk2 hc hn h5 hst hbn hbs he hs w hK h
          · exact kread_old_bad a k c now hk1 hk2 hc hn h5 hst hbn hbs he w hK h
      · by_cases he : (readK k.nk c).2 = 0
        · cases hs : staleB (readK k.nk c).1 now with
          | false => exact kread_new_good a k c now hk1 hk2 hc hn h5 hbn he hs w hK h
          | true => exact kread_new_stale a k c now hk1 hk2 hc hn h5 hbn he hs w hK h
        · exact kread_new_bad a k c now hk1 hk2 hc hn h5 he w hK h
end Go.Proofs.YthfiebdpoleeeaaDoor
