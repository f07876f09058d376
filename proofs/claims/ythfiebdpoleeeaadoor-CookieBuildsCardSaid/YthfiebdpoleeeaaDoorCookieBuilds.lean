/-
  The cookie of a state, whether that is right, and the state of a cookie, or what is wrong, is as the chapter says: any text as a key (of at most 300 bytes), any state (with a text of at most 300), any text (of at most 500 bytes), and that text with its sum ahead of it; others are not asked of.
-/
import Derived.Test.YthfiebdpoleeeaaDoorLift
import Derived.Test.YthfiebdpoleeeaaDoorSn9
import Derived.Test.YthfiebdpoleeeaaDoorLaid
import Derived.Test.YthfiebdpoleeeaaDoorCards
import Derived.Test.YthfiebdpoleeeaaDoorTie
import Derived.SevenTiedAt
import Derived.Test.YthfiebdpoleeeaaDoorRj9
import Derived.Test.YthfiebdpoleeeaaDoorRa9
namespace Go.Proofs.YthfiebdpoleeeaaDoor.cookieBuilds
open Go.ChangeShapes Go.WideShapes Go.ChangeAt Go.RowKit
set_option linter.unusedVariables false

theorem sts_fresh {w W : World} (T : TypeId) (s : St) (hb : Below w.heap.size w W) : StS T W.heap.size s w (W.alloc (.cells (cellsS s) T)) := ⟨heap_alloc_new W _, hb.alloc hb.size _, hb.size⟩
theorem sts_alloc {T n0 : Nat} {s : St} {w W : World} (h : StS T n0 s w W) (o : Obj) : StS T n0 s w (W.alloc o) := h.later ((Below.refl _ _).alloc (Nat.le_refl _) _)
set_option maxHeartbeats 1000000 in
set_option maxRecDepth 100000 in
theorem walk (key c : ByteArray) (s : St) (hs : InS s) (w : World) (hK : Kub w) :
    Calls Tryd.prog 3 #[.string key, .agg (cellsS s), .string c] w fun e w' => e = .returned (.bool true) ∧ Below w.heap.size w w' := by
  have HS := Lib.hid (StS.new 25 s w)
  have HI := Lib.hid (sizeS s)
  have HK := Lib.hid hK
  have HSH := Lib.hid (fun W => short_any s W)
  clear hK
  cases hsh : shortB s with
  | false =>
    rw [hsh] at HSH
    clear hsh hs
    go_enter Tryd.func3, Tryd.ntmps3
    go_wp2_with fail
    refine (shown_any _ (HK.out.later HS.out.below)).mono ?_
    rintro e w1 ⟨rfl, hb1⟩
    replace HS := Lib.hid (HS.out.later hb1)
    clear hb1
    go_wp2_with (refine wpList_load_want (by rfl) 25 (.tmp 4) rfl w.heap.size rfl 25 (cellsS s) (0, 0) _ HS.out.own Tryd.underlying25 rfl HI.out ?_)
    refine (HSH.out _).mono ?_
    rintro e w2 ⟨rfl, hb1⟩
    replace HS := Lib.hid (HS.out.later hb1)
    clear hb1
    go_wp2_with fail
    go_ret
    exact ⟨rfl, HS.out.below⟩
  | true =>
  rw [hsh] at HSH
  by_cases hk : 300 < key.size
  · have hk' : (300 : Int) < (key.size : Int) := by omega
    clear hsh hs hk
    go_enter Tryd.func3, Tryd.ntmps3
    go_wp2_with fail
    refine (shown_any _ (HK.out.later HS.out.below)).mono ?_
    rintro e w1 ⟨rfl, hb1⟩
    replace HS := Lib.hid (HS.out.later hb1)
    clear hb1
    go_wp2_with (refine wpList_load_want (by rfl) 25 (.tmp 4) rfl w.heap.size rfl 25 (cellsS s) (0, 0) _ HS.out.own Tryd.underlying25 rfl HI.out ?_)
    refine (HSH.out _).mono ?_
    rintro e w2 ⟨rfl, hb1⟩
    replace HS := Lib.hid (HS.out.later hb1)
    clear hb1
    go_wp2_with fail
    go_ret
    exact ⟨rfl, HS.out.below⟩
  have hk' : ¬ (300 : Int) < (key.size : Int) := by omega
  by_cases hc : 500 < c.size
  · have hc' : (500 : Int) < (c.size : Int) := by omega
    clear hsh hs hk hc
    go_enter Tryd.func3, Tryd.ntmps3
    go_wp2_with fail
    refine (shown_any _ (HK.out.later HS.out.below)).mono ?_
    rintro e w1 ⟨rfl, hb1⟩
    replace HS := Lib.hid (HS.out.later hb1)
    clear hb1
    go_wp2_with (refine wpList_load_want (by rfl) 25 (.tmp 4) rfl w.heap.size rfl 25 (cellsS s) (0, 0) _ HS.out.own Tryd.underlying25 rfl HI.out ?_)
    refine (HSH.out _).mono ?_
    rintro e w2 ⟨rfl, hb1⟩
    replace HS := Lib.hid (HS.out.later hb1)
    clear hb1
    go_wp2_with fail
    go_ret
    exact ⟨rfl, HS.out.below⟩
  have hc' : ¬ (500 : Int) < (c.size : Int) := by omega
  have hz := hmacOf_size key c
  have HB := Lib.hid (fun W (h : Kub W) => build_any9 key s hs.wf (by omega) W h)
  have HRB := Lib.hid (fun W => rbuild_any9 key s hs.wf (by omega) W)
  have HAS := Lib.hid (fun (s : St) W => as_any9 s W)
  have HR1 := Lib.hid (fun W (h : Kub W) => read_any9 key c (by omega) (by omega) W h)
  have HQ1 := Lib.hid (fun W => rread_any9 key c (by omega) (by omega) W)
  have HH := Lib.hid (fun W => rhmac_any key c (by omega) (by omega) W)
  generalize hmacOf key c = D at *
  have hsg : (D ++ c).size ≤ 900000 := by rw [ByteArray.size_append]; omega
  have q1 : ¬ 9223372036854775807 < D.size + c.size := by omega
  have HR2 := Lib.hid (fun W (h : Kub W) => read_any9 key (D ++ c) (by omega) hsg W h)
  have HQ2 := Lib.hid (fun W => rread_any9 key (D ++ c) (by omega) hsg W)
  have HG := Lib.hid (fun W => right_any9 s W)
  have HRG := Lib.hid (fun W => rright_any9 s W)
  generalize buildK key s = r0 at *
  obtain ⟨A, E⟩ := r0
  generalize readK key c = r1 at *
  obtain ⟨X, G⟩ := r1
  have HDC := Lib.hid (show ∃ Y : ByteArray, Y = D ++ c from ⟨_, rfl⟩)
  generalize readK key (D ++ c) = r2 at *
  obtain ⟨U, I⟩ := r2
  generalize rightS s = rg at *
  dsimp only at HB HRB HR1 HQ1 HR2 HQ2
  clear hsh hs hk hc hsg HDC
  have HIx := Lib.hid (sizeS X)
  have HEx := Lib.hid (cellsS_one X)
  have HIxr := Lib.hid (sizeSr X)
  have HIu := Lib.hid (sizeS U)
  have HEu := Lib.hid (cellsS_one U)
  have HIur := Lib.hid (sizeSr U)
  have hqx := fun W => reql_same X W
  have hqu := fun W => reql_same U W
  go_enter Tryd.func3, Tryd.ntmps3
  go_wp2_with fail
  refine (shown_any _ (HK.out.later HS.out.below)).mono ?_
  rintro e w1 ⟨rfl, hb1⟩
  replace HS := Lib.hid (HS.out.later hb1)
  clear hb1
  go_wp2_with (refine wpList_load_want (by rfl) 25 (.tmp 4) rfl w.heap.size rfl 25 (cellsS s) (0, 0) _ HS.out.own Tryd.underlying25 rfl HI.out ?_)
  refine (HSH.out _).mono ?_
  rintro e w2 ⟨rfl, hb1⟩
  replace HS := Lib.hid (HS.out.later hb1)
  clear hb1
  go_wp2_with (refine wpList_load_want (by rfl) 25 (.tmp 4) rfl w.heap.size rfl 25 (cellsS s) (0, 0) _ HS.out.own Tryd.underlying25 rfl HI.out ?_)
  refine (HB.out _ (HK.out.later HS.out.below)).mono ?_
  rintro e w3 ⟨rfl, hb1⟩
  replace HS := Lib.hid (HS.out.later hb1)
  clear hb1
  go_wp2_with (refine wpList_load_want (by rfl) 25 (.tmp 4) rfl w.heap.size rfl 25 (cellsS s) (0, 0) _ HS.out.own Tryd.underlying25 rfl HI.out ?_)
  refine (HAS.out s _).mono ?_
  rintro e w4 ⟨rfl, hb1⟩
  replace HS := Lib.hid (HS.out.later hb1)
  clear hb1
  go_wp2_with fail
  refine (HRB.out _).mono ?_
  rintro e w5 ⟨rfl, hb1⟩
  replace HS := Lib.hid (HS.out.later hb1)
  clear hb1
  go_wp2_with fail
  refine (HR1.out _ (HK.out.later HS.out.below)).mono ?_
  rintro e w6 ⟨rfl, hb1⟩
  have HBw6 := Lib.hid (HS.out.later hb1).below
  replace HS := Lib.hid (sts_alloc (HS.out.later hb1) (.cells (cellsS X) 25))
  have HX1 := Lib.hid (sts_fresh 25 X HBw6.out)
  clear hb1
  go_wp2_with (refine wpList_store_row rfl 25 (.tmp 13) (.tmp 59) rfl w6.heap.size (cellsS X) rfl rfl 25 #[.int .u32 0, .int .u32 0, .int .u32 0, .int .u32 0, .int .u32 0, .int .u32 0, .int .u32 0, .int .u16 0, .int .u16 0, .int .u16 0, .int .u16 0, .string ⟨#[]⟩, .int .i64 0, .int .i64 0] (heap_alloc_new _ _) HIx.out rfl HEx.out ?_; rw [World.setRow_alloc_new])
  refine (HQ1.out _).mono ?_
  rintro e w7 ⟨rfl, hb1⟩
  have HBw7 := Lib.hid (HS.out.later hb1).below
  replace HS := Lib.hid (sts_alloc (HS.out.later hb1) (.cells (cellsS X) 32))
  replace HX1 := Lib.hid (sts_alloc (HX1.out.later hb1) (.cells (cellsS X) 32))
  have HX2 := Lib.hid (sts_fresh 32 X HBw7.out)
  clear hb1
  go_wp2_with (refine wpList_store_row rfl 32 (.tmp 15) (.tmp 65) rfl w7.heap.size (cellsS X) rfl rfl 32 #[.int .u32 0, .int .u32 0, .int .u32 0, .int .u32 0, .int .u32 0, .int .u32 0, .int .u32 0, .int .u16 0, .int .u16 0, .int .u16 0, .int .u16 0, .string ⟨#[]⟩, .int .i64 0, .int .i64 0] (heap_alloc_new _ _) HIxr.out rfl HEx.out ?_; rw [World.setRow_alloc_new])
  refine (HH.out _).mono ?_
  rintro e w8 ⟨rfl, hb1⟩
  replace HS := Lib.hid (HS.out.later hb1)
  replace HX1 := Lib.hid (HX1.out.later hb1)
  replace HX2 := Lib.hid (HX2.out.later hb1)
  clear hb1
  go_wp2_with fail
  refine (HR2.out _ (HK.out.later HS.out.below)).mono ?_
  rintro e w9 ⟨rfl, hb1⟩
  have HBw9 := Lib.hid (HS.out.later hb1).below
  replace HS := Lib.hid (sts_alloc (HS.out.later hb1) (.cells (cellsS U) 25))
  replace HX1 := Lib.hid (sts_alloc (HX1.out.later hb1) (.cells (cellsS U) 25))
  replace HX2 := Lib.hid (sts_alloc (HX2.out.later hb1) (.cells (cellsS U) 25))
  have HU1 := Lib.hid (sts_fresh 25 U HBw9.out)
  clear hb1
  go_wp2_with (refine wpList_store_row rfl 25 (.tmp 18) (.tmp 76) rfl w9.heap.size (cellsS U) rfl rfl 25 #[.int .u32 0, .int .u32 0, .int .u32 0, .int .u32 0, .int .u32 0, .int .u32 0, .int .u32 0, .int .u16 0, .int .u16 0, .int .u16 0, .int .u16 0, .string ⟨#[]⟩, .int .i64 0, .int .i64 0] (heap_alloc_new _ _) HIu.out rfl HEu.out ?_; rw [World.setRow_alloc_new])
  refine (HQ2.out _).mono ?_
  rintro e w10 ⟨rfl, hb1⟩
  have HBw10 := Lib.hid (HS.out.later hb1).below
  replace HS := Lib.hid (sts_alloc (HS.out.later hb1) (.cells (cellsS U) 32))
  replace HX1 := Lib.hid (sts_alloc (HX1.out.later hb1) (.cells (cellsS U) 32))
  replace HX2 := Lib.hid (sts_alloc (HX2.out.later hb1) (.cells (cellsS U) 32))
  replace HU1 := Lib.hid (sts_alloc (HU1.out.later hb1) (.cells (cellsS U) 32))
  have HU2 := Lib.hid (sts_fresh 32 U HBw10.out)
  clear hb1
  go_wp2_with (refine wpList_store_row rfl 32 (.tmp 20) (.tmp 82) rfl w10.heap.size (cellsS U) rfl rfl 32 #[.int .u32 0, .int .u32 0, .int .u32 0, .int .u32 0, .int .u32 0, .int .u32 0, .int .u32 0, .int .u16 0, .int .u16 0, .int .u16 0, .int .u16 0, .string ⟨#[]⟩, .int .i64 0, .int .i64 0] (heap_alloc_new _ _) HIur.out rfl HEu.out ?_; rw [World.setRow_alloc_new])
  refine wp_region_noPanic ?_
  refine wp_region_held_drew (S := fun W' => StS 25 w.heap.size s w W' ∧ StS 25 w6.heap.size X w W' ∧ StS 32 w7.heap.size X w W' ∧ StS 25 w9.heap.size U w W' ∧ StS 32 w10.heap.size U w W') (by kernel_rfl) ?_ (fun hHeld => ?_)
  · exact ⟨HS.out.drew, HX1.out.drew, HX2.out.drew, HU1.out.drew, HU2.out.drew⟩
  refine k9 0 ?_ (y := ?_) (h := ?_)
  rotate_left 1
  · (intro w' hSw; (try dsimp only at hSw); go_simp; try with_reducible rfl)
  try simp only [Act.put, List.setIfInBounds_toArray, List.set_cons_zero, List.set_cons_succ]
  refine k9 1 ?_ (y := ?_) (h := ?_)
  rotate_left 1
  · (intro w' hSw; (try dsimp only at hSw); go_simp; try with_reducible rfl)
  try simp only [Act.put, List.setIfInBounds_toArray, List.set_cons_zero, List.set_cons_succ]
  refine k9 2 ?_ (y := ?_) (h := ?_)
  rotate_left 1
  · (intro w' hSw; (try dsimp only at hSw); go_simp; try with_reducible rfl)
  try simp only [Act.put, List.setIfInBounds_toArray, List.set_cons_zero, List.set_cons_succ]
  refine k9 3 ?_ (y := ?_) (h := ?_)
  rotate_left 1
  · (intro w' hSw; (try dsimp only at hSw); go_simp; try with_reducible rfl)
  try simp only [Act.put, List.setIfInBounds_toArray, List.set_cons_zero, List.set_cons_succ]
  refine k9 4 ?_ (y := ?_) (h := ?_)
  rotate_left 1
  · (intro w' hSw; (try dsimp only at hSw); go_simp; try with_reducible rfl)
  try simp only [Act.put, List.setIfInBounds_toArray, List.set_cons_zero, List.set_cons_succ]
  refine k9 5 ?_ (y := ?_) (h := ?_)
  rotate_left 1
  · (intro w' hSw; (try dsimp only at hSw); go_simp; try with_reducible rfl)
  try simp only [Act.put, List.setIfInBounds_toArray, List.set_cons_zero, List.set_cons_succ]
  refine k9 6 ?_ (y := ?_) (h := ?_)
  rotate_left 1
  · (intro w' hSw; (try dsimp only at hSw); go_simp; try with_reducible rfl)
  try simp only [Act.put, List.setIfInBounds_toArray, List.set_cons_zero, List.set_cons_succ]
  refine k9 7 ?_ (y := ?_) (h := ?_)
  rotate_left 1
  · (intro w' hSw; (try dsimp only at hSw); go_simp; try with_reducible rfl)
  try simp only [Act.put, List.setIfInBounds_toArray, List.set_cons_zero, List.set_cons_succ]
  refine k9 8 ?_ (y := ?_) (h := ?_)
  rotate_left 1
  · (intro w' hSw; (try dsimp only at hSw); go_simp; try with_reducible rfl)
  try simp only [Act.put, List.setIfInBounds_toArray, List.set_cons_zero, List.set_cons_succ]
  refine k7 9 _ (y := yieldsIf_load_mid (by rfl) 25 (.tmp 4) rfl _ 0 (by rfl) _ _ (fun W h => range_of_row h.1.own) Tryd.underlying25 rfl HI.out) (h := ?_)
  try simp only [Act.put, List.setIfInBounds_toArray, List.set_cons_zero, List.set_cons_succ]
  refine k7 11 _ (y := yieldsIf_load_mid (by rfl) 25 (.tmp 4) rfl _ 0 (by rfl) _ _ (fun W h => range_of_row h.1.own) Tryd.underlying25 rfl HI.out) (h := ?_)
  try simp only [Act.put, List.setIfInBounds_toArray, List.set_cons_zero, List.set_cons_succ]
  refine wpAnyH_ready (rs := [10]) (by kernel_rfl) (by simp) ?_
  refine AllReadyH.cons (by simp only [q9a, q9s, q9z]; rfl) (fun K hK => ?_) AllReadyH.nil
  go_simp
  refine (HG.out _).mono ?_
  rintro _ w11 ⟨rfl, hb1⟩
  have hS9 := hHeld
  replace hS9 := And.intro (hS9.1.later hb1) (And.intro (hS9.2.1.later hb1) (And.intro (hS9.2.2.1.later hb1) (And.intro (hS9.2.2.2.1.later hb1) (hS9.2.2.2.2.later hb1))))
  clear hb1 hHeld
  refine hK.out _ _ ?_ (fun hHeld => ?_)
  · exact hS9
  clear hK K
  try simp only [Act.put, List.setIfInBounds_toArray, List.set_cons_zero, List.set_cons_succ]
  clear hS9
  refine wpAnyH_ready (rs := [12]) (by kernel_rfl) (by simp) ?_
  refine AllReadyH.cons (by simp only [q9a, q9s, q9z]; rfl) (fun K hK => ?_) AllReadyH.nil
  go_simp
  refine (HAS.out s _).mono ?_
  rintro _ w12 ⟨rfl, hb1⟩
  have hS9 := hHeld
  replace hS9 := And.intro (hS9.1.later hb1) (And.intro (hS9.2.1.later hb1) (And.intro (hS9.2.2.1.later hb1) (And.intro (hS9.2.2.2.1.later hb1) (hS9.2.2.2.2.later hb1))))
  clear hb1 hHeld
  refine hK.out _ _ ?_ (fun hHeld => ?_)
  · exact hS9
  clear hK K
  try simp only [Act.put, List.setIfInBounds_toArray, List.set_cons_zero, List.set_cons_succ]
  clear hS9
  refine wpAnyH_ready (rs := [13]) (by kernel_rfl) (by simp) ?_
  refine AllReadyH.cons (by simp only [q9a, q9s, q9z]; rfl) (fun K hK => ?_) AllReadyH.nil
  go_simp
  refine (HRG.out _).mono ?_
  rintro _ w13 ⟨rfl, hb1⟩
  have hS9 := hHeld
  replace hS9 := And.intro (hS9.1.later hb1) (And.intro (hS9.2.1.later hb1) (And.intro (hS9.2.2.1.later hb1) (And.intro (hS9.2.2.2.1.later hb1) (hS9.2.2.2.2.later hb1))))
  clear hb1 hHeld
  refine hK.out _ _ ?_ (fun hHeld => ?_)
  · exact hS9
  clear hK K
  try simp only [Act.put, List.setIfInBounds_toArray, List.set_cons_zero, List.set_cons_succ]
  clear hS9
  refine k9 14 ?_ (y := ?_) (h := ?_)
  rotate_left 1
  · (intro w' hSw; (try dsimp only at hSw); go_simp; try with_reducible rfl)
  try simp only [Act.put, List.setIfInBounds_toArray, List.set_cons_zero, List.set_cons_succ]
  refine k9 15 ?_ (y := ?_) (h := ?_)
  rotate_left 1
  · (intro w' hSw; (try dsimp only at hSw); go_simp; try with_reducible rfl)
  try simp only [Act.put, List.setIfInBounds_toArray, List.set_cons_zero, List.set_cons_succ]
  refine k9 16 ?_ (y := ?_) (h := ?_)
  rotate_left 1
  · (intro w' hSw; (try dsimp only at hSw); go_simp; try with_reducible rfl)
  try simp only [Act.put, List.setIfInBounds_toArray, List.set_cons_zero, List.set_cons_succ]
  refine k7 17 _ (y := yieldsIf_load_mid (by rfl) 25 (.tmp 13) rfl _ 0 (by rfl) _ _ (fun W h => range_of_row h.2.1.own) Tryd.underlying25 rfl HIx.out) (h := ?_)
  try simp only [Act.put, List.setIfInBounds_toArray, List.set_cons_zero, List.set_cons_succ]
  refine k7 19 _ (y := yieldsIf_load_mid (by rfl) 32 (.tmp 15) rfl _ 0 (by rfl) _ _ (fun W h => range_of_row h.2.2.1.own) Tryd.underlying32 rfl HIxr.out) (h := ?_)
  try simp only [Act.put, List.setIfInBounds_toArray, List.set_cons_zero, List.set_cons_succ]
  refine wpAnyH_ready (rs := [18]) (by kernel_rfl) (by simp) ?_
  refine AllReadyH.cons (by simp only [q9a, q9s, q9z]; rfl) (fun K hK => ?_) AllReadyH.nil
  go_simp
  refine (HAS.out X _).mono ?_
  rintro _ w14 ⟨rfl, hb1⟩
  have hS9 := hHeld
  replace hS9 := And.intro (hS9.1.later hb1) (And.intro (hS9.2.1.later hb1) (And.intro (hS9.2.2.1.later hb1) (And.intro (hS9.2.2.2.1.later hb1) (hS9.2.2.2.2.later hb1))))
  clear hb1 hHeld
  refine hK.out _ _ ?_ (fun hHeld => ?_)
  · exact hS9
  clear hK K
  try simp only [Act.put, List.setIfInBounds_toArray, List.set_cons_zero, List.set_cons_succ]
  clear hS9
  refine k9 20 ?_ (y := ?_) (h := ?_)
  rotate_left 1
  · (intro w' hSw; (try dsimp only at hSw); go_simp; try with_reducible rfl)
  try simp only [Act.put, List.setIfInBounds_toArray, List.set_cons_zero, List.set_cons_succ]
  refine k9 21 ?_ (y := ?_) (h := ?_)
  rotate_left 1
  · (intro w' hSw; (try dsimp only at hSw); go_simp; try with_reducible rfl)
  try simp only [Act.put, List.setIfInBounds_toArray, List.set_cons_zero, List.set_cons_succ]
  refine k9 22 ?_ (y := ?_) (h := ?_)
  rotate_left 1
  · (intro w' hSw; (try dsimp only at hSw); go_simp; try with_reducible rfl)
  try simp only [Act.put, List.setIfInBounds_toArray, List.set_cons_zero, List.set_cons_succ]
  refine k9 23 ?_ (y := ?_) (h := ?_)
  rotate_left 1
  · (intro w' hSw; (try dsimp only at hSw); go_simp; try with_reducible rfl)
  try simp only [Act.put, List.setIfInBounds_toArray, List.set_cons_zero, List.set_cons_succ]
  refine k9 24 ?_ (y := ?_) (h := ?_)
  rotate_left 1
  · (intro w' hSw; (try dsimp only at hSw); go_simp; try with_reducible rfl)
  try simp only [Act.put, List.setIfInBounds_toArray, List.set_cons_zero, List.set_cons_succ]
  refine k9 25 ?_ (y := ?_) (h := ?_)
  rotate_left 1
  · (intro w' hSw; (try dsimp only at hSw); go_simp; try with_reducible rfl)
  try simp only [Act.put, List.setIfInBounds_toArray, List.set_cons_zero, List.set_cons_succ]
  refine k9 26 ?_ (y := ?_) (h := ?_)
  rotate_left 1
  · (intro w' hSw; (try dsimp only at hSw); go_simp; try with_reducible rfl)
  try simp only [Act.put, List.setIfInBounds_toArray, List.set_cons_zero, List.set_cons_succ]
  refine k9 27 ?_ (y := ?_) (h := ?_)
  rotate_left 1
  · (intro w' hSw; (try dsimp only at hSw); go_simp; try with_reducible rfl)
  try simp only [Act.put, List.setIfInBounds_toArray, List.set_cons_zero, List.set_cons_succ]
  refine k7 28 _ (y := yieldsIf_load_mid (by rfl) 25 (.tmp 18) rfl _ 0 (by rfl) _ _ (fun W h => range_of_row h.2.2.2.1.own) Tryd.underlying25 rfl HIu.out) (h := ?_)
  try simp only [Act.put, List.setIfInBounds_toArray, List.set_cons_zero, List.set_cons_succ]
  refine k7 30 _ (y := yieldsIf_load_mid (by rfl) 32 (.tmp 20) rfl _ 0 (by rfl) _ _ (fun W h => range_of_row h.2.2.2.2.own) Tryd.underlying32 rfl HIur.out) (h := ?_)
  try simp only [Act.put, List.setIfInBounds_toArray, List.set_cons_zero, List.set_cons_succ]
  refine wpAnyH_ready (rs := [29]) (by kernel_rfl) (by simp) ?_
  refine AllReadyH.cons (by simp only [q9a, q9s, q9z]; rfl) (fun K hK => ?_) AllReadyH.nil
  go_simp
  refine (HAS.out U _).mono ?_
  rintro _ w15 ⟨rfl, hb1⟩
  have hS9 := hHeld
  replace hS9 := And.intro (hS9.1.later hb1) (And.intro (hS9.2.1.later hb1) (And.intro (hS9.2.2.1.later hb1) (And.intro (hS9.2.2.2.1.later hb1) (hS9.2.2.2.2.later hb1))))
  clear hb1 hHeld
  refine hK.out _ _ ?_ (fun hHeld => ?_)
  · exact hS9
  clear hK K
  try simp only [Act.put, List.setIfInBounds_toArray, List.set_cons_zero, List.set_cons_succ]
  clear hS9
  refine k9 31 ?_ (y := ?_) (h := ?_)
  rotate_left 1
  · (intro w' hSw; (try dsimp only at hSw); go_simp; try with_reducible rfl)
  try simp only [Act.put, List.setIfInBounds_toArray, List.set_cons_zero, List.set_cons_succ]
  refine k9 32 ?_ (y := ?_) (h := ?_)
  rotate_left 1
  · (intro w' hSw; (try dsimp only at hSw); go_simp; try with_reducible rfl)
  try simp only [Act.put, List.setIfInBounds_toArray, List.set_cons_zero, List.set_cons_succ]
  refine k9 33 ?_ (y := ?_) (h := ?_)
  rotate_left 1
  · (intro w' hSw; (try dsimp only at hSw); go_simp; try with_reducible rfl)
  try simp only [Act.put, List.setIfInBounds_toArray, List.set_cons_zero, List.set_cons_succ]
  refine k9 34 ?_ (y := ?_) (h := ?_)
  rotate_left 1
  · (intro w' hSw; (try dsimp only at hSw); go_simp; try with_reducible rfl)
  try simp only [Act.put, List.setIfInBounds_toArray, List.set_cons_zero, List.set_cons_succ]
  refine k9 35 ?_ (y := ?_) (h := ?_)
  rotate_left 1
  · (intro w' hSw; (try dsimp only at hSw); go_simp; try with_reducible rfl)
  try simp only [Act.put, List.setIfInBounds_toArray, List.set_cons_zero, List.set_cons_succ]
  refine k9 36 ?_ (y := ?_) (h := ?_)
  rotate_left 1
  · (intro w' hSw; (try dsimp only at hSw); go_simp; try with_reducible rfl)
  try simp only [Act.put, List.setIfInBounds_toArray, List.set_cons_zero, List.set_cons_succ]
  refine k9 37 ?_ (y := ?_) (h := ?_)
  rotate_left 1
  · (intro w' hSw; (try dsimp only at hSw); go_simp; try with_reducible rfl)
  try simp only [Act.put, List.setIfInBounds_toArray, List.set_cons_zero, List.set_cons_succ]
  have HE9 := Lib.hid hHeld
  refine k9 38 ?_ (y := ?_) (h := ?_)
  rotate_left 1
  · (intro w' hSw; (try dsimp only at hSw); go_simp; try with_reducible rfl)
  try simp only [Act.put, List.setIfInBounds_toArray, List.set_cons_zero, List.set_cons_succ]
  refine wpAnyH_done (by kernel_rfl) ?_ _
  refine NoPanic.normal ?_
  clear hHeld
  go_wp2_with fail
  go_ret
  exact ⟨rfl, HE9.out.1.below⟩

set_option maxRecDepth 100000 in
theorem lifted (os : Os) (started : os.Started) (H : Type) (enc : TypeId × Value → H) :
    ReturnsInHanded {} Tryd.checked os 3 .any (fun w args => (Rows.cookieBuildsSpec.pre enc Tryd.prog Tryd.f3 [] false w args ∧ laidMetH Tryd.prog laidK w) ∧ sizedMet enc Tryd.prog Tryd.f3 (OpenSpec.ofChange Rows.cookieBuildsSpec) false w args) (Rows.cookieBuildsSpec.post enc Tryd.prog Tryd.f3 false true false false) := by
  refine returnsInHanded_of_change_and (C := Tryd.checked) (X := fun w _ => laidMetH Tryd.prog laidK w) (fun _ _ _ hh h => h.of_heap hh) own started (by kernel_rfl) Tryd.func3
    (ChangeSpec.witness_shaped (enc := enc) (C := Tryd.checked) (os := os) (X := fun w _ => laidMetH Tryd.prog laidK w) false (World.doorLaid Tryd.prog 14 os) #[.string ⟨#[]⟩, .agg #[.int .u32 0, .int .u32 0, .int .u32 0, .int .u32 0, .int .u32 0, .int .u32 0, .int .u32 0, .int .u16 0, .int .u16 0, .int .u16 0, .int .u16 0, .string ⟨#[]⟩, .int .i64 0, .int .i64 0], .string ⟨#[]⟩] 8 rfl (World.shaped_of_RefB (by kernel_rfl) (by kernel_rfl)) (by kernel_rfl) (by kernel_rfl) (by kernel_rfl) (door_met os _)) ?_
  intro W base args ds gs before hval0 hW _ hreach hL _
  have hval : ∀ (j : Nat) t v, Tryd.f3.params[j]? = some t → args[j]? = some v → Value.okWide Tryd.prog W .any base t v := hval0
  obtain ⟨p, q, hA0, _, _, _, _⟩ := id hW
  have hA : DataW.TrodAll enc Tryd.prog W 0 (fun _ => true) true Tryd.f3.params.toList args.toList ds p := hA0
  rw [Tryd.params3] at hA hval
  obtain ⟨v0, vs0, d0, ds0, p0, q0, hargs, rfl, rfl, h0, r0⟩ := trodAll_cons hA
  obtain ⟨v1, vs1, d1, ds1, p1, q1, rfl, rfl, rfl, h1, r1⟩ := trodAll_cons r0
  obtain ⟨v2, vs2, d2, ds2, p2, q2, rfl, rfl, rfl, h2, r2⟩ := trodAll_cons r1
  obtain ⟨rfl, rfl, rfl⟩ := trodAll_nil r2
  obtain rfl : args = #[v0, v1, v2] := by cases args; simp_all
  obtain ⟨a0, rfl, rfl, rfl, w0⟩ := Go.ChangeMaps.open_string Tryd.underlying9 (hval 0 9 v0 rfl rfl) h0
  obtain ⟨s1, rfl, i1⟩ := state_in (hval 1 25 v1 rfl rfl) h1
  obtain ⟨a2, rfl, rfl, rfl, w2⟩ := Go.ChangeMaps.open_string Tryd.underlying9 (hval 2 9 v2 rfl rfl) h2
  refine (walk a0 a2 s1 i1 W (kub_of_laid hL)).mono fun e W' ⟨he, hg⟩ => ?_
  subst he
  exact ⟨_, rfl, law_post laidOut Tryd.underlying4 (by kernel_rfl) (by kernel_rfl) rfl hW (by simp [Rows.cookieBuildsSpec]) hg⟩

theorem row_proved : Rows.CookieBuildsSaid :=
  OpenClaim.holds_of_wide 3 Tryd.f3 rfl rfl rfl rfl rfl rfl rfl ⟨rfl, rfl, rfl, rfl, rfl⟩ rfl rfl rfl rfl rfl (by kernel_rfl) Tryd.func3 (by kernel_rfl)
    (of_decide_eq_true (by kernel_rfl)) (by unfold Func.isWrapper; first | (rw [if_pos (by decide +kernel)]; kernel_rfl) | (rw [if_neg (by decide +kernel)]; exact ⟨rfl, rfl⟩))
    (fun os started H enc _ => lifted os started H enc)

theorem proved : Rows.CookieBuildsCardSaid :=
  Claim7.holds_tied_plain_at .later [] [.data] true _ _
    row_proved (fun _ h => by cases h) (by kernel_rfl) (fun _ h => by cases h) cookieBuilds_row_tie rfl ⟨rfl, rfl⟩ (by kernel_rfl) rfl
    (fun f fn hf hfn => by
      obtain rfl : f = 3 := Option.some.inj ((show Tryd.prog.funcNamed "towline/towlinelaw9.CookieBuilds" = some 3 by kernel_rfl).symm.trans hf) |>.symm
      obtain rfl : fn = Tryd.f3 := (Option.some.inj (Tryd.func3.symm.trans hfn)).symm
      exact ⟨by kernel_rfl, fun j t ht => by
        rw [Tryd.params3] at ht
        have hm : t ∈ [9, 25] := by have := Array.mem_of_getElem? ht; simp at this; simp; first | omega | (rcases this with h | h <;> simp [h]) | (rcases this with h | h | h <;> simp [h]) | (rcases this with h | h | h | h <;> simp [h])
        have hall : ([9, 25].all fun u => !Tryd.prog.wantsStandIn u) = true := by kernel_rfl
        exact (show Tryd.prog.wantsStandIn t = false by simpa using List.all_eq_true.1 hall t hm)⟩)
    (by kernel_rfl)
#print axioms proved
end Go.Proofs.YthfiebdpoleeeaaDoor.cookieBuilds
