/-
  The document's keys: Turn, Build, Read: contracts.
-/
import Derived.Test.YthfiebdpoleeeaaDoorRj9
namespace Go.Proofs.YthfiebdpoleeeaaDoor
open Go.RowKit
set_option linter.unusedVariables false
set_option linter.unusedSimpArgs false

def cellsR (k : Ky) (m : Nat) : Array Value := #[.string k.nk, .string k.ok, .int .i64 (m : Int), .int .i64 k.since]
/-- The document's keys k lie in block a, m of them were turned. -/
def KyR (W : World) (a : Nat) (k : Ky) (m : Nat) : Prop := W.heap[a]? = some (.cells (cellsR k m) 49 (0, 0))
theorem KyR.lt {W : World} {a m : Nat} {k : Ky} (h : KyR W a k m) : a < W.heap.size := (Array.getElem?_eq_some_iff.1 h).1
theorem KyR.later {W W' : World} {a m : Nat} {k : Ky} (h : KyR W a k m) (hb : Below W.heap.size W W') : KyR W' a k m := (hb.block a h.lt).trans h
/-- How many there were, as the program tells it. -/
def Many (k : Ky) (m : Nat) : Prop := k.nt = decide (0 < m) ∧ k.ot = decide (1 < m)
theorem many_zero : Many zeroKy 0 := ⟨rfl, rfl⟩
theorem many_turn {k : Ky} {m : Nat} (h : Many k m) (key : ByteArray) (now : Int) : Many (turnKy k key now) (m + 1) := by
  refine ⟨by show true = _; simp, ?_⟩
  show k.nt = _
  rw [h.1]
  congr 1
  simp

set_option maxHeartbeats 2000000 in
theorem rturn_any (a m : Nat) (k : Ky) (key : ByteArray) (now : Int) (hm : m < 1000000) (w : World) (h : KyR w a k m) :
    Calls Tryd.prog 21 #[.pointer (some ⟨a, 0, none⟩), .string key, .int .i64 now] w fun e w' => e = .returned (.tuple #[]) ∧ KyR w' a (turnKy k key now) (m + 1) ∧ w.grownBy w' (some a) := by
  have H0 : w.heap[a]? = some (.cells (cellsR k m) 49 (0, 0)) := h
  have G0 : w.grownBy w (some a) := grown_refl w _
  have b0 : w.cell? ⟨a, 0, none⟩ = some (.string k.nk) := by rw [cell_in H0]; rfl
  have d0x : w.cell? ⟨a, 1, none⟩ = some (.string k.ok) := by rw [cell_in H0]; rfl
  have e0x : w.frozen? ⟨a, 1, none⟩ = false := frozen_of_row H0 1
  have H1 := row_set9 H0 1 (.string k.nk)
  have G1 := grown_trans G0 (grown_set w a 1 (.string k.nk))
  obtain ⟨R1, hR1⟩ : ∃ R, R = w.setCell ⟨a, 1, none⟩ (.string k.nk) := ⟨_, rfl⟩
  rw [← hR1] at H1 G1
  have s1 := hR1.symm
  have d1x : R1.cell? ⟨a, 0, none⟩ = some (.string k.nk) := by rw [cell_in H1]; rfl
  have e1x : R1.frozen? ⟨a, 0, none⟩ = false := frozen_of_row H1 0
  have H2 := row_set9 H1 0 (.string key)
  have G2 := grown_trans G1 (grown_set R1 a 0 (.string key))
  obtain ⟨R2, hR2⟩ : ∃ R, R = R1.setCell ⟨a, 0, none⟩ (.string key) := ⟨_, rfl⟩
  rw [← hR2] at H2 G2
  have s2 := hR2.symm
  have d2x : R2.cell? ⟨a, 3, none⟩ = some (.int .i64 k.since) := by rw [cell_in H2]; rfl
  have e2x : R2.frozen? ⟨a, 3, none⟩ = false := frozen_of_row H2 3
  have H3 := row_set9 H2 3 (.int .i64 now)
  have G3 := grown_trans G2 (grown_set R2 a 3 (.int .i64 now))
  obtain ⟨R3, hR3⟩ : ∃ R, R = R2.setCell ⟨a, 3, none⟩ (.int .i64 now) := ⟨_, rfl⟩
  rw [← hR3] at H3 G3
  have s3 := hR3.symm
  have d3x : R3.cell? ⟨a, 2, none⟩ = some (.int .i64 (m : Int)) := by rw [cell_in H3]; rfl
  have e3x : R3.frozen? ⟨a, 2, none⟩ = false := frozen_of_row H3 2
  have H4 := row_set9 H3 2 (.int .i64 ((m + 1 : Nat) : Int))
  have G4 := grown_trans G3 (grown_set R3 a 2 (.int .i64 ((m + 1 : Nat) : Int)))
  obtain ⟨R4, hR4⟩ : ∃ R, R = R3.setCell ⟨a, 2, none⟩ (.int .i64 ((m + 1 : Nat) : Int)) := ⟨_, rfl⟩
  rw [← hR4] at H4 G4
  have s4 := hR4.symm
  have HH : Hid (KyR R4 a (turnKy k key now) (m + 1)) := Lib.hid H4
  have HG := Lib.hid G4
  have hz : IntKind.i64.wrap ((m : Int) + 1) = ((m + 1 : Nat) : Int) := by rw [IntKind.wrap_i64]; omega
  clear H0 H1 H2 H3 H4 G0 G1 G2 G3 G4 hR1 hR2 hR3 hR4 h
  rw [show ((m + 1 : Nat) : Int) = (m : Int) + 1 by omega] at *
  obtain ⟨nk, nt, ok, ot, since⟩ := k
  dsimp only at *
  go_enter Tryd.func21, Tryd.ntmps21
  go_wp2_with fail
  go_end0
  exact ⟨rfl, HH.out, HG.out⟩

set_option maxHeartbeats 4000000 in
set_option maxRecDepth 100000 in
theorem rkeybuild_any (a m : Nat) (k : Ky) (hmany : Many k m) (s : St) (hw : WfS s) (hk : k.nk.size ≤ 900000) (w : World) (h : KyR w a k m) :
    Calls Tryd.prog 23 #[.pointer (some ⟨a, 0, none⟩), .agg (cellsS s)] w fun e w' => e = .returned (.tuple #[.string (buildKy k s).1, .int .i64 ((buildKy k s).2 : Nat)]) ∧ Below w.heap.size w w' := by
  have HS := Lib.hid (StS.new 32 s w)
  have HI := Lib.hid (sizeSr s)
  have h1 := h.later HS.out.below
  have c2 : (w.alloc (.cells (cellsS s) 32)).cell? ⟨a, 2, none⟩ = some (.int .i64 (m : Int)) := by rw [cell_in h1]; rfl
  have HY := Lib.hid h1
  clear h h1
  by_cases hm : m = 0
  · subst hm
    have hn : k.nt = false := hmany.1
    have hr : buildKy k s = (⟨#[]⟩, 8) := by unfold buildKy; rw [hn]; rfl
    rw [hr]
    clear hr hn hw hk HY hmany
    go_enter Tryd.func23, Tryd.ntmps23
    go_wp2_with fail
    go_ret2
    exact ⟨rfl, HS.out.below⟩
  have hn : k.nt = true := by rw [hmany.1]; exact decide_eq_true (by omega)
  have hr : buildKy k s = buildK k.nk s := by unfold buildKy; rw [hn]; rfl
  rw [hr]
  have hm0 : ((m : Int) == 0) = false := beq_eq_false_iff_ne.2 (by omega)
  have hm1 : ¬ (m : Int) = 0 := by omega
  have HB := Lib.hid (fun W => rbuild_any9 k.nk s hw hk W)
  clear hr hn hw hk hm hmany hm0
  generalize buildK k.nk s = r at *
  go_enter Tryd.func23, Tryd.ntmps23
  go_wp2_with fail
  refine wp_region_noPanic ?_
  refine wp_region_held_drew (S := fun W' => KyR W' a k m ∧ StS 32 w.heap.size s w W') (by kernel_rfl) ?_ (fun hHeld => ?_)
  · exact ⟨HY.out, HS.out.drew⟩
  refine k9 0 ?_ (y := ?_) (h := ?_)
  rotate_left 1
  · (intro w' hSw; (try dsimp only at hSw); go_simp; try with_reducible rfl)
  try simp only [Act.put, List.setIfInBounds_toArray, List.set_cons_zero, List.set_cons_succ]
  refine k9 1 ?_ (y := ?_) (h := ?_)
  rotate_left 1
  · (intro w' hSw; (try dsimp only at hSw); go_simp; try with_reducible rfl)
  try simp only [Act.put, List.setIfInBounds_toArray, List.set_cons_zero, List.set_cons_succ]
  refine k9 2 ?_ (y := ?_) (h := ?_)
  rotate_left 1
  · (intro w' hSw; (try dsimp only at hSw); go_simp; try with_reducible rfl)
  try simp only [Act.put, List.setIfInBounds_toArray, List.set_cons_zero, List.set_cons_succ]
  refine k9 3 ?_ (y := ?_) (h := ?_)
  rotate_left 1
  · (intro w' hSw; have hq : w'.cell? ⟨a, 0, none⟩ = some (.string k.nk) := (by rw [cell_in hSw.1]; rfl); clear hSw; (try dsimp only at hSw); go_simp; try with_reducible rfl)
  try simp only [Act.put, List.setIfInBounds_toArray, List.set_cons_zero, List.set_cons_succ]
  refine k7 4 _ (y := yieldsIf_load_mid (by rfl) 32 (.tmp 3) rfl _ 0 (by rfl) _ _ (fun W h => range_of_row h.2.own) Tryd.underlying32 rfl HI.out) (h := ?_)
  try simp only [Act.put, List.setIfInBounds_toArray, List.set_cons_zero, List.set_cons_succ]
  refine wpAnyH_ready (rs := [5]) (by kernel_rfl) (by simp) ?_
  refine AllReadyH.cons (by simp only [q9a, q9s, q9z]; rfl) (fun K hK => ?_) AllReadyH.nil
  go_simp
  refine (HB.out _).mono ?_
  rintro _ w5 ⟨rfl, hb5⟩
  have HS5 := Lib.hid (HS.out.drew.later hb5)
  have HY5 := Lib.hid (KyR.later (W := (w.alloc (.cells (cellsS s) 32)).drew) HY.out hb5)
  refine hK.out _ _ ?_ (fun hHeld => ?_)
  · exact ⟨HY5.out, HS5.out⟩
  clear hK K
  try simp only [Act.put, List.setIfInBounds_toArray, List.set_cons_zero, List.set_cons_succ]
  refine k9 6 ?_ (y := ?_) (h := ?_)
  rotate_left 1
  · (intro w' hSw; (try dsimp only at hSw); go_simp; try with_reducible rfl)
  try simp only [Act.put, List.setIfInBounds_toArray, List.set_cons_zero, List.set_cons_succ]
  refine k9 7 ?_ (y := ?_) (h := ?_)
  rotate_left 1
  · (intro w' hSw; (try dsimp only at hSw); go_simp; try with_reducible rfl)
  try simp only [Act.put, List.setIfInBounds_toArray, List.set_cons_zero, List.set_cons_succ]
  refine k9 8 ?_ (y := ?_) (h := ?_)
  rotate_left 1
  · (intro w' hSw; (try dsimp only at hSw); go_simp; try with_reducible rfl)
  try simp only [Act.put, List.setIfInBounds_toArray, List.set_cons_zero, List.set_cons_succ]
  refine k9 9 ?_ (y := ?_) (h := ?_)
  rotate_left 1
  · (intro w' hSw; (try dsimp only at hSw); go_simp; try with_reducible rfl)
  try simp only [Act.put, List.setIfInBounds_toArray, List.set_cons_zero, List.set_cons_succ]
  refine wpAnyH_done (by kernel_rfl) ?_ _
  refine NoPanic.normal ?_
  clear hHeld
  go_wp2_with fail
  go_ret2
  exact ⟨rfl, HS5.out.below⟩

set_option maxHeartbeats 4000000 in
set_option maxRecDepth 100000 in
theorem rkread_none (a : Nat) (k : Ky) (c : ByteArray) (now : Int) (hmany : Many k 0) (w : World) (h : KyR w a k 0) :
    Calls Tryd.prog 25 #[.pointer (some ⟨a, 0, none⟩), .string c, .int .i64 now] w fun e w' => e = .returned (.tuple #[.agg (cellsS (readKy k c now).1), .int .i64 ((readKy k c now).2 : Nat)]) ∧ Below w.heap.size w w' := by
  rw [ky_none c now hmany.1]
  have HS : Hid (StS 32 w.heap.size zeroS w (w.alloc (.cells #[.int .u32 0, .int .u32 0, .int .u32 0, .int .u32 0, .int .u32 0, .int .u32 0, .int .u32 0, .int .u16 0, .int .u16 0, .int .u16 0, .int .u16 0, .string ⟨#[]⟩, .int .i64 0, .int .i64 0] 32))) := Lib.hid (StS.new 32 zeroS w)
  have HI := Lib.hid (sizeSr zeroS)
  have c2 : (w.alloc (.cells #[.int .u32 0, .int .u32 0, .int .u32 0, .int .u32 0, .int .u32 0, .int .u32 0, .int .u32 0, .int .u16 0, .int .u16 0, .int .u16 0, .int .u16 0, .string ⟨#[]⟩, .int .i64 0, .int .i64 0] 32)).cell? ⟨a, 2, none⟩ = some (.int .i64 0) := by rw [cell_in (h.later HS.out.below)]; rfl
  clear hmany h
  go_enter Tryd.func25, Tryd.ntmps25
  go_wp2_with fail
  refine bodyPost_ret (results_row1 (P := Tryd.prog) rfl _ _ w.heap.size 32 (cellsS zeroS) (0, 0) _ rfl (heap_alloc_new w _) Tryd.underlying32 rfl HI.out) rfl ⟨rfl, HS.out.below⟩

set_option maxHeartbeats 4000000 in
set_option maxRecDepth 100000 in
theorem rkread_new_bad (a m : Nat) (k : Ky) (hmany : Many k m) (c : ByteArray) (now : Int) (hk1 : k.nk.size ≤ 900000) (hk2 : k.ok.size ≤ 900000) (hc : c.size ≤ 900000) (hm0 : 0 < m) (h5 : (readK k.nk c).2 ≠ 5) (he : (readK k.nk c).2 ≠ 0) (w : World) (h : KyR w a k m) :
    Calls Tryd.prog 25 #[.pointer (some ⟨a, 0, none⟩), .string c, .int .i64 now] w fun e w' => e = .returned (.tuple #[.agg (cellsS (readKy k c now).1), .int .i64 ((readKy k c now).2 : Nat)]) ∧ Below w.heap.size w w' := by
  have hn : k.nt = true := by rw [hmany.1]; exact decide_eq_true hm0
  have hr := ky_bad (now := now) hn (try_new h5) he
  rw [hr]
  have HS : Hid (StS 32 w.heap.size zeroS w (w.alloc (.cells #[.int .u32 0, .int .u32 0, .int .u32 0, .int .u32 0, .int .u32 0, .int .u32 0, .int .u32 0, .int .u16 0, .int .u16 0, .int .u16 0, .int .u16 0, .string ⟨#[]⟩, .int .i64 0, .int .i64 0] 32))) := Lib.hid (StS.new 32 zeroS w)
  have HI := Lib.hid (sizeSr zeroS)
  have HE := Lib.hid (cellsS_one zeroS)
  have HY : Hid (KyR (w.alloc (.cells #[.int .u32 0, .int .u32 0, .int .u32 0, .int .u32 0, .int .u32 0, .int .u32 0, .int .u32 0, .int .u16 0, .int .u16 0, .int .u16 0, .int .u16 0, .string ⟨#[]⟩, .int .i64 0, .int .i64 0] 32)) a k m) := Lib.hid (h.later HS.out.below)
  have c2 : (w.alloc (.cells #[.int .u32 0, .int .u32 0, .int .u32 0, .int .u32 0, .int .u32 0, .int .u32 0, .int .u32 0, .int .u16 0, .int .u16 0, .int .u16 0, .int .u16 0, .string ⟨#[]⟩, .int .i64 0, .int .i64 0] 32)).cell? ⟨a, 2, none⟩ = some (.int .i64 (m : Int)) := by rw [cell_in HY.out]; rfl
  have c0 : (w.alloc (.cells #[.int .u32 0, .int .u32 0, .int .u32 0, .int .u32 0, .int .u32 0, .int .u32 0, .int .u32 0, .int .u16 0, .int .u16 0, .int .u16 0, .int .u16 0, .string ⟨#[]⟩, .int .i64 0, .int .i64 0] 32)).cell? ⟨a, 0, none⟩ = some (.string k.nk) := by rw [cell_in HY.out]; rfl
  have HR1 := Lib.hid (fun W => rread_any9 k.nk c hk1 hc W)
  have hmz : ¬ (m : Int) = 0 := by omega
  have h5i : ¬ (((readK k.nk c).2 : Nat) : Int) = 5 := by omega
  have hei : ¬ (((readK k.nk c).2 : Nat) : Int) = 0 := by omega
  clear hr h5 hk1 hk2 hc hn h hmany hm0 he
  generalize readK k.nk c = r1 at *
  obtain ⟨s1, e1⟩ := r1
  dsimp only at *
  have HI1 := Lib.hid (sizeSr s1)
  have HE1 := Lib.hid (cellsS_one s1)
  go_enter Tryd.func25, Tryd.ntmps25
  go_wp2_with fail
  refine (HR1.out _).mono ?_
  rintro e w2 ⟨rfl, hb2⟩
  have HS2 := Lib.hid (HS.out.later hb2)
  have HN2 := Lib.hid (HS2.out.later ((Below.refl _ _).alloc (Nat.le_refl _) (.cells (cellsS s1) 32)))
  have HW2 := Lib.hid (heap_alloc_new w2 (.cells (cellsS s1) 32))
  have HY2 := Lib.hid ((HY.out.later hb2).later ((Below.refl _ _).alloc (Nat.le_refl _) (.cells (cellsS s1) 32)))
  have HSA : Hid ((w2.alloc (.cells #[.int .u32 0, .int .u32 0, .int .u32 0, .int .u32 0, .int .u32 0, .int .u32 0, .int .u32 0, .int .u16 0, .int .u16 0, .int .u16 0, .int .u16 0, .string ⟨#[]⟩, .int .i64 0, .int .i64 0] 32)).setRow w2.heap.size (cellsS s1) = w2.alloc (.cells (cellsS s1) 32)) := Lib.hid (World.setRow_alloc_new _ _ _ _)
  have hlt2 : w.heap.size < w2.heap.size := HS2.out.lt
  clear hb2 HS c0 c2 HR1 HY
  go_wp2_with (first
    | (refine wpList_store_row rfl 32 (.tmp 8) (.tmp 23) rfl w2.heap.size (cellsS s1) rfl rfl 32 #[.int .u32 0, .int .u32 0, .int .u32 0, .int .u32 0, .int .u32 0, .int .u32 0, .int .u32 0, .int .u16 0, .int .u16 0, .int .u16 0, .int .u16 0, .string ⟨#[]⟩, .int .i64 0, .int .i64 0] (heap_alloc_new _ _) HI1.out rfl HE1.out ?_; rw [HSA.out])
    | (refine wpList_store_row rfl 32 (.tmp 6) (.tmp 54) rfl w.heap.size (cellsS zeroS) rfl rfl 32 (cellsS zeroS) HN2.out.own HI.out rfl HE.out ?_))
  refine bodyPost_ret (results_row1 (P := Tryd.prog) rfl _ _ w.heap.size 32 (cellsS zeroS) (0, 0) _ rfl (setRow_at HN2.out.own) Tryd.underlying32 rfl HI.out) rfl ⟨rfl, below_setRow HN2.out.below _ _ (Nat.le_refl _)⟩

set_option maxHeartbeats 4000000 in
set_option maxRecDepth 100000 in
theorem rkread_new_stale (a m : Nat) (k : Ky) (hmany : Many k m) (c : ByteArray) (now : Int) (hk1 : k.nk.size ≤ 900000) (hk2 : k.ok.size ≤ 900000) (hc : c.size ≤ 900000) (hm0 : 0 < m) (h5 : (readK k.nk c).2 ≠ 5) (hbn : BoundN now) (he : (readK k.nk c).2 = 0) (hs : staleB (readK k.nk c).1 now = true) (w : World) (h : KyR w a k m) :
    Calls Tryd.prog 25 #[.pointer (some ⟨a, 0, none⟩), .string c, .int .i64 now] w fun e w' => e = .returned (.tuple #[.agg (cellsS (readKy k c now).1), .int .i64 ((readKy k c now).2 : Nat)]) ∧ Below w.heap.size w w' := by
  have hn : k.nt = true := by rw [hmany.1]; exact decide_eq_true hm0
  have hr := ky_stale (now := now) hn (try_new h5) he hs
  rw [hr]
  have HS : Hid (StS 32 w.heap.size zeroS w (w.alloc (.cells #[.int .u32 0, .int .u32 0, .int .u32 0, .int .u32 0, .int .u32 0, .int .u32 0, .int .u32 0, .int .u16 0, .int .u16 0, .int .u16 0, .int .u16 0, .string ⟨#[]⟩, .int .i64 0, .int .i64 0] 32))) := Lib.hid (StS.new 32 zeroS w)
  have HI := Lib.hid (sizeSr zeroS)
  have HE := Lib.hid (cellsS_one zeroS)
  have HY : Hid (KyR (w.alloc (.cells #[.int .u32 0, .int .u32 0, .int .u32 0, .int .u32 0, .int .u32 0, .int .u32 0, .int .u32 0, .int .u16 0, .int .u16 0, .int .u16 0, .int .u16 0, .string ⟨#[]⟩, .int .i64 0, .int .i64 0] 32)) a k m) := Lib.hid (h.later HS.out.below)
  have c2 : (w.alloc (.cells #[.int .u32 0, .int .u32 0, .int .u32 0, .int .u32 0, .int .u32 0, .int .u32 0, .int .u32 0, .int .u16 0, .int .u16 0, .int .u16 0, .int .u16 0, .string ⟨#[]⟩, .int .i64 0, .int .i64 0] 32)).cell? ⟨a, 2, none⟩ = some (.int .i64 (m : Int)) := by rw [cell_in HY.out]; rfl
  have c0 : (w.alloc (.cells #[.int .u32 0, .int .u32 0, .int .u32 0, .int .u32 0, .int .u32 0, .int .u32 0, .int .u32 0, .int .u16 0, .int .u16 0, .int .u16 0, .int .u16 0, .string ⟨#[]⟩, .int .i64 0, .int .i64 0] 32)).cell? ⟨a, 0, none⟩ = some (.string k.nk) := by rw [cell_in HY.out]; rfl
  have HR1 := Lib.hid (fun W => rread_any9 k.nk c hk1 hc W)
  have hmz : ¬ (m : Int) = 0 := by omega
  have hgood := (right_of (readK_good he).2).made
  have HSB := Lib.hid (show staleB (readK k.nk c).1 now = (decide (now < (readK k.nk c).1.made) || decide ((readK k.nk c).1.life < now - (readK k.nk c).1.made)) by unfold staleB; rw [Bool.decide_or])
  rw [hs] at HSB
  have hws : IntKind.i64.wrap (now - (readK k.nk c).1.made) = now - (readK k.nk c).1.made := by unfold BoundN at hbn; rw [IntKind.wrap_i64]; omega
  rw [he] at HR1
  clear hr h5 hk1 hk2 hc hn h hmany hm0 he hs hgood hbn
  generalize readK k.nk c = r1 at *
  obtain ⟨s1, e1⟩ := r1
  dsimp only at *
  have HI1 := Lib.hid (sizeSr s1)
  have HE1 := Lib.hid (cellsS_one s1)
  go_enter Tryd.func25, Tryd.ntmps25
  go_wp2_with fail
  refine (HR1.out _).mono ?_
  rintro e w2 ⟨rfl, hb2⟩
  have HS2 := Lib.hid (HS.out.later hb2)
  have HN2 := Lib.hid (HS2.out.later ((Below.refl _ _).alloc (Nat.le_refl _) (.cells (cellsS s1) 32)))
  have HW2 := Lib.hid (heap_alloc_new w2 (.cells (cellsS s1) 32))
  have HY2 := Lib.hid ((HY.out.later hb2).later ((Below.refl _ _).alloc (Nat.le_refl _) (.cells (cellsS s1) 32)))
  have HSA : Hid ((w2.alloc (.cells #[.int .u32 0, .int .u32 0, .int .u32 0, .int .u32 0, .int .u32 0, .int .u32 0, .int .u32 0, .int .u16 0, .int .u16 0, .int .u16 0, .int .u16 0, .string ⟨#[]⟩, .int .i64 0, .int .i64 0] 32)).setRow w2.heap.size (cellsS s1) = w2.alloc (.cells (cellsS s1) 32)) := Lib.hid (World.setRow_alloc_new _ _ _ _)
  have hlt2 : w.heap.size < w2.heap.size := HS2.out.lt
  clear hb2 HS c0 c2 HR1 HY
  have f12 : (w2.alloc (.cells (cellsS s1) 32)).cell? ⟨w2.heap.size, 12, none⟩ = some (.int .i64 s1.made) := by rw [cell_in HW2.out]; rfl
  have f13 : (w2.alloc (.cells (cellsS s1) 32)).cell? ⟨w2.heap.size, 13, none⟩ = some (.int .i64 s1.life) := by rw [cell_in HW2.out]; rfl
  by_cases hx : now < s1.made
  · have hx' : decide (now < s1.made) = true := decide_eq_true hx
    clear hx HSB
    go_wp2_with (first
      | (refine wpList_store_row rfl 32 (.tmp 8) (.tmp 23) rfl w2.heap.size (cellsS s1) rfl rfl 32 #[.int .u32 0, .int .u32 0, .int .u32 0, .int .u32 0, .int .u32 0, .int .u32 0, .int .u32 0, .int .u16 0, .int .u16 0, .int .u16 0, .int .u16 0, .string ⟨#[]⟩, .int .i64 0, .int .i64 0] (heap_alloc_new _ _) HI1.out rfl HE1.out ?_; rw [HSA.out])
      | (refine wpList_store_row rfl 32 (.tmp 6) (.tmp 69) rfl w.heap.size (cellsS zeroS) rfl rfl 32 (cellsS zeroS) HN2.out.own HI.out rfl HE.out ?_))
    refine bodyPost_ret (results_row1 (P := Tryd.prog) rfl _ _ w.heap.size 32 (cellsS zeroS) (0, 0) _ rfl (setRow_at HN2.out.own) Tryd.underlying32 rfl HI.out) rfl ⟨rfl, below_setRow HN2.out.below _ _ (Nat.le_refl _)⟩
  · have hx' : decide (now < s1.made) = false := decide_eq_false hx
    have hy : decide (s1.life < now - s1.made) = true := by have := HSB.out; rw [hx', Bool.false_or] at this; exact this.symm
    clear hx HSB
    go_wp2_with (first
      | (refine wpList_store_row rfl 32 (.tmp 8) (.tmp 23) rfl w2.heap.size (cellsS s1) rfl rfl 32 #[.int .u32 0, .int .u32 0, .int .u32 0, .int .u32 0, .int .u32 0, .int .u32 0, .int .u32 0, .int .u16 0, .int .u16 0, .int .u16 0, .int .u16 0, .string ⟨#[]⟩, .int .i64 0, .int .i64 0] (heap_alloc_new _ _) HI1.out rfl HE1.out ?_; rw [HSA.out])
      | (refine wpList_store_row rfl 32 (.tmp 6) (.tmp 69) rfl w.heap.size (cellsS zeroS) rfl rfl 32 (cellsS zeroS) HN2.out.own HI.out rfl HE.out ?_))
    refine bodyPost_ret (results_row1 (P := Tryd.prog) rfl _ _ w.heap.size 32 (cellsS zeroS) (0, 0) _ rfl (setRow_at HN2.out.own) Tryd.underlying32 rfl HI.out) rfl ⟨rfl, below_setRow HN2.out.below _ _ (Nat.le_refl _)⟩

set_option maxHeartbeats 4000000 in
set_option maxRecDepth 100000 in
theorem rkread_new_good (a m : Nat) (k : Ky) (hmany : Many k m) (c : ByteArray) (now : Int) (hk1 : k.nk.size ≤ 900000) (hk2 : k.ok.size ≤ 900000) (hc : c.size ≤ 900000) (hm0 : 0 < m) (h5 : (readK k.nk c).2 ≠ 5) (hbn : BoundN now) (he : (readK k.nk c).2 = 0) (hs : staleB (readK k.nk c).1 now = false) (w : World) (h : KyR w a k m) :
    Calls Tryd.prog 25 #[.pointer (some ⟨a, 0, none⟩), .string c, .int .i64 now] w fun e w' => e = .returned (.tuple #[.agg (cellsS (readKy k c now).1), .int .i64 ((readKy k c now).2 : Nat)]) ∧ Below w.heap.size w w' := by
  have hn : k.nt = true := by rw [hmany.1]; exact decide_eq_true hm0
  have hr := ky_good (now := now) hn (try_new h5) he hs
  rw [hr]
  have HS : Hid (StS 32 w.heap.size zeroS w (w.alloc (.cells #[.int .u32 0, .int .u32 0, .int .u32 0, .int .u32 0, .int .u32 0, .int .u32 0, .int .u32 0, .int .u16 0, .int .u16 0, .int .u16 0, .int .u16 0, .string ⟨#[]⟩, .int .i64 0, .int .i64 0] 32))) := Lib.hid (StS.new 32 zeroS w)
  have HI := Lib.hid (sizeSr zeroS)
  have HE := Lib.hid (cellsS_one zeroS)
  have HY : Hid (KyR (w.alloc (.cells #[.int .u32 0, .int .u32 0, .int .u32 0, .int .u32 0, .int .u32 0, .int .u32 0, .int .u32 0, .int .u16 0, .int .u16 0, .int .u16 0, .int .u16 0, .string ⟨#[]⟩, .int .i64 0, .int .i64 0] 32)) a k m) := Lib.hid (h.later HS.out.below)
  have c2 : (w.alloc (.cells #[.int .u32 0, .int .u32 0, .int .u32 0, .int .u32 0, .int .u32 0, .int .u32 0, .int .u32 0, .int .u16 0, .int .u16 0, .int .u16 0, .int .u16 0, .string ⟨#[]⟩, .int .i64 0, .int .i64 0] 32)).cell? ⟨a, 2, none⟩ = some (.int .i64 (m : Int)) := by rw [cell_in HY.out]; rfl
  have c0 : (w.alloc (.cells #[.int .u32 0, .int .u32 0, .int .u32 0, .int .u32 0, .int .u32 0, .int .u32 0, .int .u32 0, .int .u16 0, .int .u16 0, .int .u16 0, .int .u16 0, .string ⟨#[]⟩, .int .i64 0, .int .i64 0] 32)).cell? ⟨a, 0, none⟩ = some (.string k.nk) := by rw [cell_in HY.out]; rfl
  have HR1 := Lib.hid (fun W => rread_any9 k.nk c hk1 hc W)
  have hmz : ¬ (m : Int) = 0 := by omega
  have hgood := (right_of (readK_good he).2).made
  have HSB := Lib.hid (show staleB (readK k.nk c).1 now = (decide (now < (readK k.nk c).1.made) || decide ((readK k.nk c).1.life < now - (readK k.nk c).1.made)) by unfold staleB; rw [Bool.decide_or])
  rw [hs] at HSB
  have hws : IntKind.i64.wrap (now - (readK k.nk c).1.made) = now - (readK k.nk c).1.made := by unfold BoundN at hbn; rw [IntKind.wrap_i64]; omega
  rw [he] at HR1
  rw [he]
  clear hr h5 hk1 hk2 hc hn h hmany hm0 he hs hgood hbn
  generalize readK k.nk c = r1 at *
  obtain ⟨s1, e1⟩ := r1
  dsimp only at *
  have HI1 := Lib.hid (sizeSr s1)
  have HE1 := Lib.hid (cellsS_one s1)
  go_enter Tryd.func25, Tryd.ntmps25
  go_wp2_with fail
  refine (HR1.out _).mono ?_
  rintro e w2 ⟨rfl, hb2⟩
  have HS2 := Lib.hid (HS.out.later hb2)
  have HN2 := Lib.hid (HS2.out.later ((Below.refl _ _).alloc (Nat.le_refl _) (.cells (cellsS s1) 32)))
  have HW2 := Lib.hid (heap_alloc_new w2 (.cells (cellsS s1) 32))
  have HY2 := Lib.hid ((HY.out.later hb2).later ((Below.refl _ _).alloc (Nat.le_refl _) (.cells (cellsS s1) 32)))
  have HSA : Hid ((w2.alloc (.cells #[.int .u32 0, .int .u32 0, .int .u32 0, .int .u32 0, .int .u32 0, .int .u32 0, .int .u32 0, .int .u16 0, .int .u16 0, .int .u16 0, .int .u16 0, .string ⟨#[]⟩, .int .i64 0, .int .i64 0] 32)).setRow w2.heap.size (cellsS s1) = w2.alloc (.cells (cellsS s1) 32)) := Lib.hid (World.setRow_alloc_new _ _ _ _)
  have hlt2 : w.heap.size < w2.heap.size := HS2.out.lt
  clear hb2 HS c0 c2 HR1 HY
  have f12 : (w2.alloc (.cells (cellsS s1) 32)).cell? ⟨w2.heap.size, 12, none⟩ = some (.int .i64 s1.made) := by rw [cell_in HW2.out]; rfl
  have f13 : (w2.alloc (.cells (cellsS s1) 32)).cell? ⟨w2.heap.size, 13, none⟩ = some (.int .i64 s1.life) := by rw [cell_in HW2.out]; rfl
  have hx' : decide (now < s1.made) = false := (Bool.or_eq_false_iff.1 HSB.out.symm).1
  have hy : decide (s1.life < now - s1.made) = false := (Bool.or_eq_false_iff.1 HSB.out.symm).2
  clear HSB
  go_wp2_with (first
    | (refine wpList_store_row rfl 32 (.tmp 8) (.tmp 23) rfl w2.heap.size (cellsS s1) rfl rfl 32 #[.int .u32 0, .int .u32 0, .int .u32 0, .int .u32 0, .int .u32 0, .int .u32 0, .int .u32 0, .int .u16 0, .int .u16 0, .int .u16 0, .int .u16 0, .string ⟨#[]⟩, .int .i64 0, .int .i64 0] (heap_alloc_new _ _) HI1.out rfl HE1.out ?_; rw [HSA.out])
    | (refine wpList_load_want (by rfl) 32 (.tmp 8) rfl w2.heap.size rfl 32 (cellsS s1) (0, 0) _ HW2.out Tryd.underlying32 rfl HI1.out ?_)
    | (refine wpList_store_row rfl 32 (.tmp 6) (.tmp 70) rfl w.heap.size (cellsS s1) rfl rfl 32 (cellsS zeroS) HN2.out.own HI1.out rfl HE1.out ?_))
  refine bodyPost_ret (results_row1 (P := Tryd.prog) rfl _ _ w.heap.size 32 (cellsS s1) (0, 0) _ rfl (setRow_at HN2.out.own) Tryd.underlying32 rfl HI1.out) rfl ⟨rfl, below_setRow HN2.out.below _ _ (Nat.le_refl _)⟩

set_option maxHeartbeats 4000000 in
set_option maxRecDepth 100000 in
theorem rkread_one_bad (a m : Nat) (k : Ky) (hmany : Many k m) (c : ByteArray) (now : Int) (hk1 : k.nk.size ≤ 900000) (hk2 : k.ok.size ≤ 900000) (hc : c.size ≤ 900000) (hm0 : 0 < m) (h5 : (readK k.nk c).2 = 5) (h1 : m = 1)  (w : World) (h : KyR w a k m) :
    Calls Tryd.prog 25 #[.pointer (some ⟨a, 0, none⟩), .string c, .int .i64 now] w fun e w' => e = .returned (.tuple #[.agg (cellsS (readKy k c now).1), .int .i64 ((readKy k c now).2 : Nat)]) ∧ Below w.heap.size w w' := by
  have hn : k.nt = true := by rw [hmany.1]; exact decide_eq_true hm0
  have hst : stillB k now = false := by unfold stillB; rw [hmany.2, h1]; rfl
  have hr := ky_bad (now := now) hn (try_no hst) (by rw [h5]; decide)
  rw [h5] at hr
  rw [hr]
  have HS : Hid (StS 32 w.heap.size zeroS w (w.alloc (.cells #[.int .u32 0, .int .u32 0, .int .u32 0, .int .u32 0, .int .u32 0, .int .u32 0, .int .u32 0, .int .u16 0, .int .u16 0, .int .u16 0, .int .u16 0, .string ⟨#[]⟩, .int .i64 0, .int .i64 0] 32))) := Lib.hid (StS.new 32 zeroS w)
  have HI := Lib.hid (sizeSr zeroS)
  have HE := Lib.hid (cellsS_one zeroS)
  have HY : Hid (KyR (w.alloc (.cells #[.int .u32 0, .int .u32 0, .int .u32 0, .int .u32 0, .int .u32 0, .int .u32 0, .int .u32 0, .int .u16 0, .int .u16 0, .int .u16 0, .int .u16 0, .string ⟨#[]⟩, .int .i64 0, .int .i64 0] 32)) a k m) := Lib.hid (h.later HS.out.below)
  have c2 : (w.alloc (.cells #[.int .u32 0, .int .u32 0, .int .u32 0, .int .u32 0, .int .u32 0, .int .u32 0, .int .u32 0, .int .u16 0, .int .u16 0, .int .u16 0, .int .u16 0, .string ⟨#[]⟩, .int .i64 0, .int .i64 0] 32)).cell? ⟨a, 2, none⟩ = some (.int .i64 (m : Int)) := by rw [cell_in HY.out]; rfl
  have c0 : (w.alloc (.cells #[.int .u32 0, .int .u32 0, .int .u32 0, .int .u32 0, .int .u32 0, .int .u32 0, .int .u32 0, .int .u16 0, .int .u16 0, .int .u16 0, .int .u16 0, .string ⟨#[]⟩, .int .i64 0, .int .i64 0] 32)).cell? ⟨a, 0, none⟩ = some (.string k.nk) := by rw [cell_in HY.out]; rfl
  have HR1 := Lib.hid (fun W => rread_any9 k.nk c hk1 hc W)
  have hmz : ¬ (m : Int) = 0 := by omega
  have hm1 : decide ((1 : Int) < (m : Int)) = false := decide_eq_false (by omega)
  rw [h5] at HR1
  clear hr h5 hk1 hk2 hc hn h hmany hm0 hst h1
  generalize (readK k.nk c).1 = s1 at *
  have HI1 := Lib.hid (sizeSr s1)
  have HE1 := Lib.hid (cellsS_one s1)
  go_enter Tryd.func25, Tryd.ntmps25
  go_wp2_with fail
  refine (HR1.out _).mono ?_
  rintro e w2 ⟨rfl, hb2⟩
  have HS2 := Lib.hid (HS.out.later hb2)
  have HN2 := Lib.hid (HS2.out.later ((Below.refl _ _).alloc (Nat.le_refl _) (.cells (cellsS s1) 32)))
  have HW2 := Lib.hid (heap_alloc_new w2 (.cells (cellsS s1) 32))
  have HY2 := Lib.hid ((HY.out.later hb2).later ((Below.refl _ _).alloc (Nat.le_refl _) (.cells (cellsS s1) 32)))
  have HSA : Hid ((w2.alloc (.cells #[.int .u32 0, .int .u32 0, .int .u32 0, .int .u32 0, .int .u32 0, .int .u32 0, .int .u32 0, .int .u16 0, .int .u16 0, .int .u16 0, .int .u16 0, .string ⟨#[]⟩, .int .i64 0, .int .i64 0] 32)).setRow w2.heap.size (cellsS s1) = w2.alloc (.cells (cellsS s1) 32)) := Lib.hid (World.setRow_alloc_new _ _ _ _)
  have hlt2 : w.heap.size < w2.heap.size := HS2.out.lt
  clear hb2 HS c0 c2 HR1 HY
  have k2 : (w2.alloc (.cells (cellsS s1) 32)).cell? ⟨a, 2, none⟩ = some (.int .i64 (m : Int)) := by rw [cell_in HY2.out]; rfl
  go_wp2_with (first
    | (refine wpList_store_row rfl 32 (.tmp 8) (.tmp 23) rfl w2.heap.size (cellsS s1) rfl rfl 32 #[.int .u32 0, .int .u32 0, .int .u32 0, .int .u32 0, .int .u32 0, .int .u32 0, .int .u32 0, .int .u16 0, .int .u16 0, .int .u16 0, .int .u16 0, .string ⟨#[]⟩, .int .i64 0, .int .i64 0] (heap_alloc_new _ _) HI1.out rfl HE1.out ?_; rw [HSA.out])
    | (refine wpList_store_row rfl 32 (.tmp 6) (.tmp 54) rfl w.heap.size (cellsS zeroS) rfl rfl 32 (cellsS zeroS) HN2.out.own HI.out rfl HE.out ?_))
  refine bodyPost_ret (results_row1 (P := Tryd.prog) rfl _ _ w.heap.size 32 (cellsS zeroS) (0, 0) _ rfl (setRow_at HN2.out.own) Tryd.underlying32 rfl HI.out) rfl ⟨rfl, below_setRow HN2.out.below _ _ (Nat.le_refl _)⟩

set_option maxHeartbeats 4000000 in
set_option maxRecDepth 100000 in
theorem rkread_late_bad (a m : Nat) (k : Ky) (hmany : Many k m) (c : ByteArray) (now : Int) (hk1 : k.nk.size ≤ 900000) (hk2 : k.ok.size ≤ 900000) (hc : c.size ≤ 900000) (hm0 : 0 < m) (h5 : (readK k.nk c).2 = 5) (h1 : 1 < m) (hst : 60000 < now - k.since) (hbn : BoundN now) (hbs : BoundN k.since)  (w : World) (h : KyR w a k m) :
    Calls Tryd.prog 25 #[.pointer (some ⟨a, 0, none⟩), .string c, .int .i64 now] w fun e w' => e = .returned (.tuple #[.agg (cellsS (readKy k c now).1), .int .i64 ((readKy k c now).2 : Nat)]) ∧ Below w.heap.size w w' := by
  have hn : k.nt = true := by rw [hmany.1]; exact decide_eq_true hm0
  have hst2 : stillB k now = false := by unfold stillB; rw [decide_eq_false (by omega), Bool.and_false]
  have hr := ky_bad (now := now) hn (try_no hst2) (by rw [h5]; decide)
  rw [h5] at hr
  rw [hr]
  have HS : Hid (StS 32 w.heap.size zeroS w (w.alloc (.cells #[.int .u32 0, .int .u32 0, .int .u32 0, .int .u32 0, .int .u32 0, .int .u32 0, .int .u32 0, .int .u16 0, .int .u16 0, .int .u16 0, .int .u16 0, .string ⟨#[]⟩, .int .i64 0, .int .i64 0] 32))) := Lib.hid (StS.new 32 zeroS w)
  have HI := Lib.hid (sizeSr zeroS)
  have HE := Lib.hid (cellsS_one zeroS)
  have HY : Hid (KyR (w.alloc (.cells #[.int .u32 0, .int .u32 0, .int .u32 0, .int .u32 0, .int .u32 0, .int .u32 0, .int .u32 0, .int .u16 0, .int .u16 0, .int .u16 0, .int .u16 0, .string ⟨#[]⟩, .int .i64 0, .int .i64 0] 32)) a k m) := Lib.hid (h.later HS.out.below)
  have c2 : (w.alloc (.cells #[.int .u32 0, .int .u32 0, .int .u32 0, .int .u32 0, .int .u32 0, .int .u32 0, .int .u32 0, .int .u16 0, .int .u16 0, .int .u16 0, .int .u16 0, .string ⟨#[]⟩, .int .i64 0, .int .i64 0] 32)).cell? ⟨a, 2, none⟩ = some (.int .i64 (m : Int)) := by rw [cell_in HY.out]; rfl
  have c0 : (w.alloc (.cells #[.int .u32 0, .int .u32 0, .int .u32 0, .int .u32 0, .int .u32 0, .int .u32 0, .int .u32 0, .int .u16 0, .int .u16 0, .int .u16 0, .int .u16 0, .string ⟨#[]⟩, .int .i64 0, .int .i64 0] 32)).cell? ⟨a, 0, none⟩ = some (.string k.nk) := by rw [cell_in HY.out]; rfl
  have HR1 := Lib.hid (fun W => rread_any9 k.nk c hk1 hc W)
  have hmz : ¬ (m : Int) = 0 := by omega
  have hm1 : decide ((1 : Int) < (m : Int)) = true := decide_eq_true (by omega)
  have hwr : IntKind.i64.wrap (now - k.since) = now - k.since := by unfold BoundN at hbn hbs; rw [IntKind.wrap_i64]; omega
  have hle : decide (now - k.since ≤ 60000) = false := decide_eq_false (by omega)
  rw [h5] at HR1
  clear hr h5 hk1 hk2 hc hn h hmany hm0 hst hst2 h1 hbn hbs
  generalize (readK k.nk c).1 = s1 at *
  have HI1 := Lib.hid (sizeSr s1)
  have HE1 := Lib.hid (cellsS_one s1)
  go_enter Tryd.func25, Tryd.ntmps25
  go_wp2_with fail
  refine (HR1.out _).mono ?_
  rintro e w2 ⟨rfl, hb2⟩
  have HS2 := Lib.hid (HS.out.later hb2)
  have HN2 := Lib.hid (HS2.out.later ((Below.refl _ _).alloc (Nat.le_refl _) (.cells (cellsS s1) 32)))
  have HW2 := Lib.hid (heap_alloc_new w2 (.cells (cellsS s1) 32))
  have HY2 := Lib.hid ((HY.out.later hb2).later ((Below.refl _ _).alloc (Nat.le_refl _) (.cells (cellsS s1) 32)))
  have HSA : Hid ((w2.alloc (.cells #[.int .u32 0, .int .u32 0, .int .u32 0, .int .u32 0, .int .u32 0, .int .u32 0, .int .u32 0, .int .u16 0, .int .u16 0, .int .u16 0, .int .u16 0, .string ⟨#[]⟩, .int .i64 0, .int .i64 0] 32)).setRow w2.heap.size (cellsS s1) = w2.alloc (.cells (cellsS s1) 32)) := Lib.hid (World.setRow_alloc_new _ _ _ _)
  have hlt2 : w.heap.size < w2.heap.size := HS2.out.lt
  clear hb2 HS c0 c2 HR1 HY
  have k2 : (w2.alloc (.cells (cellsS s1) 32)).cell? ⟨a, 2, none⟩ = some (.int .i64 (m : Int)) := by rw [cell_in HY2.out]; rfl
  have k3 : (w2.alloc (.cells (cellsS s1) 32)).cell? ⟨a, 3, none⟩ = some (.int .i64 k.since) := by rw [cell_in HY2.out]; rfl
  go_wp2_with (first
    | (refine wpList_store_row rfl 32 (.tmp 8) (.tmp 23) rfl w2.heap.size (cellsS s1) rfl rfl 32 #[.int .u32 0, .int .u32 0, .int .u32 0, .int .u32 0, .int .u32 0, .int .u32 0, .int .u32 0, .int .u16 0, .int .u16 0, .int .u16 0, .int .u16 0, .string ⟨#[]⟩, .int .i64 0, .int .i64 0] (heap_alloc_new _ _) HI1.out rfl HE1.out ?_; rw [HSA.out])
    | (refine wpList_store_row rfl 32 (.tmp 6) (.tmp 54) rfl w.heap.size (cellsS zeroS) rfl rfl 32 (cellsS zeroS) HN2.out.own HI.out rfl HE.out ?_))
  refine bodyPost_ret (results_row1 (P := Tryd.prog) rfl _ _ w.heap.size 32 (cellsS zeroS) (0, 0) _ rfl (setRow_at HN2.out.own) Tryd.underlying32 rfl HI.out) rfl ⟨rfl, below_setRow HN2.out.below _ _ (Nat.le_refl _)⟩

set_option maxHeartbeats 4000000 in
set_option maxRecDepth 100000 in
theorem rkread_old_bad (a m : Nat) (k : Ky) (hmany : Many k m) (c : ByteArray) (now : Int) (hk1 : k.nk.size ≤ 900000) (hk2 : k.ok.size ≤ 900000) (hc : c.size ≤ 900000) (hm0 : 0 < m) (h5 : (readK k.nk c).2 = 5) (h1 : 1 < m) (hst : now - k.since ≤ 60000) (hbn : BoundN now) (hbs : BoundN k.since) (he : (readK k.ok c).2 ≠ 0) (w : World) (h : KyR w a k m) :
    Calls Tryd.prog 25 #[.pointer (some ⟨a, 0, none⟩), .string c, .int .i64 now] w fun e w' => e = .returned (.tuple #[.agg (cellsS (readKy k c now).1), .int .i64 ((readKy k c now).2 : Nat)]) ∧ Below w.heap.size w w' := by
  have hn : k.nt = true := by rw [hmany.1]; exact decide_eq_true hm0
  have hst2 : stillB k now = true := by unfold stillB; rw [hmany.2, decide_eq_true h1, decide_eq_true hst]; rfl
  have hr := ky_bad (now := now) hn (try_old h5 hst2) he
  rw [hr]
  have HS : Hid (StS 32 w.heap.size zeroS w (w.alloc (.cells #[.int .u32 0, .int .u32 0, .int .u32 0, .int .u32 0, .int .u32 0, .int .u32 0, .int .u32 0, .int .u16 0, .int .u16 0, .int .u16 0, .int .u16 0, .string ⟨#[]⟩, .int .i64 0, .int .i64 0] 32))) := Lib.hid (StS.new 32 zeroS w)
  have HI := Lib.hid (sizeSr zeroS)
  have HE := Lib.hid (cellsS_one zeroS)
  have HY : Hid (KyR (w.alloc (.cells #[.int .u32 0, .int .u32 0, .int .u32 0, .int .u32 0, .int .u32 0, .int .u32 0, .int .u32 0, .int .u16 0, .int .u16 0, .int .u16 0, .int .u16 0, .string ⟨#[]⟩, .int .i64 0, .int .i64 0] 32)) a k m) := Lib.hid (h.later HS.out.below)
  have c2 : (w.alloc (.cells #[.int .u32 0, .int .u32 0, .int .u32 0, .int .u32 0, .int .u32 0, .int .u32 0, .int .u32 0, .int .u16 0, .int .u16 0, .int .u16 0, .int .u16 0, .string ⟨#[]⟩, .int .i64 0, .int .i64 0] 32)).cell? ⟨a, 2, none⟩ = some (.int .i64 (m : Int)) := by rw [cell_in HY.out]; rfl
  have c0 : (w.alloc (.cells #[.int .u32 0, .int .u32 0, .int .u32 0, .int .u32 0, .int .u32 0, .int .u32 0, .int .u32 0, .int .u16 0, .int .u16 0, .int .u16 0, .int .u16 0, .string ⟨#[]⟩, .int .i64 0, .int .i64 0] 32)).cell? ⟨a, 0, none⟩ = some (.string k.nk) := by rw [cell_in HY.out]; rfl
  have HR1 := Lib.hid (fun W => rread_any9 k.nk c hk1 hc W)
  have hmz : ¬ (m : Int) = 0 := by omega
  have hm1 : decide ((1 : Int) < (m : Int)) = true := decide_eq_true (by omega)
  have hwr : IntKind.i64.wrap (now - k.since) = now - k.since := by unfold BoundN at hbn hbs; rw [IntKind.wrap_i64]; omega
  have hle : decide (now - k.since ≤ 60000) = true := decide_eq_true hst
  have HR2 := Lib.hid (fun W => rread_any9 k.ok c hk2 hc W)
  rw [h5] at HR1
  have hei : ¬ (((readK k.ok c).2 : Nat) : Int) = 0 := by omega
  clear hr h5 hk1 hk2 hc hn h hmany hm0 he hst hst2 h1 hbn hbs
  generalize (readK k.nk c).1 = s1 at *
  generalize readK k.ok c = r2 at *
  obtain ⟨s2, e2⟩ := r2
  dsimp only at *
  have HI1 := Lib.hid (sizeSr s1)
  have HE1 := Lib.hid (cellsS_one s1)
  have HI2 := Lib.hid (sizeSr s2)
  have HE2 := Lib.hid (cellsS_one s2)
  go_enter Tryd.func25, Tryd.ntmps25
  go_wp2_with fail
  refine (HR1.out _).mono ?_
  rintro e w2 ⟨rfl, hb2⟩
  have HS2 := Lib.hid (HS.out.later hb2)
  have HN2 := Lib.hid (HS2.out.later ((Below.refl _ _).alloc (Nat.le_refl _) (.cells (cellsS s1) 32)))
  have HW2 := Lib.hid (heap_alloc_new w2 (.cells (cellsS s1) 32))
  have HY2 := Lib.hid ((HY.out.later hb2).later ((Below.refl _ _).alloc (Nat.le_refl _) (.cells (cellsS s1) 32)))
  have HSA : Hid ((w2.alloc (.cells #[.int .u32 0, .int .u32 0, .int .u32 0, .int .u32 0, .int .u32 0, .int .u32 0, .int .u32 0, .int .u16 0, .int .u16 0, .int .u16 0, .int .u16 0, .string ⟨#[]⟩, .int .i64 0, .int .i64 0] 32)).setRow w2.heap.size (cellsS s1) = w2.alloc (.cells (cellsS s1) 32)) := Lib.hid (World.setRow_alloc_new _ _ _ _)
  have hlt2 : w.heap.size < w2.heap.size := HS2.out.lt
  clear hb2 HS c0 c2 HR1 HY
  have k2 : (w2.alloc (.cells (cellsS s1) 32)).cell? ⟨a, 2, none⟩ = some (.int .i64 (m : Int)) := by rw [cell_in HY2.out]; rfl
  have k3 : (w2.alloc (.cells (cellsS s1) 32)).cell? ⟨a, 3, none⟩ = some (.int .i64 k.since) := by rw [cell_in HY2.out]; rfl
  have k1 : (w2.alloc (.cells (cellsS s1) 32)).cell? ⟨a, 1, none⟩ = some (.string k.ok) := by rw [cell_in HY2.out]; rfl
  go_wp2_with (refine wpList_store_row rfl 32 (.tmp 8) (.tmp 23) rfl w2.heap.size (cellsS s1) rfl rfl 32 #[.int .u32 0, .int .u32 0, .int .u32 0, .int .u32 0, .int .u32 0, .int .u32 0, .int .u32 0, .int .u16 0, .int .u16 0, .int .u16 0, .int .u16 0, .string ⟨#[]⟩, .int .i64 0, .int .i64 0] (heap_alloc_new _ _) HI1.out rfl HE1.out ?_; rw [HSA.out])
  refine (HR2.out _).mono ?_
  rintro e w4 ⟨rfl, hb4⟩
  have HW3 := Lib.hid ((hb4.block w2.heap.size (by rw [World.size_alloc]; omega)).trans HW2.out)
  have HN3 := Lib.hid (HN2.out.later hb4)
  have HW4 := Lib.hid (setRow_at (cs := cellsS s2) HW3.out)
  have HN4 := Lib.hid ((setRow_other w4 w2.heap.size w.heap.size (cellsS s2) (by omega)).trans HN3.out.own)
  have HB4 := Lib.hid (below_setRow HN3.out.below w2.heap.size (cellsS s2) (by omega))
  clear hb4 HN2 HW2 k1 k2 k3 HY2 HR2
  go_wp2_with (first
    | (refine wpList_store_row rfl 32 (.tmp 8) (.tmp 50) rfl w2.heap.size (cellsS s2) rfl rfl 32 (cellsS s1) HW3.out HI2.out rfl HE2.out ?_)
    | (refine wpList_store_row rfl 32 (.tmp 6) (.tmp 54) rfl w.heap.size (cellsS zeroS) rfl rfl 32 (cellsS zeroS) HN4.out HI.out rfl HE.out ?_))
  refine bodyPost_ret (results_row1 (P := Tryd.prog) rfl _ _ w.heap.size 32 (cellsS zeroS) (0, 0) _ rfl (setRow_at HN4.out) Tryd.underlying32 rfl HI.out) rfl ⟨rfl, below_setRow HB4.out _ _ (Nat.le_refl _)⟩

set_option maxHeartbeats 4000000 in
set_option maxRecDepth 100000 in
theorem rkread_old_stale (a m : Nat) (k : Ky) (hmany : Many k m) (c : ByteArray) (now : Int) (hk1 : k.nk.size ≤ 900000) (hk2 : k.ok.size ≤ 900000) (hc : c.size ≤ 900000) (hm0 : 0 < m) (h5 : (readK k.nk c).2 = 5) (h1 : 1 < m) (hst : now - k.since ≤ 60000) (hbn : BoundN now) (hbs : BoundN k.since) (he : (readK k.ok c).2 = 0) (hs : staleB (readK k.ok c).1 now = true) (w : World) (h : KyR w a k m) :
    Calls Tryd.prog 25 #[.pointer (some ⟨a, 0, none⟩), .string c, .int .i64 now] w fun e w' => e = .returned (.tuple #[.agg (cellsS (readKy k c now).1), .int .i64 ((readKy k c now).2 : Nat)]) ∧ Below w.heap.size w w' := by
  have hn : k.nt = true := by rw [hmany.1]; exact decide_eq_true hm0
  have hst2 : stillB k now = true := by unfold stillB; rw [hmany.2, decide_eq_true h1, decide_eq_true hst]; rfl
  have hr := ky_stale (now := now) hn (try_old h5 hst2) he hs
  rw [hr]
  have HS : Hid (StS 32 w.heap.size zeroS w (w.alloc (.cells #[.int .u32 0, .int .u32 0, .int .u32 0, .int .u32 0, .int .u32 0, .int .u32 0, .int .u32 0, .int .u16 0, .int .u16 0, .int .u16 0, .int .u16 0, .string ⟨#[]⟩, .int .i64 0, .int .i64 0] 32))) := Lib.hid (StS.new 32 zeroS w)
  have HI := Lib.hid (sizeSr zeroS)
  have HE := Lib.hid (cellsS_one zeroS)
  have HY : Hid (KyR (w.alloc (.cells #[.int .u32 0, .int .u32 0, .int .u32 0, .int .u32 0, .int .u32 0, .int .u32 0, .int .u32 0, .int .u16 0, .int .u16 0, .int .u16 0, .int .u16 0, .string ⟨#[]⟩, .int .i64 0, .int .i64 0] 32)) a k m) := Lib.hid (h.later HS.out.below)
  have c2 : (w.alloc (.cells #[.int .u32 0, .int .u32 0, .int .u32 0, .int .u32 0, .int .u32 0, .int .u32 0, .int .u32 0, .int .u16 0, .int .u16 0, .int .u16 0, .int .u16 0, .string ⟨#[]⟩, .int .i64 0, .int .i64 0] 32)).cell? ⟨a, 2, none⟩ = some (.int .i64 (m : Int)) := by rw [cell_in HY.out]; rfl
  have c0 : (w.alloc (.cells #[.int .u32 0, .int .u32 0, .int .u32 0, .int .u32 0, .int .u32 0, .int .u32 0, .int .u32 0, .int .u16 0, .int .u16 0, .int .u16 0, .int .u16 0, .string ⟨#[]⟩, .int .i64 0, .int .i64 0] 32)).cell? ⟨a, 0, none⟩ = some (.string k.nk) := by rw [cell_in HY.out]; rfl
  have HR1 := Lib.hid (fun W => rread_any9 k.nk c hk1 hc W)
  have hmz : ¬ (m : Int) = 0 := by omega
  have hm1 : decide ((1 : Int) < (m : Int)) = true := decide_eq_true (by omega)
  have hwr : IntKind.i64.wrap (now - k.since) = now - k.since := by unfold BoundN at hbn hbs; rw [IntKind.wrap_i64]; omega
  have hle : decide (now - k.since ≤ 60000) = true := decide_eq_true hst
  have HR2 := Lib.hid (fun W => rread_any9 k.ok c hk2 hc W)
  have hgood := (right_of (readK_good he).2).made
  have HSB := Lib.hid (show staleB (readK k.ok c).1 now = (decide (now < (readK k.ok c).1.made) || decide ((readK k.ok c).1.life < now - (readK k.ok c).1.made)) by unfold staleB; rw [Bool.decide_or])
  rw [hs] at HSB
  have hws : IntKind.i64.wrap (now - (readK k.ok c).1.made) = now - (readK k.ok c).1.made := by unfold BoundN at hbn; rw [IntKind.wrap_i64]; omega
  rw [h5] at HR1
  rw [he] at HR2
  clear hr h5 hk1 hk2 hc hn h hmany hm0 he hs hgood hst hst2 h1 hbn hbs
  generalize (readK k.nk c).1 = s1 at *
  generalize readK k.ok c = r2 at *
  obtain ⟨s2, e2⟩ := r2
  dsimp only at *
  have HI1 := Lib.hid (sizeSr s1)
  have HE1 := Lib.hid (cellsS_one s1)
  have HI2 := Lib.hid (sizeSr s2)
  have HE2 := Lib.hid (cellsS_one s2)
  go_enter Tryd.func25, Tryd.ntmps25
  go_wp2_with fail
  refine (HR1.out _).mono ?_
  rintro e w2 ⟨rfl, hb2⟩
  have HS2 := Lib.hid (HS.out.later hb2)
  have HN2 := Lib.hid (HS2.out.later ((Below.refl _ _).alloc (Nat.le_refl _) (.cells (cellsS s1) 32)))
  have HW2 := Lib.hid (heap_alloc_new w2 (.cells (cellsS s1) 32))
  have HY2 := Lib.hid ((HY.out.later hb2).later ((Below.refl _ _).alloc (Nat.le_refl _) (.cells (cellsS s1) 32)))
  have HSA : Hid ((w2.alloc (.cells #[.int .u32 0, .int .u32 0, .int .u32 0, .int .u32 0, .int .u32 0, .int .u32 0, .int .u32 0, .int .u16 0, .int .u16 0, .int .u16 0, .int .u16 0, .string ⟨#[]⟩, .int .i64 0, .int .i64 0] 32)).setRow w2.heap.size (cellsS s1) = w2.alloc (.cells (cellsS s1) 32)) := Lib.hid (World.setRow_alloc_new _ _ _ _)
  have hlt2 : w.heap.size < w2.heap.size := HS2.out.lt
  clear hb2 HS c0 c2 HR1 HY
  have k2 : (w2.alloc (.cells (cellsS s1) 32)).cell? ⟨a, 2, none⟩ = some (.int .i64 (m : Int)) := by rw [cell_in HY2.out]; rfl
  have k3 : (w2.alloc (.cells (cellsS s1) 32)).cell? ⟨a, 3, none⟩ = some (.int .i64 k.since) := by rw [cell_in HY2.out]; rfl
  have k1 : (w2.alloc (.cells (cellsS s1) 32)).cell? ⟨a, 1, none⟩ = some (.string k.ok) := by rw [cell_in HY2.out]; rfl
  go_wp2_with (refine wpList_store_row rfl 32 (.tmp 8) (.tmp 23) rfl w2.heap.size (cellsS s1) rfl rfl 32 #[.int .u32 0, .int .u32 0, .int .u32 0, .int .u32 0, .int .u32 0, .int .u32 0, .int .u32 0, .int .u16 0, .int .u16 0, .int .u16 0, .int .u16 0, .string ⟨#[]⟩, .int .i64 0, .int .i64 0] (heap_alloc_new _ _) HI1.out rfl HE1.out ?_; rw [HSA.out])
  refine (HR2.out _).mono ?_
  rintro e w4 ⟨rfl, hb4⟩
  have HW3 := Lib.hid ((hb4.block w2.heap.size (by rw [World.size_alloc]; omega)).trans HW2.out)
  have HN3 := Lib.hid (HN2.out.later hb4)
  have HW4 := Lib.hid (setRow_at (cs := cellsS s2) HW3.out)
  have HN4 := Lib.hid ((setRow_other w4 w2.heap.size w.heap.size (cellsS s2) (by omega)).trans HN3.out.own)
  have HB4 := Lib.hid (below_setRow HN3.out.below w2.heap.size (cellsS s2) (by omega))
  clear hb4 HN2 HW2 k1 k2 k3 HY2 HR2
  have f12 : (w4.setRow w2.heap.size (cellsS s2)).cell? ⟨w2.heap.size, 12, none⟩ = some (.int .i64 s2.made) := by rw [cell_in HW4.out]; rfl
  have f13 : (w4.setRow w2.heap.size (cellsS s2)).cell? ⟨w2.heap.size, 13, none⟩ = some (.int .i64 s2.life) := by rw [cell_in HW4.out]; rfl
  by_cases hx : now < s2.made
  · have hx' : decide (now < s2.made) = true := decide_eq_true hx
    clear hx HSB
    go_wp2_with (first
      | (refine wpList_store_row rfl 32 (.tmp 8) (.tmp 50) rfl w2.heap.size (cellsS s2) rfl rfl 32 (cellsS s1) HW3.out HI2.out rfl HE2.out ?_)
      | (refine wpList_store_row rfl 32 (.tmp 6) (.tmp 69) rfl w.heap.size (cellsS zeroS) rfl rfl 32 (cellsS zeroS) HN4.out HI.out rfl HE.out ?_))
    refine bodyPost_ret (results_row1 (P := Tryd.prog) rfl _ _ w.heap.size 32 (cellsS zeroS) (0, 0) _ rfl (setRow_at HN4.out) Tryd.underlying32 rfl HI.out) rfl ⟨rfl, below_setRow HB4.out _ _ (Nat.le_refl _)⟩
  · have hx' : decide (now < s2.made) = false := decide_eq_false hx
    have hy : decide (s2.life < now - s2.made) = true := by have := HSB.out; rw [hx', Bool.false_or] at this; exact this.symm
    clear hx HSB
    go_wp2_with (first
      | (refine wpList_store_row rfl 32 (.tmp 8) (.tmp 50) rfl w2.heap.size (cellsS s2) rfl rfl 32 (cellsS s1) HW3.out HI2.out rfl HE2.out ?_)
      | (refine wpList_store_row rfl 32 (.tmp 6) (.tmp 69) rfl w.heap.size (cellsS zeroS) rfl rfl 32 (cellsS zeroS) HN4.out HI.out rfl HE.out ?_))
    refine bodyPost_ret (results_row1 (P := Tryd.prog) rfl _ _ w.heap.size 32 (cellsS zeroS) (0, 0) _ rfl (setRow_at HN4.out) Tryd.underlying32 rfl HI.out) rfl ⟨rfl, below_setRow HB4.out _ _ (Nat.le_refl _)⟩

set_option maxHeartbeats 4000000 in
set_option maxRecDepth 100000 in
theorem rkread_old_good (a m : Nat) (k : Ky) (hmany : Many k m) (c : ByteArray) (now : Int) (hk1 : k.nk.size ≤ 900000) (hk2 : k.ok.size ≤ 900000) (hc : c.size ≤ 900000) (hm0 : 0 < m) (h5 : (readK k.nk c).2 = 5) (h1 : 1 < m) (hst : now - k.since ≤ 60000) (hbn : BoundN now) (hbs : BoundN k.since) (he : (readK k.ok c).2 = 0) (hs : staleB (readK k.ok c).1 now = false) (w : World) (h : KyR w a k m) :
    Calls Tryd.prog 25 #[.pointer (some ⟨a, 0, none⟩), .string c, .int .i64 now] w fun e w' => e = .returned (.tuple #[.agg (cellsS (readKy k c now).1), .int .i64 ((readKy k c now).2 : Nat)]) ∧ Below w.heap.size w w' := by
  have hn : k.nt = true := by rw [hmany.1]; exact decide_eq_true hm0
  have hst2 : stillB k now = true := by unfold stillB; rw [hmany.2, decide_eq_true h1, decide_eq_true hst]; rfl
  have hr := ky_good (now := now) hn (try_old h5 hst2) he hs
  rw [hr]
  have HS : Hid (StS 32 w.heap.size zeroS w (w.alloc (.cells #[.int .u32 0, .int .u32 0, .int .u32 0, .int .u32 0, .int .u32 0, .int .u32 0, .int .u32 0, .int .u16 0, .int .u16 0, .int .u16 0, .int .u16 0, .string ⟨#[]⟩, .int .i64 0, .int .i64 0] 32))) := Lib.hid (StS.new 32 zeroS w)
  have HI := Lib.hid (sizeSr zeroS)
  have HE := Lib.hid (cellsS_one zeroS)
  have HY : Hid (KyR (w.alloc (.cells #[.int .u32 0, .int .u32 0, .int .u32 0, .int .u32 0, .int .u32 0, .int .u32 0, .int .u32 0, .int .u16 0, .int .u16 0, .int .u16 0, .int .u16 0, .string ⟨#[]⟩, .int .i64 0, .int .i64 0] 32)) a k m) := Lib.hid (h.later HS.out.below)
  have c2 : (w.alloc (.cells #[.int .u32 0, .int .u32 0, .int .u32 0, .int .u32 0, .int .u32 0, .int .u32 0, .int .u32 0, .int .u16 0, .int .u16 0, .int .u16 0, .int .u16 0, .string ⟨#[]⟩, .int .i64 0, .int .i64 0] 32)).cell? ⟨a, 2, none⟩ = some (.int .i64 (m : Int)) := by rw [cell_in HY.out]; rfl
  have c0 : (w.alloc (.cells #[.int .u32 0, .int .u32 0, .int .u32 0, .int .u32 0, .int .u32 0, .int .u32 0, .int .u32 0, .int .u16 0, .int .u16 0, .int .u16 0, .int .u16 0, .string ⟨#[]⟩, .int .i64 0, .int .i64 0] 32)).cell? ⟨a, 0, none⟩ = some (.string k.nk) := by rw [cell_in HY.out]; rfl
  have HR1 := Lib.hid (fun W => rread_any9 k.nk c hk1 hc W)
  have hmz : ¬ (m : Int) = 0 := by omega
  have hm1 : decide ((1 : Int) < (m : Int)) = true := decide_eq_true (by omega)
  have hwr : IntKind.i64.wrap (now - k.since) = now - k.since := by unfold BoundN at hbn hbs; rw [IntKind.wrap_i64]; omega
  have hle : decide (now - k.since ≤ 60000) = true := decide_eq_true hst
  have HR2 := Lib.hid (fun W => rread_any9 k.ok c hk2 hc W)
  have hgood := (right_of (readK_good he).2).made
  have HSB := Lib.hid (show staleB (readK k.ok c).1 now = (decide (now < (readK k.ok c).1.made) || decide ((readK k.ok c).1.life < now - (readK k.ok c).1.made)) by unfold staleB; rw [Bool.decide_or])
  rw [hs] at HSB
  have hws : IntKind.i64.wrap (now - (readK k.ok c).1.made) = now - (readK k.ok c).1.made := by unfold BoundN at hbn; rw [IntKind.wrap_i64]; omega
  rw [h5] at HR1
  rw [he] at HR2
  rw [he]
  clear hr h5 hk1 hk2 hc hn h hmany hm0 he hs hgood hst hst2 h1 hbn hbs
  generalize (readK k.nk c).1 = s1 at *
  generalize readK k.ok c = r2 at *
  obtain ⟨s2, e2⟩ := r2
  dsimp only at *
  have HI1 := Lib.hid (sizeSr s1)
  have HE1 := Lib.hid (cellsS_one s1)
  have HI2 := Lib.hid (sizeSr s2)
  have HE2 := Lib.hid (cellsS_one s2)
  go_enter Tryd.func25, Tryd.ntmps25
  go_wp2_with fail
  refine (HR1.out _).mono ?_
  rintro e w2 ⟨rfl, hb2⟩
  have HS2 := Lib.hid (HS.out.later hb2)
  have HN2 := Lib.hid (HS2.out.later ((Below.refl _ _).alloc (Nat.le_refl _) (.cells (cellsS s1) 32)))
  have HW2 := Lib.hid (heap_alloc_new w2 (.cells (cellsS s1) 32))
  have HY2 := Lib.hid ((HY.out.later hb2).later ((Below.refl _ _).alloc (Nat.le_refl _) (.cells (cellsS s1) 32)))
  have HSA : Hid ((w2.alloc (.cells #[.int .u32 0, .int .u32 0, .int .u32 0, .int .u32 0, .int .u32 0, .int .u32 0, .int .u32 0, .int .u16 0, .int .u16 0, .int .u16 0, .int .u16 0, .string ⟨#[]⟩, .int .i64 0, .int .i64 0] 32)).setRow w2.heap.size (cellsS s1) = w2.alloc (.cells (cellsS s1) 32)) := Lib.hid (World.setRow_alloc_new _ _ _ _)
  have hlt2 : w.heap.size < w2.heap.size := HS2.out.lt
  clear hb2 HS c0 c2 HR1 HY
  have k2 : (w2.alloc (.cells (cellsS s1) 32)).cell? ⟨a, 2, none⟩ = some (.int .i64 (m : Int)) := by rw [cell_in HY2.out]; rfl
  have k3 : (w2.alloc (.cells (cellsS s1) 32)).cell? ⟨a, 3, none⟩ = some (.int .i64 k.since) := by rw [cell_in HY2.out]; rfl
  have k1 : (w2.alloc (.cells (cellsS s1) 32)).cell? ⟨a, 1, none⟩ = some (.string k.ok) := by rw [cell_in HY2.out]; rfl
  go_wp2_with (refine wpList_store_row rfl 32 (.tmp 8) (.tmp 23) rfl w2.heap.size (cellsS s1) rfl rfl 32 #[.int .u32 0, .int .u32 0, .int .u32 0, .int .u32 0, .int .u32 0, .int .u32 0, .int .u32 0, .int .u16 0, .int .u16 0, .int .u16 0, .int .u16 0, .string ⟨#[]⟩, .int .i64 0, .int .i64 0] (heap_alloc_new _ _) HI1.out rfl HE1.out ?_; rw [HSA.out])
  refine (HR2.out _).mono ?_
  rintro e w4 ⟨rfl, hb4⟩
  have HW3 := Lib.hid ((hb4.block w2.heap.size (by rw [World.size_alloc]; omega)).trans HW2.out)
  have HN3 := Lib.hid (HN2.out.later hb4)
  have HW4 := Lib.hid (setRow_at (cs := cellsS s2) HW3.out)
  have HN4 := Lib.hid ((setRow_other w4 w2.heap.size w.heap.size (cellsS s2) (by omega)).trans HN3.out.own)
  have HB4 := Lib.hid (below_setRow HN3.out.below w2.heap.size (cellsS s2) (by omega))
  clear hb4 HN2 HW2 k1 k2 k3 HY2 HR2
  have f12 : (w4.setRow w2.heap.size (cellsS s2)).cell? ⟨w2.heap.size, 12, none⟩ = some (.int .i64 s2.made) := by rw [cell_in HW4.out]; rfl
  have f13 : (w4.setRow w2.heap.size (cellsS s2)).cell? ⟨w2.heap.size, 13, none⟩ = some (.int .i64 s2.life) := by rw [cell_in HW4.out]; rfl
  have hx' : decide (now < s2.made) = false := (Bool.or_eq_false_iff.1 HSB.out.symm).1
  have hy : decide (s2.life < now - s2.made) = false := (Bool.or_eq_false_iff.1 HSB.out.symm).2
  clear HSB
  go_wp2_with (first
    | (refine wpList_store_row rfl 32 (.tmp 8) (.tmp 50) rfl w2.heap.size (cellsS s2) rfl rfl 32 (cellsS s1) HW3.out HI2.out rfl HE2.out ?_)
    | (refine wpList_load_want (by rfl) 32 (.tmp 8) rfl w2.heap.size rfl 32 (cellsS s2) (0, 0) _ HW4.out Tryd.underlying32 rfl HI2.out ?_)
    | (refine wpList_store_row rfl 32 (.tmp 6) (.tmp 70) rfl w.heap.size (cellsS s2) rfl rfl 32 (cellsS zeroS) HN4.out HI2.out rfl HE2.out ?_))
  refine bodyPost_ret (results_row1 (P := Tryd.prog) rfl _ _ w.heap.size 32 (cellsS s2) (0, 0) _ rfl (setRow_at HN4.out) Tryd.underlying32 rfl HI2.out) rfl ⟨rfl, below_setRow HB4.out _ _ (Nat.le_refl _)⟩

/-- The document's Read by keys, whatever they are. -/
theorem rkread_any (a m : Nat) (k : Ky) (hmany : Many k m) (c : ByteArray) (now : Int) (hk1 : k.nk.size ≤ 900000) (hk2 : k.ok.size ≤ 900000) (hc : c.size ≤ 900000) (hb : BoundN now ∧ BoundN k.since) (w : World) (h : KyR w a k m) :
    Calls Tryd.prog 25 #[.pointer (some ⟨a, 0, none⟩), .string c, .int .i64 now] w fun e w' => e = .returned (.tuple #[.agg (cellsS (readKy k c now).1), .int .i64 ((readKy k c now).2 : Nat)]) ∧ Below w.heap.size w w' := by
  by_cases hm : m = 0
  · subst hm
    exact rkread_none a k c now hmany w h
  have hm0 : 0 < m := by omega
  by_cases h5 : (readK k.nk c).2 = 5
  · by_cases h1 : m = 1
    · exact rkread_one_bad a m k hmany c now hk1 hk2 hc hm0 h5 h1 w h
    · by_cases hst : now - k.since ≤ 60000
      · by_cases he : (readK k.ok c).2 = 0
        · cases hs : staleB (readK k.ok c).1 now with
          | false => exact rkread_old_good a m k hmany c now hk1 hk2 hc hm0 h5 (by omega) hst hb.1 hb.2 he hs w h
          | true => exact rkread_old_stale a m k hmany c now hk1 hk2 hc hm0 h5 (by omega) hst hb.1 hb.2 he hs w h
        · exact rkread_old_bad a m k hmany c now hk1 hk2 hc hm0 h5 (by omega) hst hb.1 hb.2 he w h
      · exact rkread_late_bad a m k hmany c now hk1 hk2 hc hm0 h5 (by omega) (by omega) hb.1 hb.2 w h
  · by_cases he : (readK k.nk c).2 = 0
    · cases hs : staleB (readK k.nk c).1 now with
      | false => exact rkread_new_good a m k hmany c now hk1 hk2 hc hm0 h5 hb.1 he hs w h
      | true => exact rkread_new_stale a m k hmany c now hk1 hk2 hc hm0 h5 hb.1 he hs w h
    · exact rkread_new_bad a m k hmany c now hk1 hk2 hc hm0 h5 he w h

end Go.Proofs.YthfiebdpoleeeaaDoor
