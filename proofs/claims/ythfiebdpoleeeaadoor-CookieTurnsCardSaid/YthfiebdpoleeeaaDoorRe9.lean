/-
  Package cookie: Read: a contract.
-/
import Derived.Test.YthfiebdpoleeeaaDoorSo9
namespace Go.Proofs.YthfiebdpoleeeaaDoor
open Go.RowKit
set_option linter.unusedVariables false
set_option linter.unusedSimpArgs false

theorem readK_shape (key c : ByteArray) : (c.size < 32 ∧ readK key c = (zeroS, 3)) ∨ (32 ≤ c.size ∧ sameB (hmacOf key (behindB c)) (c.extract 0 32) = false ∧ readK key c = (zeroS, 5)) ∨
    (32 ≤ c.size ∧ sameB (hmacOf key (behindB c)) (c.extract 0 32) = true ∧ okS (behindB c) = false ∧ readK key c = (zeroS, 2)) ∨
    (32 ≤ c.size ∧ sameB (hmacOf key (behindB c)) (c.extract 0 32) = true ∧ okS (behindB c) = true ∧ readK key c = (parseS (behindB c), 0)) := by
  unfold readK
  by_cases h1 : c.size < 32
  · rw [if_pos h1]; exact .inl ⟨h1, rfl⟩
  rw [if_neg h1]
  cases h2 : sameB (hmacOf key (behindB c)) (c.extract 0 32) with
  | false => exact .inr (.inl ⟨by omega, rfl, by simp⟩)
  | true =>
    cases h3 : okS (behindB c) with
    | false => exact .inr (.inr (.inl ⟨by omega, rfl, rfl, by simp⟩))
    | true => exact .inr (.inr (.inr ⟨by omega, rfl, rfl, by simp⟩))
theorem stS_ok {t : ByteArray} (h : okS t = true) : stS t = parseS t := by
  unfold okS at h
  simp only [Bool.and_eq_true, decide_eq_true_eq] at h
  unfold stS
  rw [if_neg (by omega), if_pos h.1.2]
theorem behindB_size (c : ByteArray) : (behindB c).size = c.size - 32 := by
  unfold behindB
  rw [ByteArray.size_extract]
  omega
theorem StS.drewN {T n0 : Nat} {s : St} {w W : World} (h : StS T n0 s w W) (n : Nat) : StS T n0 s w (W.drewN n) := ⟨h.own, below_drewN h.below n, h.base⟩
set_option maxHeartbeats 4000000 in
set_option maxRecDepth 100000 in
theorem read_any9 (key c : ByteArray) (hk : key.size ≤ 900000) (hc : c.size ≤ 900000) (w : World) (hK : Kub w) :
    Calls Tryd.prog 14 #[.string key, .string c] w fun e w' => e = .returned (.tuple #[.agg (cellsS (readK key c).1), .int .i64 ((readK key c).2 : Nat)]) ∧ Below w.heap.size w w' := by
  have HI := Lib.hid (sizeS zeroS)
  have HE := Lib.hid (cellsS_one zeroS)
  have HS : Hid (StS 25 w.heap.size zeroS w (w.alloc (.cells #[.int .u32 0, .int .u32 0, .int .u32 0, .int .u32 0, .int .u32 0, .int .u32 0, .int .u32 0, .int .u16 0, .int .u16 0, .int .u16 0, .int .u16 0, .string ⟨#[]⟩, .int .i64 0, .int .i64 0] 25))) := Lib.hid (StS.new 25 zeroS w)
  have HK := Lib.hid hK
  clear hK
  rcases readK_shape key c with ⟨h1, hr⟩ | ⟨h1, h2, hr⟩ | ⟨h1, h2, h3, hr⟩ | ⟨h1, h2, h3, hr⟩
  · rw [hr]
    have h1' : (c.size : Int) < 32 := by omega
    clear hr h1 hk hc
    go_enter Tryd.func14, Tryd.ntmps14
    go_wp2_with fail
    refine bodyPost_ret (results_row1 (P := Tryd.prog) rfl _ _ w.heap.size 25 (cellsS zeroS) (0, 0) _ rfl (heap_alloc_new w _) Tryd.underlying25 rfl HI.out) rfl ⟨rfl, (Below.refl _ _).alloc (Nat.le_refl _) _⟩
  · rw [hr]
    have h1' : (32 : Int) ≤ (c.size : Int) := by omega
    have hb := behindB_size c
    have HC := Lib.hid (fun W (h : Kub W) => hcheck_any key (behindB c) (c.extract 0 32) hk (by omega) (by rw [ByteArray.size_extract]; omega) W h)
    rw [h2] at HC
    unfold behindB at HC
    clear hr h2 hk hc hb
    go_enter Tryd.func14, Tryd.ntmps14
    go_wp2_with fail
    go_quiet (fail)
    go_wp2_with fail
    refine (HC.out _ (HK.out.later (below_drewN HS.out.below _))).mono ?_
    rintro e w2 ⟨rfl, hb2⟩
    have HS2 := Lib.hid ((HS.out.drewN _).later hb2)
    clear hb2 HC HS
    go_wp2_with (refine wpList_store_row rfl 25 (.tmp 4) (.tmp 23) rfl w.heap.size (cellsS zeroS) rfl rfl 25 (cellsS zeroS) HS2.out.own HI.out rfl HE.out ?_)
    refine bodyPost_ret (results_row1 (P := Tryd.prog) rfl _ _ w.heap.size 25 (cellsS zeroS) (0, 0) _ rfl (setRow_at HS2.out.own) Tryd.underlying25 rfl HI.out) rfl ⟨rfl, below_setRow HS2.out.below _ _ (Nat.le_refl _)⟩
  · rw [hr]
    have h1' : (32 : Int) ≤ (c.size : Int) := by omega
    have hb := behindB_size c
    have HC := Lib.hid (fun W (h : Kub W) => hcheck_any key (behindB c) (c.extract 0 32) hk (by omega) (by rw [ByteArray.size_extract]; omega) W h)
    rw [h2] at HC
    have HO := Lib.hid (fun W => stateOf_any (behindB c) (by omega) W)
    rw [h3] at HO
    generalize stS (behindB c) = ps at *
    have HI2 := Lib.hid (sizeS ps)
    have HE2 := Lib.hid (cellsS_one ps)
    unfold behindB at HC HO
    clear hr h2 h3 hk hc hb
    go_enter Tryd.func14, Tryd.ntmps14
    go_wp2_with fail
    go_quiet (fail)
    go_wp2_with fail
    refine (HC.out _ (HK.out.later (below_drewN HS.out.below _))).mono ?_
    rintro e w2 ⟨rfl, hb2⟩
    have HS2 := Lib.hid ((HS.out.drewN _).later hb2)
    clear hb2 HC HS
    go_wp2_with fail
    refine (HO.out _).mono ?_
    rintro e w3 ⟨rfl, hb3⟩
    have HS3 := Lib.hid (HS2.out.later hb3)
    have HN3 := Lib.hid ((HS2.out.later hb3).later ((Below.refl _ _).alloc (Nat.le_refl _) (.cells (cellsS ps) 25)))
    have HW3 := Lib.hid (heap_alloc_new w3 (.cells (cellsS ps) 25))
    have HSA : Hid ((w3.alloc (.cells #[.int .u32 0, .int .u32 0, .int .u32 0, .int .u32 0, .int .u32 0, .int .u32 0, .int .u32 0, .int .u16 0, .int .u16 0, .int .u16 0, .int .u16 0, .string ⟨#[]⟩, .int .i64 0, .int .i64 0] 25)).setRow w3.heap.size (cellsS ps) = w3.alloc (.cells (cellsS ps) 25)) := Lib.hid (World.setRow_alloc_new _ _ _ _)
    clear hb3 HO HS2
    go_wp2_with (first
      | (refine wpList_store_row rfl 25 (.tmp 8) (.tmp 27) rfl w3.heap.size (cellsS ps) rfl rfl 25 #[.int .u32 0, .int .u32 0, .int .u32 0, .int .u32 0, .int .u32 0, .int .u32 0, .int .u32 0, .int .u16 0, .int .u16 0, .int .u16 0, .int .u16 0, .string ⟨#[]⟩, .int .i64 0, .int .i64 0] (heap_alloc_new _ _) HI2.out rfl HE2.out ?_; rw [HSA.out])
      | (refine wpList_load_row rfl 25 (.tmp 8) rfl w3.heap.size rfl 25 (cellsS ps) (0, 0) _ HW3.out Tryd.underlying25 rfl HI2.out ?_)
      | (refine wpList_store_row rfl 25 (.tmp 4) (.tmp 31) rfl w.heap.size (cellsS zeroS) rfl rfl 25 (cellsS zeroS) HN3.out.own HI.out rfl HE.out ?_))
    refine bodyPost_ret (results_row1 (P := Tryd.prog) rfl _ _ w.heap.size 25 (cellsS zeroS) (0, 0) _ rfl (setRow_at HN3.out.own) Tryd.underlying25 rfl HI.out) rfl ⟨rfl, below_setRow HN3.out.below _ _ (Nat.le_refl _)⟩
  · rw [hr]
    have h1' : (32 : Int) ≤ (c.size : Int) := by omega
    have hb := behindB_size c
    have HC := Lib.hid (fun W (h : Kub W) => hcheck_any key (behindB c) (c.extract 0 32) hk (by omega) (by rw [ByteArray.size_extract]; omega) W h)
    rw [h2] at HC
    have HO := Lib.hid (fun W => stateOf_any (behindB c) (by omega) W)
    rw [h3] at HO
    rw [stS_ok h3] at HO
    generalize parseS (behindB c) = ps at *
    have HI2 := Lib.hid (sizeS ps)
    have HE2 := Lib.hid (cellsS_one ps)
    unfold behindB at HC HO
    clear hr h2 h3 hk hc hb
    go_enter Tryd.func14, Tryd.ntmps14
    go_wp2_with fail
    go_quiet (fail)
    go_wp2_with fail
    refine (HC.out _ (HK.out.later (below_drewN HS.out.below _))).mono ?_
    rintro e w2 ⟨rfl, hb2⟩
    have HS2 := Lib.hid ((HS.out.drewN _).later hb2)
    clear hb2 HC HS
    go_wp2_with fail
    refine (HO.out _).mono ?_
    rintro e w3 ⟨rfl, hb3⟩
    have HS3 := Lib.hid (HS2.out.later hb3)
    have HN3 := Lib.hid ((HS2.out.later hb3).later ((Below.refl _ _).alloc (Nat.le_refl _) (.cells (cellsS ps) 25)))
    have HW3 := Lib.hid (heap_alloc_new w3 (.cells (cellsS ps) 25))
    have HSA : Hid ((w3.alloc (.cells #[.int .u32 0, .int .u32 0, .int .u32 0, .int .u32 0, .int .u32 0, .int .u32 0, .int .u32 0, .int .u16 0, .int .u16 0, .int .u16 0, .int .u16 0, .string ⟨#[]⟩, .int .i64 0, .int .i64 0] 25)).setRow w3.heap.size (cellsS ps) = w3.alloc (.cells (cellsS ps) 25)) := Lib.hid (World.setRow_alloc_new _ _ _ _)
    clear hb3 HO HS2
    go_wp2_with (first
      | (refine wpList_store_row rfl 25 (.tmp 8) (.tmp 27) rfl w3.heap.size (cellsS ps) rfl rfl 25 #[.int .u32 0, .int .u32 0, .int .u32 0, .int .u32 0, .int .u32 0, .int .u32 0, .int .u32 0, .int .u16 0, .int .u16 0, .int .u16 0, .int .u16 0, .string ⟨#[]⟩, .int .i64 0, .int .i64 0] (heap_alloc_new _ _) HI2.out rfl HE2.out ?_; rw [HSA.out])
      | (refine wpList_load_row rfl 25 (.tmp 8) rfl w3.heap.size rfl 25 (cellsS ps) (0, 0) _ HW3.out Tryd.underlying25 rfl HI2.out ?_)
      | (refine wpList_store_row rfl 25 (.tmp 4) (.tmp 32) rfl w.heap.size (cellsS ps) rfl rfl 25 (cellsS zeroS) HN3.out.own HI2.out rfl HE2.out ?_))
    refine bodyPost_ret (results_row1 (P := Tryd.prog) rfl _ _ w.heap.size 25 (cellsS ps) (0, 0) _ rfl (setRow_at HN3.out.own) Tryd.underlying25 rfl HI2.out) rfl ⟨rfl, below_setRow HN3.out.below _ _ (Nat.le_refl _)⟩
end Go.Proofs.YthfiebdpoleeeaaDoor
