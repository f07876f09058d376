/-
  Package sha: the registers behind a block.
-/
import Derived.Test.YthfiebdpoleeeaaDoorShaC
import Derived.Tactics2
import Derived.Deep.DeepCutAuto
namespace Go.Proofs.YthfiebdpoleeeaaDoor
open Go.RowKit
set_option linter.unusedVariables false

/-- The package's table of constants lies there. -/
def Kub (w : World) : Prop := 0 < w.heap.size ∧ ∀ j, j < 64 → w.cell? ⟨0, j, none⟩ = some (.int .u32 (consts[j]!.toNat : Int))
theorem Kub.later {w w' : World} (h : Kub w) (hb : Below w.heap.size w w') : Kub w' :=
  ⟨Nat.lt_of_lt_of_le h.1 hb.size, fun j hj => (hb.cell (p := ⟨0, j, none⟩) h.1).trans (h.2 j hj)⟩
theorem add32_comm (x y : UInt32) : add32 x y = add32 y x := by unfold add32; exact UInt32.add_comm _ _
/-- A word of an array by value. -/
theorem run_index_w (l : List UInt32) (hl : l.length = 64) (k : Nat) (hk : k < 64) (w : World) :
    (Instr.index 131 (.agg (rowW l)) (.int .i64 (k : Int))).run Tryd.prog w = .ok (.int .u32 (l[k]!.toNat : Int)) w := by
  have hu := run_underlying (P := Tryd.prog) Tryd.underlying131
  have hat := rowW_at l (j := k) (by omega)
  have hi : (Tryd.prog.info? 22).map (fun i => (i.zero, i.size, i.bytes)) = some (some (.int .u32 0), 1, 4) := info32
  obtain ⟨i0, hi0, hz0, hz1, hz2⟩ := info_parts hi
  have hu2 := run_underlying (P := Tryd.prog) Tryd.underlying22
  have h0 : (0 : Int) ≤ (k : Int) ∧ (k : Int) < 64 := by omega
  simp [Instr.index, asIntOf, hu, hu2, part, isAgg, sizeOf, typeInfo, hi0, hz1, hat, h0, hk]
theorem lg1_quiet (x : UInt32) (w : World) : Calls Tryd.prog 83 #[.int .u32 (x.toNat : Int)] w fun e w' => e = .returned (.int .u32 ((lg1 x).toNat : Int)) ∧ ∃ n, w' = w.drewN n := (lg1_any x w).mono fun _ _ ⟨he, hw⟩ => ⟨he, 0, hw.symm⟩
theorem behind_list {l : List UInt32} (h : l.length = 8) : ∃ x0 x1 x2 x3 x4 x5 x6 x7, l = [x0, x1, x2, x3, x4, x5, x6, x7] := by
  match l, h with
  | [x0, x1, x2, x3, x4, x5, x6, x7], _ => exact ⟨x0, x1, x2, x3, x4, x5, x6, x7, rfl⟩
theorem cells8 {W : World} {g : Nat} {t : TypeId} {x0 x1 x2 x3 x4 x5 x6 x7 : UInt32} (h : W.heap[g]? = some (.cells (rowW [x0, x1, x2, x3, x4, x5, x6, x7]) t (0, 0))) :
    W.cell? ⟨g, 0, none⟩ = some (.int .u32 (x0.toNat : Int)) ∧ W.cell? ⟨g, 1, none⟩ = some (.int .u32 (x1.toNat : Int)) ∧ W.cell? ⟨g, 2, none⟩ = some (.int .u32 (x2.toNat : Int)) ∧ W.cell? ⟨g, 3, none⟩ = some (.int .u32 (x3.toNat : Int)) ∧
    W.cell? ⟨g, 4, none⟩ = some (.int .u32 (x4.toNat : Int)) ∧ W.cell? ⟨g, 5, none⟩ = some (.int .u32 (x5.toNat : Int)) ∧ W.cell? ⟨g, 6, none⟩ = some (.int .u32 (x6.toNat : Int)) ∧ W.cell? ⟨g, 7, none⟩ = some (.int .u32 (x7.toNat : Int)) := by
  refine ⟨?_, ?_, ?_, ?_, ?_, ?_, ?_, ?_⟩ <;> exact cell_of_row W _ _ _ _ _ h
theorem drawn_Kub {w : World} (h : Kub w) (n : Nat) : Kub (w.drewN n) := h
/-- The eight words that are there after t of the turns. -/
def At8 (ws r : List UInt32) (t : Nat) (x0 x1 x2 x3 x4 x5 x6 x7 : UInt32) : Prop := turns ws r t = [x0, x1, x2, x3, x4, x5, x6, x7]
theorem At8.next {ws r : List UInt32} {t : Nat} {x0 x1 x2 x3 x4 x5 x6 x7 : UInt32} (h : At8 ws r t x0 x1 x2 x3 x4 x5 x6 x7) :
    At8 ws r (t + 1) (add32 (add32 (add32 (add32 (add32 x7 (lg1 x4)) (ch x4 x5 x6)) consts[t]!) ws[t]!) (add32 (lg0 x0) (maj x0 x1 x2))) x0 x1 x2 (add32 x3 (add32 (add32 (add32 (add32 x7 (lg1 x4)) (ch x4 x5 x6)) consts[t]!) ws[t]!)) x4 x5 x6 := by
  unfold At8 at h ⊢
  show turn consts[t]! ws[t]! (turns ws r t) = _
  rw [h]
  rfl
set_option maxRecDepth 100000 in
set_option maxHeartbeats 4000000 in
theorem behind_any (r : List UInt32) (hr : r.length = 8) (b off : Nat) (l : List UInt8) (hl : l.length = 64) (w : World) (hb : b < w.heap.size) (hc : ∀ j, j < 64 → w.cell? ⟨b, off + j, none⟩ = some (.int .u8 (l[j]!.toNat : Int))) (hK : Kub w) :
    Calls Tryd.prog 73 #[.agg (rowW r), .slice (some ⟨b, off, none⟩) 64 64] w fun e w' => e = .returned (.agg (rowW (behindBlock r (words l 0)))) ∧ Below w.heap.size w w' := by
  obtain ⟨y0, y1, y2, y3, y4, y5, y6, y7, rfl⟩ := behind_list hr
  clear hr
  have HC := Lib.hid hc
  have HK := Lib.hid hK
  clear hc hK
  go_enter Tryd.func73, Tryd.ntmps73
  go_wp2_with fail
  obtain ⟨w1, h1⟩ : ∃ w1, w1 = (w.alloc (Obj.cells (rowW [y0, y1, y2, y3, y4, y5, y6, y7]) 107)).alloc (Obj.cells (rowW [0, 0, 0, 0, 0, 0, 0, 0]) 107) := ⟨_, rfl⟩
  have h1' : w1 = (w.alloc (Obj.cells (rowW [y0, y1, y2, y3, y4, y5, y6, y7]) 107)).alloc (Obj.cells #[Value.int IntKind.u32 0, Value.int IntKind.u32 0, Value.int IntKind.u32 0, Value.int IntKind.u32 0, Value.int IntKind.u32 0, Value.int IntKind.u32 0, Value.int IntKind.u32 0, Value.int IntKind.u32 0] 107) := h1
  rw [← h1']
  clear h1'
  have HB1 := Lib.hid (show Below w.heap.size w w1 by subst h1; exact ((Below.refl _ _).alloc (Nat.le_refl _) _).alloc (by simp) _)
  have hR1 : w1.heap[w.heap.size]? = some (.cells (rowW [y0, y1, y2, y3, y4, y5, y6, y7]) 107 (0, 0)) := by subst h1; exact heap_alloc2_old w _ _
  have hV1 : w1.heap[w.heap.size + 1]? = some (.cells (rowW [0, 0, 0, 0, 0, 0, 0, 0]) 107 (0, 0)) := by subst h1; exact heap_alloc2_new w _ _
  have hs1 : w1.heap.size = w.heap.size + 2 := by subst h1; simp
  clear h1
  obtain ⟨c0, c1, c2, c3, c4, c5, c6, c7⟩ := cells8 hR1
  have HR1 := Lib.hid hR1
  have HV1 := Lib.hid hV1
  have HS1 := Lib.hid hs1
  clear hR1 hV1 hs1
  go_quiet (fail)
  clear c0 c1 c2 c3 c4 c5 c6 c7
  have HB2 := Lib.hid (below_drewN HB1.out nq)
  have HR2 : Hid ((w1.drewN nq).heap[w.heap.size]? = some (.cells (rowW [y0, y1, y2, y3, y4, y5, y6, y7]) 107 (0, 0)) ∧ (w1.drewN nq).heap[w.heap.size + 1]? = some (.cells (rowW [0, 0, 0, 0, 0, 0, 0, 0]) 107 (0, 0)) ∧ (w1.drewN nq).heap.size = w.heap.size + 2) := Lib.hid ⟨HR1.out, HV1.out, HS1.out⟩
  clear HB1 HR1 HV1 HS1
  generalize w1.drewN nq = w2 at *
  go_wp2_with fail
  refine (schedule_any b off l hl w2 (Nat.lt_of_lt_of_le hb HB2.out.size) (fun j hj => (HB2.out.cell (p := ⟨b, off + j, none⟩) hb).trans (HC.out j hj))).mono ?_
  rintro e w3 ⟨rfl, hb3⟩
  have HB3 := Lib.hid (HB2.out.trans (hb3.mono HB2.out.size))
  have HR3 : Hid (w3.heap[w.heap.size]? = some (.cells (rowW [y0, y1, y2, y3, y4, y5, y6, y7]) 107 (0, 0)) ∧ w3.heap[w.heap.size + 1]? = some (.cells (rowW [0, 0, 0, 0, 0, 0, 0, 0]) 107 (0, 0))) :=
    Lib.hid ⟨(hb3.block _ (by rw [HR2.out.2.2]; omega)).trans HR2.out.1, (hb3.block _ (by rw [HR2.out.2.2]; omega)).trans HR2.out.2.1⟩
  clear hb3 HR2 HB2
  have hln : (sched 48 (words l 0)).length = 64 := by rw [sched_length, words_length]
  have HBE : Hid (behindBlock [y0, y1, y2, y3, y4, y5, y6, y7] (words l 0) = List.zipWith add32 (turns (sched 48 (words l 0)) [y0, y1, y2, y3, y4, y5, y6, y7] 64) [y0, y1, y2, y3, y4, y5, y6, y7]) := Lib.hid rfl
  generalize sched 48 (words l 0) = S at *
  have HLN := Lib.hid hln
  clear hln
  have hA0 : At8 S [y0, y1, y2, y3, y4, y5, y6, y7] 0 y0 y1 y2 y3 y4 y5 y6 y7 := rfl
  have HA0 := Lib.hid hA0
  clear hA0
  have H0 : Hid (Below w.heap.size w w3 ∧ w3.heap[w.heap.size]? = some (.cells (rowW [y0, y1, y2, y3, y4, y5, y6, y7]) 107 (0, 0)) ∧ w3.heap[w.heap.size + 1]? = some (.cells (rowW [0, 0, 0, 0, 0, 0, 0, 0]) 107 (0, 0))) := Lib.hid ⟨HB3.out, HR3.out⟩
  clear HB3 HR3
  go_wp2_with fail
  go_loopw [5, 6, 7, 8, 9, 10, 11, 12, 35] (fun a5 a6 a7 a8 a9 a10 a11 a12 i wr => ∃ (t : Nat) (x0 x1 x2 x3 x4 x5 x6 x7 : UInt32), t ≤ 64 ∧ i = .int .i64 t ∧ a5 = .int .u32 (x0.toNat : Int) ∧ a6 = .int .u32 (x1.toNat : Int) ∧ a7 = .int .u32 (x2.toNat : Int) ∧ a8 = .int .u32 (x3.toNat : Int) ∧ a9 = .int .u32 (x4.toNat : Int) ∧ a10 = .int .u32 (x5.toNat : Int) ∧ a11 = .int .u32 (x6.toNat : Int) ∧ a12 = .int .u32 (x7.toNat : Int) ∧
      Hid (At8 S [y0, y1, y2, y3, y4, y5, y6, y7] t x0 x1 x2 x3 x4 x5 x6 x7) ∧ Hid (Below w.heap.size w wr ∧ wr.heap[w.heap.size]? = some (.cells (rowW [y0, y1, y2, y3, y4, y5, y6, y7]) 107 (0, 0)) ∧ wr.heap[w.heap.size + 1]? = some (.cells (rowW [0, 0, 0, 0, 0, 0, 0, 0]) 107 (0, 0))))
    (fun _ _ _ _ _ _ _ _ i _ => 64 - (intOf i).toNat)
  case atStart => exact ⟨0, _, _, _, _, _, _, _, _, by omega, rfl, rfl, rfl, rfl, rfl, rfl, rfl, rfl, rfl, HA0, H0⟩
  case round =>
    obtain ⟨t, x0, x1, x2, x3, x4, x5, x6, x7, ht, rfl, rfl, rfl, rfl, rfl, rfl, rfl, rfl, rfl, HA, HT⟩ := hrel
    by_cases hlt : t < 64
    · have hix := run_index_w S HLN.out t hlt
      have ck := ((HK.out).later HT.out.1).2 t hlt
      obtain ⟨T1, hT1⟩ : ∃ T1, T1 = add32 (add32 (add32 (add32 x7 (lg1 x4)) (ch x4 x5 x6)) consts[t]!) S[t]! := ⟨_, rfl⟩
      obtain ⟨T2, hT2⟩ : ∃ T2, T2 = add32 (lg0 x0) (maj x0 x1 x2) := ⟨_, rfl⟩
      have HN := Lib.hid (show At8 S [y0, y1, y2, y3, y4, y5, y6, y7] (t + 1) (add32 T1 T2) x0 x1 x2 (add32 x3 T1) x4 x5 x6 by rw [hT1, hT2]; exact HA.out.next)
      unfold maj at hT2
      have hT1' : (((add32 x7 (lg1 x4)).toNat : Int) + ((xor32 (and32 x4 x5) (and32 (not32 x4) x6)).toNat : Int) + (consts[t]!.toNat : Int) + (S[t]!.toNat : Int)) % 4294967296 = (T1.toNat : Int) := by rw [hT1]; exact r_add4 _ _ _ _
      clear hT1
      generalize consts[t]! = xk at *
      generalize S[t]! = xw at *
      have HT1 := Lib.hid hT1'
      have HT2 := Lib.hid hT2
      clear hT1' hT2
      have rx := r_xor
      have ra := r_addw
      have rn := r_not
      have rd := r_and
      have z1 : (0 : Int) ≤ (t : Int) := by omega
      have z2 : (t : Int) < 64 := by omega
      go_wp2_with fail
      go_quiet ((go_at_call 83; exact Calls.quiet_of (lg1_quiet _ _)))
      go_wp2_with fail
      rw [HT1.out]
      have HTQ : Hid (Below w.heap.size w (wr.drewN nq) ∧ (wr.drewN nq).heap[w.heap.size]? = some (.cells (rowW [y0, y1, y2, y3, y4, y5, y6, y7]) 107 (0, 0)) ∧ (wr.drewN nq).heap[w.heap.size + 1]? = some (.cells (rowW [0, 0, 0, 0, 0, 0, 0, 0]) 107 (0, 0))) := Lib.hid ⟨below_drewN HT.out.1 nq, HT.out.2⟩
      clear HT ck hix
      generalize wr.drewN nq = wq at *
      refine (lg0_any x0 wq).mono ?_
      rintro e w4 ⟨rfl, rfl⟩
      go_upto_region 7 with fail
      rw [← HT2.out]
      go_wp2_with fail
      go_roundw
      case rel => exact ⟨t + 1, _, _, _, _, _, _, _, _, by omega, by go_num, rfl, rfl, rfl, rfl, rfl, rfl, rfl, rfl, HN, HTQ⟩
      case measure => simp [intOf]; omega
    · obtain rfl : t = 64 := by omega
      have hA := HA.out
      have hBB := HBE.out
      unfold At8 at hA
      rw [hA] at hBB
      have hBB2 : behindBlock [y0, y1, y2, y3, y4, y5, y6, y7] (words l 0) = [add32 y0 x0, add32 y1 x1, add32 y2 x2, add32 y3 x3, add32 y4 x4, add32 y5 x5, add32 y6 x6, add32 y7 x7] := by
        rw [hBB, add32_comm y0, add32_comm y1, add32_comm y2, add32_comm y3, add32_comm y4, add32_comm y5, add32_comm y6, add32_comm y7]
        rfl
      have HB8 := Lib.hid hBB2
      clear hA hBB hBB2
      obtain ⟨c0, c1, c2, c3, c4, c5, c6, c7⟩ := cells8 HT.out.2.1
      have ra := r_addw
      have HE := Lib.hid (rowW_one [add32 y0 x0, add32 y1 x1, add32 y2 x2, add32 y3 x3, add32 y4 x4, add32 y5 x5, add32 y6 x6, add32 y7 x7])
      have HV := Lib.hid HT.out.2.2
      have HS8 := Lib.hid size8
      rw [show ((64 : Nat) : Int) = 64 from rfl]
      go_wp2_with (refine wpList_store_row rfl 107 (.tmp 4) (.tmp 117) rfl (w.heap.size + 1) (rowW [add32 y0 x0, add32 y1 x1, add32 y2 x2, add32 y3 x3, add32 y4 x4, add32 y5 x5, add32 y6 x6, add32 y7 x7]) rfl rfl 107 (rowW [0, 0, 0, 0, 0, 0, 0, 0]) HV.out HS8.out rfl HE.out ?_)
      refine bodyPost_ret (v := .agg (rowW [add32 y0 x0, add32 y1 x1, add32 y2 x2, add32 y3 x3, add32 y4 x4, add32 y5 x5, add32 y6 x6, add32 y7 x7])) (results_cell_row (P := Tryd.prog) rfl _ _ (w.heap.size + 1) 107 (rowW [add32 y0 x0, add32 y1 x1, add32 y2 x2, add32 y3 x3, add32 y4 x4, add32 y5 x5, add32 y6 x6, add32 y7 x7]) (0, 0) _ rfl ?_ Tryd.underlying107 rfl HS8.out) rfl ⟨by rw [HB8.out], ?_⟩
      · exact setRow_heap _ _ _ _ _ _ HV.out
      · exact setRow_below HT.out.1 (by omega) _
end Go.Proofs.YthfiebdpoleeeaaDoor
