/-
  Package rto: New, Sample, Back, Good, Beat: contracts.
-/
import Derived.Test.YtpihgnpbaaagpaaRtoA
import Derived.Test.YtpihgnpbaaagpaaBx
import Derived.Deep.WholeRow
import Derived.BigQuiet
import Derived.Deep.RegionHeld3
namespace Go.Proofs.Ytpihgnpbaaagpaa
open Go.RowKit
set_option linter.unusedVariables false
set_option maxRecDepth 100000

theorem new_any (w : World) : Calls Try.prog 61 #[] w fun e w' => e = .returned (.agg (cellsT newT)) ∧ Below w.heap.size w w' := by
  go_enter Try.func61, Try.ntmps61
  go_wp2
  refine bodyPost_ret (results_cell_row (P := Try.prog) rfl _ _ w.heap.size 43 (cellsT newT) (0, 0) _ rfl (heap_alloc_new w _) Try.underlying43 rfl rfl) rfl ⟨rfl, (Below.refl _ _).alloc (Nat.le_refl _) _⟩

theorem setRow_two (w : World) (a : Obj) (z c : Array Value) (t : TypeId) (n : Nat) : (((w.alloc a).alloc (.cells z t)).drewN n).setRow (w.heap.size + 1) c = ((w.alloc a).alloc (.cells c t)).drewN n := by
  have h := World.setRow_alloc_new ((w.alloc a).drewN n) z c t
  rw [show ((w.alloc a).drewN n).heap.size = w.heap.size + 1 from World.size_alloc w a] at h
  exact h
theorem setRow_two1 (w : World) (a : Obj) (z c : Array Value) (t : TypeId) : (((w.alloc a).alloc (.cells z t)).drew).setRow (w.heap.size + 1) c = ((w.alloc a).alloc (.cells c t)).drew := by
  have h := World.setRow_alloc_new ((w.alloc a).drew) z c t
  rw [show ((w.alloc a).drew).heap.size = w.heap.size + 1 from World.size_alloc w a] at h
  exact h
theorem below_drew {B : Nat} {a w : World} (h : Below B a w) : Below B a w.drew := ⟨h.os, h.tape, h.output, h.size, h.block⟩
theorem sample_new (s v o b r : Int) (w : World) : Calls Try.prog 40 #[.agg (cellsT ⟨s, v, o, b, false⟩), .int .i64 r] w fun e w' => e = .returned (.agg (cellsT (sampleT ⟨s, v, o, b, false⟩ r))) ∧ Below w.heap.size w w' := by
  have h0 := heldI_le (n := r) (show (0 : Int) ≤ 60000 by omega)
  have HH := Lib.hid (fun W => held_any r 0 60000 W)
  have HT := Lib.hid (show sampleT ⟨s, v, o, b, false⟩ r = ⟨heldI r 0 60000, heldI r 0 60000 / 2, waitI (heldI r 0 60000) (heldI r 0 60000 / 2), 0, true⟩ from rfl)
  generalize sampleT ⟨s, v, o, b, false⟩ r = R at *
  generalize heldI r 0 60000 = q at *
  have HW := Lib.hid (fun W => wait_any q (q / 2) (by omega) (by omega) (by omega) (by omega) W)
  generalize waitI q (q / 2) = z at *
  have e1 : Int.tdiv q 2 = q / 2 := Int.tdiv_eq_ediv_of_nonneg h0.1
  dsimp only [cellsT]
  go_enter Try.func40, Try.ntmps40
  go_wp2_with (first
    | (go_at_call 65; refine (HH.out _).mono ?_; rintro e w' ⟨rfl, rfl⟩)
    | (go_at_call 68; refine (HW.out _).mono ?_; rintro e w' ⟨rfl, rfl⟩))
  exact bodyPost_ret (results_cell_row (P := Try.prog) rfl _ _ (w.heap.size + 1) 43 (cellsT ⟨q, q / 2, z, 0, true⟩) (0, 0) _ rfl (heap_two w _ _) Try.underlying43 rfl rfl) rfl ⟨by rw [HT.out]; rfl, below_two w _ _⟩
theorem sample_known (s v o b r : Int) (w : World) : Calls Try.prog 40 #[.agg (cellsT ⟨s, v, o, b, true⟩), .int .i64 r] w fun e w' => e = .returned (.agg (cellsT (sampleT ⟨s, v, o, b, true⟩ r))) ∧ Below w.heap.size w w' := by
  have h0 := heldI_le (n := r) (show (0 : Int) ≤ 60000 by omega)
  have HH := Lib.hid (fun W => held_any r 0 60000 W)
  have HT := Lib.hid (show sampleT ⟨s, v, o, b, true⟩ r = ⟨(7 * keptI s + heldI r 0 60000) / 8, (3 * keptI v + distI (keptI s) (heldI r 0 60000)) / 4, waitI ((7 * keptI s + heldI r 0 60000) / 8) ((3 * keptI v + distI (keptI s) (heldI r 0 60000)) / 4), 0, true⟩ from rfl)
  generalize sampleT ⟨s, v, o, b, true⟩ r = R at *
  generalize heldI r 0 60000 = q at *
  have h1 := keptI_le s
  have h2 := keptI_le v
  have HS := Lib.hid (fun W => kept_any s W)
  have HV := Lib.hid (fun W => kept_any v W)
  generalize keptI s = ks at *
  generalize keptI v = kv at *
  have h3 := distI_le h1.1 h1.2 h0.1 (by omega : q ≤ 1048576)
  have HM := Lib.hid (fun W => smoothed_any ks kv q h1.1 h1.2 h2.1 h2.2 h0.1 (by omega) W)
  generalize distI ks q = d at *
  have HW := Lib.hid (fun W => wait_any ((7 * ks + q) / 8) ((3 * kv + d) / 4) (by omega) (by omega) (by omega) (by omega) W)
  generalize waitI ((7 * ks + q) / 8) ((3 * kv + d) / 4) = z at *
  generalize (7 * ks + q) / 8 = x at *
  generalize (3 * kv + d) / 4 = y at *
  dsimp only [cellsT]
  go_enter Try.func40, Try.ntmps40
  go_wp2_with (first
    | (go_at_call 65; refine (HH.out _).mono ?_; rintro e w' ⟨rfl, rfl⟩)
    | (go_at_call 68; refine (HW.out _).mono ?_; rintro e w' ⟨rfl, rfl⟩))
  go_quiet (first
    | (go_at_call 67; exact Calls.quiet_of_same (HS.out _))
    | (go_at_call 67; exact Calls.quiet_of_same (HV.out _))
    | (go_at_call 66; exact Calls.quiet_of_same (HM.out _)))
  have HZ : Hid ((((w.alloc (.cells #[.int .i64 s, .int .i64 v, .int .i64 o, .int .i64 b, .bool true] 43)).alloc (.cells #[.int .i64 0, .int .i64 0, .int .i64 0, .int .i64 0, .bool false] 43)).drewN nq).heap[w.heap.size + 1]? = some (.cells #[.int .i64 0, .int .i64 0, .int .i64 0, .int .i64 0, .bool false] 43 (0, 0))) := Lib.hid (heap_two w _ _)
  go_wp2_with (first
    | (go_at_call 68; refine (HW.out _).mono ?_; rintro e w' ⟨rfl, rfl⟩)
    | (refine wpList_store_row rfl 43 (.tmp 4) (.tmp 30) rfl (w.heap.size + 1) #[.int .i64 x, .int .i64 y, .int .i64 z, .int .i64 0, .bool true] rfl rfl 43 #[.int .i64 0, .int .i64 0, .int .i64 0, .int .i64 0, .bool false] HZ.out rfl rfl (cellsT_one ⟨x, y, z, 0, true⟩) ?_; rw [setRow_two]))
  exact bodyPost_ret (results_cell_row (P := Try.prog) rfl _ _ (w.heap.size + 1) 43 (cellsT ⟨x, y, z, 0, true⟩) (0, 0) _ rfl (heap_two w _ _) Try.underlying43 rfl rfl) rfl ⟨by rw [HT.out]; rfl, below_drewN (below_two w _ _) _⟩
theorem sample_any (t : Tm) (r : Int) (w : World) : Calls Try.prog 40 #[.agg (cellsT t), .int .i64 r] w fun e w' => e = .returned (.agg (cellsT (sampleT t r))) ∧ Below w.heap.size w w' := by
  obtain ⟨s, v, o, b, k⟩ := t
  cases k
  · exact sample_new s v o b r w
  · exact sample_known s v o b r w
theorem back_any (t : Tm) (h : WfT t) (w : World) : Calls Try.prog 46 #[.agg (cellsT t)] w fun e w' => e = .returned (.agg (cellsT (backT t))) ∧ Below w.heap.size w w' := by
  obtain ⟨s, v, o, b, k⟩ := t
  have hb : -9223372036854775808 ≤ b ∧ b ≤ 9223372036854775807 := h.backs
  have h0 := heldI_le (n := o) (show (0 : Int) ≤ 60000 by omega)
  have HH := Lib.hid (fun W => held_any o 0 60000 W)
  have HT := Lib.hid (show backT ⟨s, v, o, b, k⟩ = ⟨s, v, asRtoI (2 * heldI o 0 60000), min b 999 + 1, k⟩ from rfl)
  generalize backT ⟨s, v, o, b, k⟩ = R at *
  generalize heldI o 0 60000 = q at *
  have HA := Lib.hid (fun W => asRto_any (2 * q) W)
  generalize asRtoI (2 * q) = z at *
  dsimp only [cellsT]
  go_enter Try.func46, Try.ntmps46
  by_cases hlt : 999 < b
  · have hm : min b 999 + 1 = 1000 := by omega
    rw [hm] at HT
    go_wp2_with (first
      | (go_at_call 65; refine (HH.out _).mono ?_; rintro e w' ⟨rfl, rfl⟩)
      | (go_at_call 72; refine (HA.out _).mono ?_; rintro e w' ⟨rfl, rfl⟩))
    exact bodyPost_ret (results_cell_row (P := Try.prog) rfl _ _ (w.heap.size + 1) 43 (cellsT ⟨s, v, z, 1000, k⟩) (0, 0) _ rfl (heap_two w _ _) Try.underlying43 rfl rfl) rfl ⟨by rw [HT.out]; rfl, (below_two w _ _)⟩
  · have hm : min b 999 + 1 = b + 1 := by omega
    rw [hm] at HT
    go_wp2_with (first
      | (go_at_call 65; refine (HH.out _).mono ?_; rintro e w' ⟨rfl, rfl⟩)
      | (go_at_call 72; refine (HA.out _).mono ?_; rintro e w' ⟨rfl, rfl⟩))
    exact bodyPost_ret (results_cell_row (P := Try.prog) rfl _ _ (w.heap.size + 1) 43 (cellsT ⟨s, v, z, b + 1, k⟩) (0, 0) _ rfl (heap_two w _ _) Try.underlying43 rfl rfl) rfl ⟨by rw [HT.out]; rfl, (below_two w _ _)⟩

theorem good_new (s v o b : Int) (w : World) : Calls Try.prog 69 #[.agg (cellsT ⟨s, v, o, b, false⟩)] w fun e w' => e = .returned (.agg (cellsT (goodT ⟨s, v, o, b, false⟩))) ∧ Below w.heap.size w w' := by
  have HT := Lib.hid (show goodT ⟨s, v, o, b, false⟩ = ⟨s, v, 1000, 0, false⟩ from rfl)
  generalize goodT ⟨s, v, o, b, false⟩ = R at *
  dsimp only [cellsT]
  go_enter Try.func69, Try.ntmps69
  go_wp2
  exact bodyPost_ret (results_cell_row (P := Try.prog) rfl _ _ (w.heap.size + 1) 43 (cellsT ⟨s, v, 1000, 0, false⟩) (0, 0) _ rfl (heap_two w _ _) Try.underlying43 rfl rfl) rfl ⟨by rw [HT.out]; rfl, (below_two w _ _)⟩
theorem good_known (s v o b : Int) (w : World) : Calls Try.prog 69 #[.agg (cellsT ⟨s, v, o, b, true⟩)] w fun e w' => e = .returned (.agg (cellsT (goodT ⟨s, v, o, b, true⟩))) ∧ Below w.heap.size w w' := by
  have HT := Lib.hid (show goodT ⟨s, v, o, b, true⟩ = ⟨s, v, waitI (keptI s) (keptI v), 0, true⟩ from rfl)
  generalize goodT ⟨s, v, o, b, true⟩ = R at *
  have h1 := keptI_le s
  have h2 := keptI_le v
  have HS := Lib.hid (fun W => kept_any s W)
  have HV := Lib.hid (fun W => kept_any v W)
  generalize keptI s = ks at *
  generalize keptI v = kv at *
  have HW := Lib.hid (fun W => wait_any ks kv (by omega) (by omega) (by omega) (by omega) W)
  generalize waitI ks kv = z at *
  dsimp only [cellsT]
  go_enter Try.func69, Try.ntmps69
  go_wp2_with fail
  go_region_held3 (fun W => W.cell? ⟨w.heap.size, 0, none⟩ = some (.int .i64 s) ∧ W.cell? ⟨w.heap.size, 1, none⟩ = some (.int .i64 v)) (go_keep)
   (first
    | (go_at_call 67; refine (HS.out _).mono ?_; rintro _ w' ⟨rfl, rfl⟩)
    | (go_at_call 67; refine (HV.out _).mono ?_; rintro _ w' ⟨rfl, rfl⟩)
    | (go_at_call 68; refine (HW.out _).mono ?_; rintro _ w' ⟨rfl, rfl⟩))
  have HZ : Hid (((w.alloc (.cells #[.int .i64 s, .int .i64 v, .int .i64 z, .int .i64 0, .bool true] 43)).alloc (.cells #[.int .i64 0, .int .i64 0, .int .i64 0, .int .i64 0, .bool false] 43)).drew.heap[w.heap.size + 1]? = some (.cells #[.int .i64 0, .int .i64 0, .int .i64 0, .int .i64 0, .bool false] 43 (0, 0))) := Lib.hid (heap_two w _ _)
  go_wp2_with (refine wpList_store_row rfl 43 (.tmp 2) (.tmp 15) rfl (w.heap.size + 1) #[.int .i64 s, .int .i64 v, .int .i64 z, .int .i64 0, .bool true] rfl rfl 43 #[.int .i64 0, .int .i64 0, .int .i64 0, .int .i64 0, .bool false] HZ.out rfl rfl (cellsT_one ⟨s, v, z, 0, true⟩) ?_; rw [setRow_two1])
  exact bodyPost_ret (results_cell_row (P := Try.prog) rfl _ _ (w.heap.size + 1) 43 (cellsT ⟨s, v, z, 0, true⟩) (0, 0) _ rfl (heap_two w _ _) Try.underlying43 rfl rfl) rfl ⟨by rw [HT.out]; rfl, below_drew (below_two w _ _)⟩
theorem good_any (t : Tm) (w : World) : Calls Try.prog 69 #[.agg (cellsT t)] w fun e w' => e = .returned (.agg (cellsT (goodT t))) ∧ Below w.heap.size w w' := by
  obtain ⟨s, v, o, b, k⟩ := t
  cases k
  · exact good_new s v o b w
  · exact good_known s v o b w
end Go.Proofs.Ytpihgnpbaaagpaa
