/-
  The document's window: contracts.
-/
import Derived.Test.YteiifkooegpdaaaWnB
namespace Go.Proofs.Yteiifkooegpdaaa.Wi
open Go.RowKit
set_option linter.unusedVariables false
set_option maxRecDepth 100000

theorem within11_0 (n : Int) (w : World) : Calls Try.prog 63 #[.int .i64 n, .int .i64 0] w fun e w' => e = .returned (.int .i64 (keptI n)) ∧ w' = w := by
  go_enter Try.func63, Try.ntmps63
  go_wp2
  all_goals (go_ret; exact ⟨ret_i64 (by unfold keptI; omega), rfl⟩)
theorem within11_1500 (n : Int) (w : World) : Calls Try.prog 63 #[.int .i64 n, .int .i64 1500] w fun e w' => e = .returned (.int .i64 (max (keptI n) 1500)) ∧ w' = w := by
  go_enter Try.func63, Try.ntmps63
  go_wp2
  all_goals (go_ret; exact ⟨ret_i64 (by unfold keptI; omega), rfl⟩)
theorem infoRW : (Try.prog.info? 73).map (·.size) = some 3 := by kernel_rfl
theorem cell3_one (a b c : Int) : (#[Value.int .i64 a, .int .i64 b, .int .i64 c] : Array Value).all (·.oneCell') = true := by simp [Value.oneCell']
theorem retRW {fn : Func} {p : Tmp} (h : fn.results = #[.cell p 73]) {tmps : Array Value} {w : World} {g : Nat} {cs : Array Value} (hz : cs.size = 3) (hp : tmps.getD p undef = .pointer (some ⟨g, 0, none⟩)) (hg : Bx w g 73 cs) : (results fn tmps).run Try.prog w = .ok (.agg cs) w :=
  ret_cell h hp hg Try.underlying73 rfl (by rw [hz]; exact infoRW)
theorem rnewW_any (n : Int) (w : World) : Calls Try.prog 33 #[.int .i64 n] w fun e w' => e = .returned (.agg (cellsT (newT n))) ∧ Below w.heap.size w w' := by
  have HS := Lib.hid (fun W => within11_0 n W)
  have HT := Lib.hid (show newT n = ⟨4500, keptI n, 0⟩ from rfl)
  generalize newT n = R at *
  generalize keptI n = k at *
  go_enter Try.func33, Try.ntmps33
  go_wp2_with (go_at_call 63; (with_reducible refine (HS.out _).mono ?_); rintro e w1 ⟨rfl, rfl⟩)
  exact bodyPost_ret (retRW rfl rfl rfl (Bx.fresh w 73 (cellsT ⟨4500, k, 0⟩))) rfl ⟨by rw [HT.out], (Below.refl _ _).alloc (Nat.le_refl _) _⟩
theorem made_any (t : Wn) (w : World) : Calls Try.prog 83 #[.agg (cellsT t)] w fun e w' => e = .returned (.agg (cellsT (heldT t))) ∧ Below w.heap.size w w' := by
  obtain ⟨W, hW, HA, HZ, HB, hs⟩ := two_open w 73 73 (cellsT t) (cellsT zeroT)
  have c0 := HA.out.cell 0 (.int .i64 t.cw) rfl
  have c1 := HA.out.cell 1 (.int .i64 t.ss) rfl
  have c2 := HA.out.cell 2 (.int .i64 t.pa) rfl
  have HT := Lib.hid (show heldT t = ⟨max (keptI t.cw) 1500, keptI t.ss, keptI t.pa⟩ from rfl)
  generalize heldT t = R at *
  have HC := Lib.hid (fun W => within11_1500 t.cw W)
  have HS := Lib.hid (fun W => within11_0 t.ss W)
  have HP := Lib.hid (fun W => within11_0 t.pa W)
  generalize max (keptI t.cw) 1500 = z at *
  generalize keptI t.ss = ks at *
  generalize keptI t.pa = kp at *
  go_enter Try.func83, Try.ntmps83
  go_wp2_with fail
  rw [show (w.alloc (.cells (cellsT t) 73)).alloc (.cells #[.int .i64 0, .int .i64 0, .int .i64 0] 73) = W from hW]
  refine wp_region_still_tail 10 (by kernel_rfl) (by kernel_rfl) ?_
  simp only [List.take_succ_cons, List.take_zero, List.drop_succ_cons, List.drop_zero]
  still_step
  still_step
  still_call (HC.out _)
  still_step
  still_step
  still_call (HS.out _)
  still_step
  still_step
  still_call (HP.out _)
  still_step
  try refine wpStill_nil ?_
  change wpList _ _ _ _ _ W.drew
  replace HZ : Hid (Bx W.drew (w.heap.size + 1) 73 (cellsT zeroT)) := Lib.hid HZ.out
  replace HB := Lib.hid (below_drawn HB.out)
  replace hs : W.drew.heap.size = w.heap.size + 2 := hs
  clear c0 c1 c2 hW HA
  generalize W.drew = V at *
  go_wp2_with (refine gate9 ?_; refine stB #[.int .i64 z, .int .i64 ks, .int .i64 kp] rfl rfl rfl rfl HZ.out infoRW rfl (cell3_one _ _ _) ?_; intro w2 ht hg; replace HB := Lib.hid (below_of_grown1 HB.out hg HB.out.size (by omega)); replace HZ := Lib.hid ht; clear ht hg)
  exact bodyPost_ret (retRW rfl rfl rfl HZ.out) rfl ⟨by rw [HT.out]; rfl, HB.out⟩
theorem rhalf_any (t : Wn) (w : World) : Calls Try.prog 75 #[.agg (cellsT t)] w fun e w' => e = .returned (.int .i64 (halfI (heldT t))) ∧ Below w.heap.size w w' := by
  have h1 := (held_inb t).cw
  have HH := Lib.hid (fun W => made_any t W)
  have HT := Lib.hid (show halfI (heldT t) = max ((heldT t).cw / 2) 6000 from rfl)
  generalize halfI (heldT t) = R at *
  generalize heldT t = h at *
  obtain ⟨c, s, p⟩ := h
  simp only at h1 HT
  have e1 : Int.tdiv c 2 = c / 2 := Int.tdiv_eq_ediv_of_nonneg (by omega)
  have e2 : wrap64 (c / 2) = c / 2 := by unfold wrap64; omega
  have HA := Lib.hid (BS.first w 73 (cellsT t))
  have E3 : (Instr.field 73 (Value.agg (cellsT ⟨c, s, p⟩)) 0).run Try.prog = .ok (.int .i64 c) := by kernel_rfl
  go_enter Try.func75, Try.ntmps75
  go_wp2_with (first
    | (refine gate9 ?_; refine ldB rfl rfl rfl HA.out.own Try.underlying73 rfl infoRW ?_)
    | (go_at_call 83; (with_reducible refine (HH.out _).mono ?_); rintro e w1 ⟨rfl, hb⟩; replace HA := Lib.hid (HA.out.later hb); clear hb))
  all_goals (go_ret; exact ⟨by rw [HT.out]; exact ret_i64 (by omega), HA.out.below⟩)
theorem rtimeout_any (t : Wn) (w : World) : Calls Try.prog 49 #[.agg (cellsT t)] w fun e w' => e = .returned (.agg (cellsT (restartedT (heldT t)))) ∧ Below w.heap.size w w' := by
  have HX := Lib.hid (fun W => rhalf_any t W)
  have HT := Lib.hid (show restartedT (heldT t) = ⟨1500, halfI (heldT t), 0⟩ from rfl)
  generalize restartedT (heldT t) = R at *
  generalize halfI (heldT t) = h at *
  have HA : Hid (Bx ((w.alloc (.cells (cellsT t) 73)).alloc (.cells #[.int .i64 0, .int .i64 0, .int .i64 0] 73)) w.heap.size 73 (cellsT t)) := Lib.hid ((Bx.fresh w 73 (cellsT t)).old _)
  have HZ : Hid (Bx ((w.alloc (.cells (cellsT t) 73)).alloc (.cells #[.int .i64 0, .int .i64 0, .int .i64 0] 73)) (w.heap.size + 1) 73 (cellsT zeroT)) := Lib.hid (heap_two w _ _)
  have HB : Hid (Below w.heap.size w ((w.alloc (.cells (cellsT t) 73)).alloc (.cells #[.int .i64 0, .int .i64 0, .int .i64 0] 73))) := Lib.hid (below_two w _ _)
  go_enter Try.func49, Try.ntmps49
  go_wp2_with (first
    | (refine gate9 ?_; refine ldB rfl rfl rfl HA.out Try.underlying73 rfl infoRW ?_)
    | (go_at_call 75; (with_reducible refine (HX.out _).mono ?_); rintro e w1 ⟨rfl, hb⟩; replace HA := Lib.hid (HA.out.later hb); replace HZ := Lib.hid (HZ.out.later hb); replace HB := Lib.hid (HB.out.trans (hb.mono HB.out.size)); clear hb)
    | (refine gate9 ?_; refine stB #[.int .i64 1500, .int .i64 h, .int .i64 0] rfl rfl rfl rfl HZ.out infoRW rfl (cell3_one _ _ _) ?_; intro w2 ht hg; replace HB := Lib.hid (below_of_grown1 HB.out hg HB.out.size (by omega)); replace HZ := Lib.hid ht; clear ht hg))
  exact bodyPost_ret (retRW rfl rfl rfl HZ.out) rfl ⟨by rw [HT.out]; rfl, HB.out⟩
end Go.Proofs.Yteiifkooegpdaaa.Wi
