/-
  The document's rto: contracts.
-/
import Derived.Test.YteiifkooegpdaaaRtoB
namespace Go.Proofs.Yteiifkooegpdaaa
open Go.RowKit
set_option linter.unusedVariables false
set_option maxRecDepth 100000

theorem three_at (w : World) (a b c : Obj) : (((w.alloc a).alloc b).alloc c).heap[w.heap.size + 1]? = some b ∧ (((w.alloc a).alloc b).alloc c).heap[w.heap.size + 1 + 1]? = some c ∧ Below w.heap.size w (((w.alloc a).alloc b).alloc c) := by
  have h1 := heap_two w a b
  have h2 := heap_alloc_new ((w.alloc a).alloc b) c
  rw [World.size_alloc, World.size_alloc] at h2
  refine ⟨?_, h2, (below_two w a b).alloc (by rw [World.size_alloc, World.size_alloc]; omega) _⟩
  rw [Below.heap_alloc _ _ _ (by rw [World.size_alloc, World.size_alloc]; omega)]
  exact h1
theorem infoR : (Try.prog.info? 71).map (·.size) = some 5 := by kernel_rfl
theorem retR {fn : Func} {p : Tmp} (h : fn.results = #[.cell p 71]) {tmps : Array Value} {w : World} {g : Nat} {cs : Array Value} (hz : cs.size = 5) (hp : tmps.getD p undef = .pointer (some ⟨g, 0, none⟩)) (hg : Bx w g 71 cs) : (results fn tmps).run Try.prog w = .ok (.agg cs) w :=
  ret_cell h hp hg Try.underlying71 rfl (by rw [hz]; exact infoR)
theorem infoI' : (Try.prog.info? 3).map (·.size) = some 1 := by kernel_rfl
theorem cell5_one (s v o b : Int) (k : Bool) : (#[Value.int .i64 s, .int .i64 v, .int .i64 o, .int .i64 b, .bool k] : Array Value).all (·.oneCell') = true := by simp [Value.oneCell']
theorem within10_any (n a b : Int) (h : a ≤ b) (w : World) : Calls Try.prog 70 #[.int .i64 n, .int .i64 a, .int .i64 b] w fun e w' => e = .returned (.int .i64 (heldI n a b)) ∧ w' = w := by
  go_enter Try.func70, Try.ntmps70
  go_wp2
  all_goals (go_ret; exact ⟨ret_i64 (by unfold heldI; omega), rfl⟩)
theorem rnew_any (w : World) : Calls Try.prog 32 #[] w fun e w' => e = .returned (.agg (cellsT newT)) ∧ Below w.heap.size w w' := by
  go_enter Try.func32, Try.ntmps32
  go_wp2
  refine bodyPost_ret (results_cell_row (P := Try.prog) rfl _ _ w.heap.size 71 (cellsT newT) (0, 0) _ rfl (heap_alloc_new w _) Try.underlying71 rfl rfl) rfl ⟨rfl, (Below.refl _ _).alloc (Nat.le_refl _) _⟩
theorem rrto_any (s v o b : Int) (k : Bool) (w : World) : Calls Try.prog 71 #[.agg #[.int .i64 s, .int .i64 v, .int .i64 o, .int .i64 b, .bool k]] w fun e w' => e = .returned (.int .i64 (waitI (keptI s) (keptI v))) ∧ Below w.heap.size w w' := by
  have h1 := keptI_le s
  have h2 := keptI_le v
  have HS : Hid (∀ W : World, Calls Try.prog 70 #[.int .i64 s, .int .i64 0, .int .i64 1048576] W fun e w' => e = .returned (.int .i64 (keptI s)) ∧ w' = W) := Lib.hid (fun W => within10_any s 0 1048576 (by omega) W)
  have HV : Hid (∀ W : World, Calls Try.prog 70 #[.int .i64 v, .int .i64 0, .int .i64 1048576] W fun e w' => e = .returned (.int .i64 (keptI v)) ∧ w' = W) := Lib.hid (fun W => within10_any v 0 1048576 (by omega) W)
  generalize keptI s = ks at *
  generalize keptI v = kv at *
  have HW : Hid (∀ W : World, Calls Try.prog 70 #[.int .i64 (ks + 4 * kv), .int .i64 1000, .int .i64 60000] W fun e w' => e = .returned (.int .i64 (waitI ks kv)) ∧ w' = W) := Lib.hid (fun W => within10_any (ks + 4 * kv) 1000 60000 (by omega) W)
  generalize waitI ks kv = z at *
  have e4 : IntKind.i64.wrap (4 * kv) = 4 * kv := by rw [IntKind.wrap_i64]; omega
  have e5 : IntKind.i64.wrap (ks + 4 * kv) = ks + 4 * kv := by rw [IntKind.wrap_i64]; omega
  obtain ⟨W, hW⟩ : ∃ W, w.alloc (.cells #[.int .i64 s, .int .i64 v, .int .i64 o, .int .i64 b, .bool k] 71) = W := ⟨_, rfl⟩
  have HA : Hid (Bx W w.heap.size 71 #[.int .i64 s, .int .i64 v, .int .i64 o, .int .i64 b, .bool k]) := Lib.hid (hW ▸ Bx.fresh w _ _)
  have HB : Hid (Below w.heap.size w W) := Lib.hid (hW ▸ (Below.refl _ _).alloc (Nat.le_refl _) _)
  have c0 := HA.out.cell 0 (.int .i64 s) rfl
  have c1 := HA.out.cell 1 (.int .i64 v) rfl
  go_enter Try.func71, Try.ntmps71
  go_wp2_with fail
  clear hW
  refine wp_region_still_tail 9 (by kernel_rfl) (by kernel_rfl) ?_
  simp only [List.take_succ_cons, List.take_zero, List.drop_succ_cons, List.drop_zero]
  still_step
  still_step
  still_call (HS.out _)
  still_step
  still_step
  still_call (HV.out _)
  still_step
  still_step
  still_call (HW.out _)
  try refine wpStill_nil ?_
  change wpList _ _ _ _ _ W.drew
  replace HB := Lib.hid (below_drawn HB.out)
  clear HA c0 c1
  generalize W.drew = V at *
  go_wp2_with fail
  go_ret
  exact ⟨rfl, HB.out⟩
theorem rsample_new (s v o b r : Int) (w : World) : Calls Try.prog 43 #[.agg (cellsT ⟨s, v, o, b, false⟩), .int .i64 r] w fun e w' => e = .returned (.agg (cellsT (sampleT ⟨s, v, o, b, false⟩ r))) ∧ Below w.heap.size w w' := by
  have h0 := heldI_le (n := r) (show (0 : Int) ≤ 60000 by omega)
  have HH := Lib.hid (fun W => within10_any r 0 60000 (by omega) W)
  have HT := Lib.hid (show sampleT ⟨s, v, o, b, false⟩ r = ⟨heldI r 0 60000, heldI r 0 60000 / 2, waitI (heldI r 0 60000) (heldI r 0 60000 / 2), 0, true⟩ from rfl)
  generalize sampleT ⟨s, v, o, b, false⟩ r = R at *
  generalize heldI r 0 60000 = q at *
  have e1 : Int.tdiv q 2 = q / 2 := Int.tdiv_eq_ediv_of_nonneg h0.1
  have HW := Lib.hid (fun W => rrto_any q (q / 2) 0 0 true W)
  rw [keptI_in (by omega) (by omega), keptI_in (by omega) (by omega)] at HW
  generalize waitI q (q / 2) = z at *
  dsimp only [cellsT]
  go_enter Try.func43, Try.ntmps43
  go_wp2_with (go_at_call 70; (with_reducible refine (HH.out _).mono ?_); rintro e w' ⟨rfl, rfl⟩)
  obtain ⟨k1, k2, k3⟩ := three_at w (.cells #[.int .i64 s, .int .i64 v, .int .i64 o, .int .i64 b, .bool false] 71) (.cells #[.int .i64 0, .int .i64 0, .int .i64 0, .int .i64 0, .bool false] 71) (.cells #[.int .i64 q, .int .i64 (q / 2), .int .i64 0, .int .i64 0, .bool true] 71)
  have HZ : Hid (Bx _ (w.heap.size + 1) 71 #[.int .i64 0, .int .i64 0, .int .i64 0, .int .i64 0, .bool false]) := Lib.hid k1
  have HA : Hid (Bx _ (w.heap.size + 1 + 1) 71 #[.int .i64 q, .int .i64 (q / 2), .int .i64 0, .int .i64 0, .bool true]) := Lib.hid k2
  have HB := Lib.hid k3
  clear k1 k2 k3
  refine (HW.out _).mono ?_
  rintro e w1 ⟨rfl, hb⟩
  replace HB := Lib.hid (HB.out.trans (hb.mono HB.out.size))
  replace HA := Lib.hid (HA.out.later hb)
  replace HZ := Lib.hid (HZ.out.later hb)
  clear hb
  go_wp2_with (first
    | (refine gate9 ?_; refine stF (.int .i64 z) rfl rfl rfl rfl HA.out (by show 2 < 5; decide) infoI' rfl ?_; intro w2 ht hg; replace HZ := Lib.hid (HZ.out.kept hg (by omega)); replace HB := Lib.hid (below_of_grown1 HB.out hg HB.out.size (by omega)); replace HA := Lib.hid ht; clear ht hg)
    | (refine gate9 ?_; refine ldB rfl rfl rfl HA.out Try.underlying71 rfl infoR ?_)
    | (refine gate9 ?_; refine stB #[.int .i64 q, .int .i64 (q / 2), .int .i64 z, .int .i64 0, .bool true] rfl rfl rfl rfl HZ.out infoR rfl (cell5_one _ _ _ _ _) ?_; intro w2 ht hg; replace HB := Lib.hid (below_of_grown1 HB.out hg HB.out.size (by omega)); replace HZ := Lib.hid ht; clear ht hg))
  exact bodyPost_ret (retR rfl rfl rfl HZ.out) rfl ⟨by rw [HT.out], HB.out⟩
theorem rsample_known (s v o b r : Int) (w : World) : Calls Try.prog 43 #[.agg (cellsT ⟨s, v, o, b, true⟩), .int .i64 r] w fun e w' => e = .returned (.agg (cellsT (sampleT ⟨s, v, o, b, true⟩ r))) ∧ Below w.heap.size w w' := by
  have h0 := heldI_le (n := r) (show (0 : Int) ≤ 60000 by omega)
  have HH := Lib.hid (fun W => within10_any r 0 60000 (by omega) W)
  have HT := Lib.hid (show sampleT ⟨s, v, o, b, true⟩ r = ⟨(7 * keptI s + heldI r 0 60000) / 8, (3 * keptI v + distI (keptI s) (heldI r 0 60000)) / 4, waitI ((7 * keptI s + heldI r 0 60000) / 8) ((3 * keptI v + distI (keptI s) (heldI r 0 60000)) / 4), 0, true⟩ from rfl)
  generalize sampleT ⟨s, v, o, b, true⟩ r = R at *
  generalize heldI r 0 60000 = q at *
  have h1 := keptI_le s
  have h2 := keptI_le v
  have HS : Hid (∀ W : World, Calls Try.prog 70 #[.int .i64 s, .int .i64 0, .int .i64 1048576] W fun e w' => e = .returned (.int .i64 (keptI s)) ∧ w' = W) := Lib.hid (fun W => within10_any s 0 1048576 (by omega) W)
  have HV : Hid (∀ W : World, Calls Try.prog 70 #[.int .i64 v, .int .i64 0, .int .i64 1048576] W fun e w' => e = .returned (.int .i64 (keptI v)) ∧ w' = W) := Lib.hid (fun W => within10_any v 0 1048576 (by omega) W)
  generalize keptI s = ks at *
  generalize keptI v = kv at *
  have h3 := distI_le h1.1 h1.2 h0.1 (by omega : q ≤ 1048576)
  have hm : (if ks - q < q - ks then q - ks else ks - q) = distI ks q := by unfold distI; omega
  generalize distI ks q = d at *
  have e1 : Int.tdiv q 2 = q / 2 := Int.tdiv_eq_ediv_of_nonneg h0.1
  have e2 : Int.tdiv (7 * ks + q) 8 = (7 * ks + q) / 8 := Int.tdiv_eq_ediv_of_nonneg (by omega)
  have e3 : Int.tdiv (3 * kv + d) 4 = (3 * kv + d) / 4 := Int.tdiv_eq_ediv_of_nonneg (by omega)
  have HW := Lib.hid (fun W => rrto_any ((7 * ks + q) / 8) ((3 * kv + d) / 4) 0 0 true W)
  rw [keptI_in (by omega) (by omega), keptI_in (by omega) (by omega)] at HW
  generalize waitI ((7 * ks + q) / 8) ((3 * kv + d) / 4) = z at *
  dsimp only [cellsT]
  go_enter Try.func43, Try.ntmps43
  go_wp2_with (first
    | (go_at_call 70; (with_reducible refine (HH.out _).mono ?_); rintro e w' ⟨rfl, rfl⟩)
    | (go_at_call 70; (with_reducible refine (HS.out _).mono ?_); rintro e w' ⟨rfl, rfl⟩)
    | (go_at_call 70; (with_reducible refine (HV.out _).mono ?_); rintro e w' ⟨rfl, rfl⟩))
  obtain ⟨k1, k2, k3⟩ := three_at w (.cells #[.int .i64 s, .int .i64 v, .int .i64 o, .int .i64 b, .bool true] 71) (.cells #[.int .i64 0, .int .i64 0, .int .i64 0, .int .i64 0, .bool false] 71) (.cells #[.int .i64 ((7 * ks + q) / 8), .int .i64 ((3 * kv + d) / 4), .int .i64 0, .int .i64 0, .bool true] 71)
  have HZ : Hid (Bx _ (w.heap.size + 1) 71 #[.int .i64 0, .int .i64 0, .int .i64 0, .int .i64 0, .bool false]) := Lib.hid k1
  have HA : Hid (Bx _ (w.heap.size + 1 + 1) 71 #[.int .i64 ((7 * ks + q) / 8), .int .i64 ((3 * kv + d) / 4), .int .i64 0, .int .i64 0, .bool true]) := Lib.hid k2
  have HB := Lib.hid k3
  clear k1 k2 k3
  refine (HW.out _).mono ?_
  rintro e w1 ⟨rfl, hb⟩
  generalize (7 * ks + q) / 8 = x at *
  generalize (3 * kv + d) / 4 = y at *
  replace HB := Lib.hid (HB.out.trans (hb.mono HB.out.size))
  replace HA := Lib.hid (HA.out.later hb)
  replace HZ := Lib.hid (HZ.out.later hb)
  clear hb
  go_wp2_with (first
    | (refine gate9 ?_; refine stF (.int .i64 z) rfl rfl rfl rfl HA.out (by show 2 < 5; decide) infoI' rfl ?_; intro w2 ht hg; replace HZ := Lib.hid (HZ.out.kept hg (by omega)); replace HB := Lib.hid (below_of_grown1 HB.out hg HB.out.size (by omega)); replace HA := Lib.hid ht; clear ht hg)
    | (refine gate9 ?_; refine ldB rfl rfl rfl HA.out Try.underlying71 rfl infoR ?_)
    | (refine gate9 ?_; refine stB #[.int .i64 x, .int .i64 y, .int .i64 z, .int .i64 0, .bool true] rfl rfl rfl rfl HZ.out infoR rfl (cell5_one _ _ _ _ _) ?_; intro w2 ht hg; replace HB := Lib.hid (below_of_grown1 HB.out hg HB.out.size (by omega)); replace HZ := Lib.hid ht; clear ht hg))
  exact bodyPost_ret (retR rfl rfl rfl HZ.out) rfl ⟨by rw [HT.out], HB.out⟩
theorem rsample_any (t : Tm) (r : Int) (w : World) : Calls Try.prog 43 #[.agg (cellsT t), .int .i64 r] w fun e w' => e = .returned (.agg (cellsT (sampleT t r))) ∧ Below w.heap.size w w' := by
  obtain ⟨s, v, o, b, k⟩ := t
  cases k
  · exact rsample_new s v o b r w
  · exact rsample_known s v o b r w
theorem rback_any (t : Tm) (h : WfT t) (w : World) : Calls Try.prog 48 #[.agg (cellsT t)] w fun e w' => e = .returned (.agg (cellsT (backT t))) ∧ Below w.heap.size w w' := by
  obtain ⟨s, v, o, b, k⟩ := t
  have hb : -9223372036854775808 ≤ b ∧ b ≤ 9223372036854775807 := h.backs
  have h0 := heldI_le (n := o) (show (0 : Int) ≤ 60000 by omega)
  have HH := Lib.hid (fun W => within10_any o 0 60000 (by omega) W)
  have HT := Lib.hid (show backT ⟨s, v, o, b, k⟩ = ⟨s, v, asRtoI (2 * heldI o 0 60000), min b 999 + 1, k⟩ from rfl)
  generalize backT ⟨s, v, o, b, k⟩ = R at *
  generalize heldI o 0 60000 = q at *
  have HA : Hid (∀ W : World, Calls Try.prog 70 #[.int .i64 (2 * q), .int .i64 1000, .int .i64 60000] W fun e w' => e = .returned (.int .i64 (asRtoI (2 * q))) ∧ w' = W) := Lib.hid (fun W => within10_any (2 * q) 1000 60000 (by omega) W)
  generalize asRtoI (2 * q) = z at *
  dsimp only [cellsT]
  go_enter Try.func48, Try.ntmps48
  by_cases hlt : 999 < b
  · have hm : min b 999 + 1 = 1000 := by omega
    rw [hm] at HT
    go_wp2_with (first
      | (go_at_call 70; (with_reducible refine (HH.out _).mono ?_); rintro e w' ⟨rfl, rfl⟩)
      | (go_at_call 70; (with_reducible refine (HA.out _).mono ?_); rintro e w' ⟨rfl, rfl⟩))
    exact bodyPost_ret (results_cell_row (P := Try.prog) rfl _ _ (w.heap.size + 1) 71 (cellsT ⟨s, v, z, 1000, k⟩) (0, 0) _ rfl (heap_two w _ _) Try.underlying71 rfl rfl) rfl ⟨by rw [HT.out]; rfl, (below_two w _ _)⟩
  · have hm : min b 999 + 1 = b + 1 := by omega
    rw [hm] at HT
    go_wp2_with (first
      | (go_at_call 70; (with_reducible refine (HH.out _).mono ?_); rintro e w' ⟨rfl, rfl⟩)
      | (go_at_call 70; (with_reducible refine (HA.out _).mono ?_); rintro e w' ⟨rfl, rfl⟩))
    exact bodyPost_ret (results_cell_row (P := Try.prog) rfl _ _ (w.heap.size + 1) 71 (cellsT ⟨s, v, z, b + 1, k⟩) (0, 0) _ rfl (heap_two w _ _) Try.underlying71 rfl rfl) rfl ⟨by rw [HT.out]; rfl, (below_two w _ _)⟩
theorem rgood_new (s v o b : Int) (w : World) : Calls Try.prog 53 #[.agg (cellsT ⟨s, v, o, b, false⟩)] w fun e w' => e = .returned (.agg (cellsT (goodT ⟨s, v, o, b, false⟩))) ∧ Below w.heap.size w w' := by
  have HT := Lib.hid (show goodT ⟨s, v, o, b, false⟩ = ⟨s, v, 1000, 0, false⟩ from rfl)
  generalize goodT ⟨s, v, o, b, false⟩ = R at *
  dsimp only [cellsT]
  go_enter Try.func53, Try.ntmps53
  go_wp2
  exact bodyPost_ret (results_cell_row (P := Try.prog) rfl _ _ (w.heap.size + 1) 71 (cellsT ⟨s, v, 1000, 0, false⟩) (0, 0) _ rfl (heap_two w _ _) Try.underlying71 rfl rfl) rfl ⟨by rw [HT.out]; rfl, (below_two w _ _)⟩
theorem rgood_known (s v o b : Int) (w : World) : Calls Try.prog 53 #[.agg (cellsT ⟨s, v, o, b, true⟩)] w fun e w' => e = .returned (.agg (cellsT (goodT ⟨s, v, o, b, true⟩))) ∧ Below w.heap.size w w' := by
  have HT := Lib.hid (show goodT ⟨s, v, o, b, true⟩ = ⟨s, v, waitI (keptI s) (keptI v), 0, true⟩ from rfl)
  generalize goodT ⟨s, v, o, b, true⟩ = R at *
  have HW := Lib.hid (fun W => rrto_any s v o 0 true W)
  generalize waitI (keptI s) (keptI v) = z at *
  dsimp only [cellsT]
  go_enter Try.func53, Try.ntmps53
  go_wp2_with fail
  have HZ : Hid (Bx _ (w.heap.size + 1) 71 #[.int .i64 0, .int .i64 0, .int .i64 0, .int .i64 0, .bool false]) := Lib.hid (heap_two w (.cells #[.int .i64 s, .int .i64 v, .int .i64 o, .int .i64 0, .bool true] 71) (.cells #[.int .i64 0, .int .i64 0, .int .i64 0, .int .i64 0, .bool false] 71))
  have HA : Hid (Bx _ w.heap.size 71 #[.int .i64 s, .int .i64 v, .int .i64 o, .int .i64 0, .bool true]) := Lib.hid ((Bx.fresh w 71 #[.int .i64 s, .int .i64 v, .int .i64 o, .int .i64 0, .bool true]).old (.cells #[.int .i64 0, .int .i64 0, .int .i64 0, .int .i64 0, .bool false] 71))
  have HB := Lib.hid (below_two w (.cells #[.int .i64 s, .int .i64 v, .int .i64 o, .int .i64 0, .bool true] 71) (.cells #[.int .i64 0, .int .i64 0, .int .i64 0, .int .i64 0, .bool false] 71))
  refine (HW.out _).mono ?_
  rintro e w1 ⟨rfl, hb⟩
  replace HB := Lib.hid (HB.out.trans (hb.mono HB.out.size))
  replace HA := Lib.hid (HA.out.later hb)
  replace HZ := Lib.hid (HZ.out.later hb)
  clear hb
  go_wp2_with (first
    | (refine gate9 ?_; refine stF (.int .i64 z) rfl rfl rfl rfl HA.out (by show 2 < 5; decide) infoI' rfl ?_; intro w2 ht hg; replace HZ := Lib.hid (HZ.out.kept hg (by omega)); replace HB := Lib.hid (below_of_grown1 HB.out hg HB.out.size (by omega)); replace HA := Lib.hid ht; clear ht hg)
    | (refine gate9 ?_; refine ldB rfl rfl rfl HA.out Try.underlying71 rfl infoR ?_)
    | (refine gate9 ?_; refine stB #[.int .i64 s, .int .i64 v, .int .i64 z, .int .i64 0, .bool true] rfl rfl rfl rfl HZ.out infoR rfl (cell5_one _ _ _ _ _) ?_; intro w2 ht hg; replace HB := Lib.hid (below_of_grown1 HB.out hg HB.out.size (by omega)); replace HZ := Lib.hid ht; clear ht hg))
  exact bodyPost_ret (retR rfl rfl rfl HZ.out) rfl ⟨by rw [HT.out], HB.out⟩
theorem rgood_any (t : Tm) (w : World) : Calls Try.prog 53 #[.agg (cellsT t)] w fun e w' => e = .returned (.agg (cellsT (goodT t))) ∧ Below w.heap.size w w' := by
  obtain ⟨s, v, o, b, k⟩ := t
  cases k
  · exact rgood_new s v o b w
  · exact rgood_known s v o b w
end Go.Proofs.Yteiifkooegpdaaa
