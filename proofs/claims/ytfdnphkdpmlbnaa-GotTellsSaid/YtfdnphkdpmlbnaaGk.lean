/-
  The chapter's examples: contract.
-/
import Derived.Test.YtfdnphkdpmlbnaaGj
import Derived.ChangeKeysEq
import Derived.Laws.StructEq
namespace Go.Proofs.Ytfdnphkdpmlbnaa
open Go.RowKit
set_option linter.unusedVariables false
set_option linter.unusedSimpArgs false
set_option maxRecDepth 100000

theorem neq_arr (x y : Nat) (w : World) : (binOp .neq 59 (.agg #[.int .u16 (x : Int), .int .u16 (y : Int)]) (.agg #[.int .u16 (x : Int), .int .u16 (y : Int)])).run Try.prog w = .ok (.bool false) w := by
  obtain ⟨i, hi⟩ := info_of_underlying Try.underlying41
  have hc : Try.prog.cellsOf 41 = 1 := by kernel_rfl
  rw [run_neq_struct, run_equalIn_array w 9999 _ _ Try.underlying59 hi, hc]
  simp [Op.eqItems, go_sem, List.range, List.range.loop]
theorem eql_arr (w : World) : (binOp .eql 59 (.agg #[.int .u16 3, .int .u16 4]) (.agg #[.int .u16 3, .int .u16 4])).run Try.prog w = .ok (.bool true) w := by
  obtain ⟨i, hi⟩ := info_of_underlying Try.underlying41
  have hc : Try.prog.cellsOf 41 = 1 := by kernel_rfl
  rw [run_eql_struct, run_equalIn_array w 9999 _ _ Try.underlying59 hi, hc]
  simp [Op.eqItems, go_sem, List.range, List.range.loop]
/-- Take, where what it is given and what it makes are known. -/
theorem take_is (g : Gt) (R : Gt × Bool) (n : UInt32) (cz nz rz : Int) (hc : cz = (g.cum.toNat : Int)) (hn : nz = (n.toNat : Int)) (hz : rz = (R.1.cum.toNat : Int)) (hR : takeG g n = R) (hr : RightG g) (ha : g.ab.length ≤ 1000000) (hd : g.du.length ≤ 1000000) (va vd : Value) (w : World) (h1 : RowE enc32 w va g.ab) (h2 : RowE enc32 w vd g.du) :
    Calls Try.prog 13 #[.agg #[.int .u32 cz, va, vd], .int .u32 nz] w fun e w' => ∃ A m k A' m' k', e = .returned (.tuple #[.agg #[.int .u32 rz, .slice A m k, .slice A' m' k'], .bool R.2]) ∧ Hid (m = R.1.ab.length ∧ m' = R.1.du.length ∧ RowE enc32 w' (.slice A m k) R.1.ab ∧ RowE enc32 w' (.slice A' m' k') R.1.du ∧ FreshE w.heap.size (.slice A m k) ∧ FreshE w.heap.size (.slice A' m' k') ∧ Below w.heap.size w w') := by
  subst hc hn hz
  refine (take_any g.cum g.ab g.du ha hd va vd w h1 h2 n hr).mono fun e w' h => ?_
  obtain ⟨va', vd', he, r1, r2, f1, f2, hb⟩ := h
  have hR' : takeG ⟨g.cum, g.ab, g.du⟩ n = R := hR
  rw [hR'] at he r1 r2
  obtain ⟨A, k, rfl, -, -, -⟩ := id r1
  obtain ⟨A', k', rfl, -, -, -⟩ := id r2
  exact ⟨A, _, k, A', _, k', he, Lib.hid ⟨rfl, rfl, r1, r2, f1, f2, hb⟩⟩
theorem right_lit (c : UInt32) (ab : List UInt32) (h : Rise c ab ab.length) : RightG ⟨c, ab, []⟩ := rise_right h (by simp)
theorem rise_lit (c : UInt32) (l : List UInt32) (h : ((List.range l.length).all fun j => decide (2 ≤ key c l[j]! ∧ key c l[j]! ≤ 4000) && (decide (j = 0) || decide (key c l[j - 1]! < key c l[j]!))) = true) : Rise c l l.length := fun j hj => by
  rw [List.all_eq_true] at h
  have := h j (List.mem_range.2 hj)
  simp only [Bool.and_eq_true, Bool.or_eq_true, decide_eq_true_eq] at this
  exact ⟨this.1, fun h0 => this.2.elim (fun e => by omega) (fun e => e)⟩
theorem ex1 : takeG (newG 5) 7 = (⟨4, [7], []⟩, true) := by kernel_rfl
theorem ex2 : takeG ⟨4, [7], []⟩ 8 = (⟨4, [7, 8], []⟩, true) := by kernel_rfl
theorem ex3 : takeG ⟨4, [7, 8], []⟩ 5 = (⟨5, [7, 8], []⟩, true) := by kernel_rfl
theorem ex4 : takeG ⟨5, [7, 8], []⟩ 6 = (⟨8, [], []⟩, true) := by kernel_rfl
theorem ex5 : gapsG ⟨4, [7, 8], []⟩ = [(3, 4)] := by decide
theorem exr0 : RightG (newG 5) := right_lit _ _ (rise_lit _ _ (by decide))
theorem exr1 : RightG ⟨4, [7], []⟩ := right_lit _ _ (rise_lit _ _ (by decide))
theorem exr2 : RightG ⟨4, [7, 8], []⟩ := right_lit _ _ (rise_lit _ _ (by decide))
theorem exr3 : RightG ⟨5, [7, 8], []⟩ := right_lit _ _ (rise_lit _ _ (by decide))
theorem new_five (w : World) : Calls Try.prog 18 #[.int .u32 5] w fun e w' => e = .returned (.agg #[.int .u32 4, .slice none 0 0, .slice none 0 0]) ∧ Below w.heap.size w w' := new_any 5 w
set_option maxHeartbeats 4000000 in
theorem shown_any (w : World) : Calls Try.prog 10 #[] w fun e w' => e = .returned (.bool true) ∧ Below w.heap.size w w' := by
  have HNW := Lib.hid (fun W => new_five W)
  have q22 := eql_arr
  have HT1 := Lib.hid (fun va vd W h1 h2 => take_is (newG 5) (⟨4, [7], []⟩, true) 7 4 7 4 rfl rfl rfl ex1 exr0 (by decide) (by decide) va vd W h1 h2)
  have HT2 := Lib.hid (fun va vd W h1 h2 => take_is ⟨4, [7], []⟩ (⟨4, [7, 8], []⟩, true) 8 4 8 4 rfl rfl rfl ex2 exr1 (by decide) (by decide) va vd W h1 h2)
  have HT3 := Lib.hid (fun va vd W h1 h2 => take_is ⟨4, [7, 8], []⟩ (⟨5, [7, 8], []⟩, true) 5 4 5 5 rfl rfl rfl ex3 exr2 (by decide) (by decide) va vd W h1 h2)
  have HT4 := Lib.hid (fun va vd W h1 h2 => take_is ⟨5, [7, 8], []⟩ (⟨8, [], []⟩, true) 6 5 6 8 rfl rfl rfl ex4 exr3 (by decide) (by decide) va vd W h1 h2)
  have HGP := Lib.hid (fun va vd W h1 h2 => gaps_any 4 [7, 8] [] (by decide) (by decide) va vd W h1 h2)
  rw [ex5] at HGP
  go_enter Try.func10, Try.ntmps10
  go_wp2_with (go_at_call 18; (with_reducible refine (HNW.out _).mono ?_); rintro e w1 ⟨rfl, hb⟩; have HB := Lib.hid hb; clear hb)
  refine (HT1.out _ _ _ (RowE.nil enc32 _) (RowE.nil enc32 _)).mono ?_
  rintro e w2 ⟨Aa, m1, ka, Ba, m2, la, rfl, HX⟩
  obtain ⟨e1, e2, ha, hd, -, -, hb⟩ := HX.out
  replace e1 : m1 = 1 := e1
  replace e2 : m2 = 0 := e2
  subst e1 e2
  have HRa := Lib.hid ha
  have HDa := Lib.hid hd
  replace HB := Lib.hid (HB.out.trans (hb.mono HB.out.size))
  clear ha hd hb HX
  obtain ⟨W9, hW9, HQa, HB9, hs9⟩ := one_open w2 25 #[.int .u32 0, .slice none 0 0, .slice none 0 0]
  go_wp2_with (first
    | ((with_reducible refine gate9 ?_); refine stB (ty := 25) #[.int .u32 4, .slice Aa (1) ka, .slice Ba 0 la] rfl rfl rfl rfl HQa.out infoG rfl (cellsG_one _ _ _ _ _ _ _) ?_; intro w4 ht hg; replace HB9 := Lib.hid (below_of_grown1 HB9.out hg HB9.out.size (Nat.le_refl _)); replace HQa := Lib.hid ht; replace HRa := Lib.hid (HRa.out.below HB9.out); replace HDa := Lib.hid (HDa.out.below HB9.out); replace HB := Lib.hid (HB.out.trans (HB9.out.mono HB.out.size)); clear ht hg HB9)
    | ((with_reducible refine gate9 ?_); refine ldB (ty := 25) rfl rfl rfl HQa.out Try.underlying25 rfl infoG ?_))
  clear hW9 hs9
  refine (HT2.out _ _ _ HRa.out HDa.out).mono ?_
  rintro e w2 ⟨Ab, m1, kb, Bb, m2, lb, rfl, HX⟩
  obtain ⟨e1, e2, ha, hd, -, -, hb⟩ := HX.out
  replace e1 : m1 = 2 := e1
  replace e2 : m2 = 0 := e2
  subst e1 e2
  have HRb := Lib.hid ha
  have HDb := Lib.hid hd
  replace HQa := Lib.hid (HQa.out.later hb); replace HRa := Lib.hid (HRa.out.below hb); replace HDa := Lib.hid (HDa.out.below hb); replace HB := Lib.hid (HB.out.trans (hb.mono HB.out.size))
  clear ha hd hb HX
  obtain ⟨W9, hW9, HQb, HB9, hs9⟩ := one_open w2 25 #[.int .u32 0, .slice none 0 0, .slice none 0 0]
  go_wp2_with (first
    | ((with_reducible refine gate9 ?_); refine stB (ty := 25) #[.int .u32 4, .slice Ab (2) kb, .slice Bb 0 lb] rfl rfl rfl rfl HQb.out infoG rfl (cellsG_one _ _ _ _ _ _ _) ?_; intro w4 ht hg; replace HB9 := Lib.hid (below_of_grown1 HB9.out hg HB9.out.size (Nat.le_refl _)); replace HQb := Lib.hid ht; replace HQa := Lib.hid (HQa.out.later HB9.out); replace HRa := Lib.hid (HRa.out.below HB9.out); replace HDa := Lib.hid (HDa.out.below HB9.out); replace HRb := Lib.hid (HRb.out.below HB9.out); replace HDb := Lib.hid (HDb.out.below HB9.out); replace HB := Lib.hid (HB.out.trans (HB9.out.mono HB.out.size)); clear ht hg HB9)
    | ((with_reducible refine gate9 ?_); refine ldB (ty := 25) rfl rfl rfl HQb.out Try.underlying25 rfl infoG ?_))
  clear hW9 hs9
  refine (HGP.out _ _ _ HRb.out HDb.out).mono ?_
  rintro e w2 ⟨v9, rfl, ho, hb⟩
  have HRG := Lib.hid (rowG_of_own ho)
  clear ho
  replace HQa := Lib.hid (HQa.out.later hb); replace HQb := Lib.hid (HQb.out.later hb); replace HRb := Lib.hid (HRb.out.below hb); replace HDb := Lib.hid (HDb.out.below hb); replace HRa := Lib.hid (HRa.out.below hb); replace HDa := Lib.hid (HDa.out.below hb); replace HB := Lib.hid (HB.out.trans (hb.mono HB.out.size))
  clear hb
  go_wp2_with (first
    | ((with_reducible refine gate9 ?_); refine ldB (ty := 25) rfl rfl rfl HQb.out Try.underlying25 rfl infoG ?_))
  refine (HT3.out _ _ _ HRb.out HDb.out).mono ?_
  rintro e w2 ⟨Ac, m1, kc, Bc, m2, lc, rfl, HX⟩
  obtain ⟨e1, e2, ha, hd, -, -, hb⟩ := HX.out
  replace e1 : m1 = 2 := e1
  replace e2 : m2 = 0 := e2
  subst e1 e2
  have HRc := Lib.hid ha
  have HDc := Lib.hid hd
  replace HQa := Lib.hid (HQa.out.later hb); replace HQb := Lib.hid (HQb.out.later hb); replace HRa := Lib.hid (HRa.out.below hb); replace HDa := Lib.hid (HDa.out.below hb); replace HRb := Lib.hid (HRb.out.below hb); replace HDb := Lib.hid (HDb.out.below hb); replace HRG := Lib.hid (HRG.out.below hb); replace HB := Lib.hid (HB.out.trans (hb.mono HB.out.size))
  clear ha hd hb HX
  obtain ⟨W9, hW9, HQc, HB9, hs9⟩ := one_open w2 25 #[.int .u32 0, .slice none 0 0, .slice none 0 0]
  go_wp2_with (first
    | ((with_reducible refine gate9 ?_); refine stB (ty := 25) #[.int .u32 5, .slice Ac (2) kc, .slice Bc 0 lc] rfl rfl rfl rfl HQc.out infoG rfl (cellsG_one _ _ _ _ _ _ _) ?_; intro w4 ht hg; replace HB9 := Lib.hid (below_of_grown1 HB9.out hg HB9.out.size (Nat.le_refl _)); replace HQc := Lib.hid ht; replace HQa := Lib.hid (HQa.out.later HB9.out); replace HQb := Lib.hid (HQb.out.later HB9.out); replace HRa := Lib.hid (HRa.out.below HB9.out); replace HDa := Lib.hid (HDa.out.below HB9.out); replace HRb := Lib.hid (HRb.out.below HB9.out); replace HDb := Lib.hid (HDb.out.below HB9.out); replace HRc := Lib.hid (HRc.out.below HB9.out); replace HDc := Lib.hid (HDc.out.below HB9.out); replace HRG := Lib.hid (HRG.out.below HB9.out); replace HB := Lib.hid (HB.out.trans (HB9.out.mono HB.out.size)); clear ht hg HB9)
    | ((with_reducible refine gate9 ?_); refine ldB (ty := 25) rfl rfl rfl HQc.out Try.underlying25 rfl infoG ?_))
  clear hW9 hs9
  refine (HT4.out _ _ _ HRc.out HDc.out).mono ?_
  rintro e w2 ⟨Ad, m1, kd, Bd, m2, ld, rfl, HX⟩
  obtain ⟨e1, e2, ha, hd, -, -, hb⟩ := HX.out
  replace e1 : m1 = 0 := e1
  replace e2 : m2 = 0 := e2
  subst e1 e2
  have HRd := Lib.hid ha
  have HDd := Lib.hid hd
  replace HQa := Lib.hid (HQa.out.later hb); replace HQb := Lib.hid (HQb.out.later hb); replace HQc := Lib.hid (HQc.out.later hb); replace HRa := Lib.hid (HRa.out.below hb); replace HDa := Lib.hid (HDa.out.below hb); replace HRb := Lib.hid (HRb.out.below hb); replace HDb := Lib.hid (HDb.out.below hb); replace HRc := Lib.hid (HRc.out.below hb); replace HDc := Lib.hid (HDc.out.below hb); replace HRG := Lib.hid (HRG.out.below hb); replace HB := Lib.hid (HB.out.trans (hb.mono HB.out.size))
  clear ha hd hb HX
  obtain ⟨W9, hW9, HQd, HB9, hs9⟩ := one_open w2 25 #[.int .u32 0, .slice none 0 0, .slice none 0 0]
  go_wp2_with (first
    | ((with_reducible refine gate9 ?_); refine stB (ty := 25) #[.int .u32 8, .slice Ad (0) kd, .slice Bd 0 ld] rfl rfl rfl rfl HQd.out infoG rfl (cellsG_one _ _ _ _ _ _ _) ?_; intro w4 ht hg; replace HB9 := Lib.hid (below_of_grown1 HB9.out hg HB9.out.size (Nat.le_refl _)); replace HQd := Lib.hid ht; replace HQa := Lib.hid (HQa.out.later HB9.out); replace HQb := Lib.hid (HQb.out.later HB9.out); replace HQc := Lib.hid (HQc.out.later HB9.out); replace HRa := Lib.hid (HRa.out.below HB9.out); replace HDa := Lib.hid (HDa.out.below HB9.out); replace HRb := Lib.hid (HRb.out.below HB9.out); replace HDb := Lib.hid (HDb.out.below HB9.out); replace HRc := Lib.hid (HRc.out.below HB9.out); replace HDc := Lib.hid (HDc.out.below HB9.out); replace HRd := Lib.hid (HRd.out.below HB9.out); replace HDd := Lib.hid (HDd.out.below HB9.out); replace HRG := Lib.hid (HRG.out.below HB9.out); replace HB := Lib.hid (HB.out.trans (HB9.out.mono HB.out.size)); have c0 := HQc.out.cell 0 (.int .u32 5) rfl; have c1 := HQc.out.cell 1 (.slice Ac 2 kc) rfl; have d0 := HQd.out.cell 0 (.int .u32 8) rfl; have d1 := HQd.out.cell 1 (.slice Ad 0 kd) rfl; obtain ⟨A7, k7, hv7, -, -, h7⟩ := id HRG.out; subst hv7; obtain ⟨b7, o7, rfl, -, hc7⟩ := h7 (by decide); have g0 : w4.cell? ⟨b7, o7, none⟩ = some (.int .u16 3) := (hc7 0 (by decide)).1; have g1 : w4.cell? ⟨b7, o7 + 1, none⟩ = some (.int .u16 4) := (hc7 0 (by decide)).2; clear hc7 h7; clear ht hg HB9)
    | ((with_reducible refine gate9 ?_); refine ldB (ty := 25) rfl rfl rfl HQd.out Try.underlying25 rfl infoG ?_))
  clear hW9 hs9
  go_ret
  exact ⟨rfl, HB.out⟩
end Go.Proofs.Ytfdnphkdpmlbnaa
