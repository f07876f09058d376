/-
  Package frag: Put: contract.
-/
import Derived.Test.YtgngdgiipifacaaSg
import Derived.Deep.RegionLawGrows
namespace Go.Proofs.Ytgngdgiipifacaa
open Go.RowKit
set_option linter.unusedVariables false
set_option linter.unusedSimpArgs false
set_option maxRecDepth 100000

/-- Two may come up next. -/
theorem wpAnyW_two {P : Program} {ops : Array Oper} {Q : Exit → Act → World → Prop} {md : Region.Mode} {S : World → Prop} {W : List Nat} {i i2 : Nat} {o o2 : Oper} {fuel : Nat} {listed : Array Bool} {a : Act} {w : World} (hr : Region.ready md ops listed = [i, i2]) (ho : ops[i]? = some o) (ho2 : ops[i2]? = some o2)
    (h : ∀ K' : Act → World → Prop, Shut (∀ a w, S w → (S w → wpAnyW P md ops Q S W fuel (listed.setIfInBounds i true) a w) → K' a w) → if Region.wanted o (yielded ops a.tmps) = true then Oper.wp P o a w K' Q else K' (a.put o.dst undef) w)
    (h2 : ∀ K' : Act → World → Prop, Shut (∀ a w, S w → (S w → wpAnyW P md ops Q S W fuel (listed.setIfInBounds i2 true) a w) → K' a w) → if Region.wanted o2 (yielded ops a.tmps) = true then Oper.wp P o2 a w K' Q else K' (a.put o2.dst undef) w) :
    wpAnyW P md ops Q S W (fuel + 1) listed a w :=
  ⟨fun h0 => (by rw [hr] at h0; cases h0), fun j hj => by
    rw [hr] at hj
    rcases List.mem_cons.1 hj with rfl | hj
    · exact wpOp_step ho (fun K' hK => h K' (fun a w hS hW => hK a w ⟨fun _ => hS, hW hS⟩))
    · obtain rfl := List.mem_singleton.1 hj
      exact wpOp_step ho2 (fun K' hK => h2 K' (fun a w hS hW => hK a w ⟨fun _ => hS, hW hS⟩))⟩
theorem retBMO {fn : Func} {p q u : Tmp} (h : fn.results = #[.cell p 32, .cell q 39, .tmp u]) {tmps : Array Value} {w : World} {g g' : Nat} {cs ds : Array Value} {v : Value} (hz : cs.size = 1) (hz' : ds.size = 6) (hp : tmps.getD p undef = .pointer (some ⟨g, 0, none⟩)) (hq : tmps.getD q undef = .pointer (some ⟨g', 0, none⟩)) (hu : tmps.getD u undef = v) (hg : Bx w g 32 cs) (hg' : Bx w g' 39 ds) : (results fn tmps).run Try.prog w = .ok (.tuple #[.agg cs, .agg ds, v]) w := by
  have hp' : tmps[p]?.getD undef = .pointer (some ⟨g, 0, none⟩) := by simpa using hp
  have hq' : tmps[q]?.getD undef = .pointer (some ⟨g', 0, none⟩) := by simpa using hq
  have hu' : tmps[u]?.getD undef = v := by simpa using hu
  simp [results, h, hp', hq', hu', asAddr, run_loadVar_row w g 32 32 cs (0, 0) _ hg Try.underlying32 rfl (by rw [hz]; exact infoB), run_loadVar_row w g' 39 39 ds (0, 0) _ hg' Try.underlying39 rfl (by rw [hz']; exact infoM)]
theorem empty_yes {s : ByteArray} (h : s.size = 0) : s.toList.isEmpty = true := by
  rw [ByteArray.toList_eq, List.isEmpty_iff, ← List.length_eq_zero_iff]
  exact h
theorem empty_no {s : ByteArray} (h : 0 < s.size) : s.toList.isEmpty = false := by
  cases he : s.toList.isEmpty with
  | false => rfl
  | true =>
    rw [ByteArray.toList_eq, List.isEmpty_iff, ← List.length_eq_zero_iff] at he
    have : s.size = 0 := he
    omega
theorem findT_new {l : List Pc} {p : Pc} (hf : findT l p.ts = none) : (fun t => if t = p.ts then some p else findT l t) = findT (l ++ [p]) := by
  funext t
  rw [find_append, find_one]
  by_cases e : t = p.ts
  · subst e; rw [if_pos rfl, if_pos rfl, hf]; rfl
  · rw [if_neg e, if_neg (fun h => e h.symm), Option.or_none]
/-- What Put tells. -/
def PutR (w w' : World) (e : Ending) (m : List Pc) (o : Option Mg) : Prop := ∃ A k, e = .returned (.tuple #[.agg #[.slice A m.length k], .agg (cellsMg (o.getD zeroMg)), .bool o.isSome]) ∧ RowP w' (.slice A m.length k) m ∧ Fresh w.heap.size (.slice A m.length k) ∧ Below w.heap.size w w'
set_option maxHeartbeats 4000000 in
theorem put_there (l : List Pc) (hl : l.length < 1000) (hok : OkB l) (p x : Pc) (hf : findT l p.ts = some x) (v : Value) (w : World) (h : RowP w v l) :
    Calls Try.prog 14 #[.agg #[v], .agg (cellsPc p)] w fun e w' => PutR w w' e l none := by
  obtain ⟨W1, hW1, HA, HP, HB1, hs1⟩ := two_open w 32 43 #[v] (cellsPc p)
  obtain ⟨W, hW, HZ4, HZ5, HB2, hs2⟩ := two_open W1 32 39 #[.slice none 0 0] #[.int .u32 0, .bool false, .int .u16 0, .int .u16 0, .int .u32 0, .string ⟨#[]⟩]
  replace HA := Lib.hid (HA.out.later HB2.out)
  replace HP := Lib.hid (HP.out.later HB2.out)
  have HV := Lib.hid h
  have HB := Lib.hid (HB1.out.trans (HB2.out.mono HB1.out.size))
  obtain ⟨A, cap, rfl, hcap, hmx, _⟩ := id h
  have hmxI : (cap : Int) ≤ 9223372036854775807 := by unfold maxLen at hmx; omega
  have HBT := Lib.hid (fun V W h => byTsn_any l (by omega) hok.nd V W h)
  have hsW1 : w.heap.size + 2 ≤ W1.heap.size := Nat.le_of_eq hs1.symm
  have hsW : W1.heap.size + 2 ≤ W.heap.size := Nat.le_of_eq hs2.symm
  clear hs1 hs2 HB1 HB2 h
  have HCL := Lib.hid (fun V W h => clone_any l (by omega) V W h)
  go_enter Try.func14, Try.ntmps14
  go_wp2_with (first
    | ((with_reducible refine gate9 ?_); refine ldB (ty := 32) (cs := #[.slice A l.length cap]) rfl rfl rfl HA.out Try.underlying32 rfl infoB ?_)
    | (go_at_call 23; (with_reducible refine (HBT.out _ _ (HV.out.below HB.out)).mono ?_); rintro e w1 ⟨mb, mn, rfl, hm, hmn, hmb, hb⟩; have HM := Lib.hid hm; replace HA := Lib.hid (HA.out.later hb); replace HP := Lib.hid (HP.out.later hb); replace HZ4 := Lib.hid (HZ4.out.later hb); replace HZ5 := Lib.hid (HZ5.out.later hb); replace HB := Lib.hid (HB.out.trans (hb.mono HB.out.size)); have c0 := HP.out.cell 0 (.int .u32 (p.ts.toNat : Int)) rfl; have hsz := hb.size; clear hm hb; obtain ⟨W8, hW8, HT, HB8, hs8⟩ := one_open w1 43 #[.int .u32 0, .bool false, .bool false, .bool false, .int .u16 0, .int .u16 0, .int .u32 0, .string ⟨#[]⟩])
    | ((with_reducible refine gate9 ?_); refine lookF rfl _ _ rfl p.ts HM.out rfl rfl ?_; rw [hf]; dsimp only [Option.getD, Option.isSome])
    | ((with_reducible refine gate9 ?_); refine stB (ty := 43) (cellsPc x) rfl rfl rfl rfl HT.out infoP rfl (cellsPc_one _) ?_; intro w4 ht hg; replace HB8 := Lib.hid (below_of_grown1 HB8.out hg HB8.out.size (Nat.le_refl _)); have hb := HB8.out; replace HA := Lib.hid (HA.out.later hb); replace HP := Lib.hid (HP.out.later hb); replace HZ4 := Lib.hid (HZ4.out.later hb); replace HZ5 := Lib.hid (HZ5.out.later hb); replace HB := Lib.hid (HB.out.trans (hb.mono HB.out.size)); replace HM := Lib.hid (HM.out.later hb); have c7 := HP.out.cell 7 (.string p.tx) rfl; have a0 := HA.out.cell 0 (.slice A l.length cap) rfl; have hs4 := hb.size; clear ht hg hb c0; have c0 := HP.out.cell 0 (.int .u32 (p.ts.toNat : Int)) rfl)
    | (go_at_call 24; (with_reducible refine (HCL.out _ _ (HV.out.below HB.out)).mono ?_); rintro e w5 ⟨v5, rfl, hown, hb⟩; obtain ⟨A5, k5, rfl, -, -⟩ := own_form2 hown; have HO5 := Lib.hid (OwnV.of_own hown); have HFR := Lib.hid (fresh_own hown); have hs5 := hb.size; replace HA := Lib.hid (HA.out.later hb); replace HP := Lib.hid (HP.out.later hb); replace HZ4 := Lib.hid (HZ4.out.later hb); replace HZ5 := Lib.hid (HZ5.out.later hb); replace HB := Lib.hid (HB.out.trans (hb.mono HB.out.size)); clear hown hb a0)
    | ((with_reducible refine gate9 ?_); refine stB (ty := 32) #[.slice A5 l.length k5] rfl rfl rfl rfl HZ4.out infoB rfl (cellsB_one _ _ _) ?_; intro w8 ht hg; replace HZ5 := Lib.hid (HZ5.out.kept hg (by omega)); replace HB := Lib.hid (below_of_grown1 HB.out hg HB.out.size (by omega)); replace HO5 := Lib.hid (HO5.out.grown hg (fun z e _ => by intro e2; cases e2; have := HO5.out.base _ e; simp at this; omega)); replace HZ4 := Lib.hid ht; clear ht hg)
    | ((with_reducible refine gate9 ?_); refine stB (ty := 39) (cellsMg zeroMg) rfl rfl rfl rfl HZ5.out infoM rfl (cellsMg_one _) ?_; intro w9 ht hg; replace HZ4 := Lib.hid (HZ4.out.kept hg (by omega)); replace HB := Lib.hid (below_of_grown1 HB.out hg HB.out.size (by omega)); replace HO5 := Lib.hid (HO5.out.grown hg (fun z e _ => by intro e2; cases e2; have := HO5.out.base _ e; simp at this; omega)); replace HZ5 := Lib.hid ht; clear ht hg))
  exact bodyPost_ret (retBMO rfl rfl rfl rfl rfl rfl HZ4.out HZ5.out) rfl ⟨A5, k5, rfl, HO5.out.row, HFR.out.less (by omega), HB.out⟩
set_option maxHeartbeats 4000000 in
theorem put_empty (l : List Pc) (hl : l.length < 1000) (hok : OkB l) (p : Pc) (hf : findT l p.ts = none) (hp : p.tx.size = 0) (v : Value) (w : World) (h : RowP w v l) :
    Calls Try.prog 14 #[.agg #[v], .agg (cellsPc p)] w fun e w' => PutR w w' e l none := by
  have hte : p.tx.toList.isEmpty = true := empty_yes hp
  obtain ⟨W1, hW1, HA, HP, HB1, hs1⟩ := two_open w 32 43 #[v] (cellsPc p)
  obtain ⟨W, hW, HZ4, HZ5, HB2, hs2⟩ := two_open W1 32 39 #[.slice none 0 0] #[.int .u32 0, .bool false, .int .u16 0, .int .u16 0, .int .u32 0, .string ⟨#[]⟩]
  replace HA := Lib.hid (HA.out.later HB2.out)
  replace HP := Lib.hid (HP.out.later HB2.out)
  have HV := Lib.hid h
  have HB := Lib.hid (HB1.out.trans (HB2.out.mono HB1.out.size))
  obtain ⟨A, cap, rfl, hcap, hmx, _⟩ := id h
  have hmxI : (cap : Int) ≤ 9223372036854775807 := by unfold maxLen at hmx; omega
  have HBT := Lib.hid (fun V W h => byTsn_any l (by omega) hok.nd V W h)
  have hsW1 : w.heap.size + 2 ≤ W1.heap.size := Nat.le_of_eq hs1.symm
  have hsW : W1.heap.size + 2 ≤ W.heap.size := Nat.le_of_eq hs2.symm
  clear hs1 hs2 HB1 HB2 h
  have HCL := Lib.hid (fun V W h => clone_any l (by omega) V W h)
  clear hp
  go_enter Try.func14, Try.ntmps14
  go_wp2_with (first
    | ((with_reducible refine gate9 ?_); refine ldB (ty := 32) (cs := #[.slice A l.length cap]) rfl rfl rfl HA.out Try.underlying32 rfl infoB ?_)
    | (go_at_call 23; (with_reducible refine (HBT.out _ _ (HV.out.below HB.out)).mono ?_); rintro e w1 ⟨mb, mn, rfl, hm, hmn, hmb, hb⟩; have HM := Lib.hid hm; replace HA := Lib.hid (HA.out.later hb); replace HP := Lib.hid (HP.out.later hb); replace HZ4 := Lib.hid (HZ4.out.later hb); replace HZ5 := Lib.hid (HZ5.out.later hb); replace HB := Lib.hid (HB.out.trans (hb.mono HB.out.size)); have c0 := HP.out.cell 0 (.int .u32 (p.ts.toNat : Int)) rfl; have hsz := hb.size; clear hm hb; obtain ⟨W8, hW8, HT, HB8, hs8⟩ := one_open w1 43 #[.int .u32 0, .bool false, .bool false, .bool false, .int .u16 0, .int .u16 0, .int .u32 0, .string ⟨#[]⟩])
    | ((with_reducible refine gate9 ?_); refine lookF rfl _ _ rfl p.ts HM.out rfl rfl ?_; rw [hf]; dsimp only [Option.getD, Option.isSome])
    | ((with_reducible refine gate9 ?_); refine stB (ty := 43) (cellsPc zeroPc) rfl rfl rfl rfl HT.out infoP rfl (cellsPc_one _) ?_; intro w4 ht hg; replace HB8 := Lib.hid (below_of_grown1 HB8.out hg HB8.out.size (Nat.le_refl _)); have hb := HB8.out; replace HA := Lib.hid (HA.out.later hb); replace HP := Lib.hid (HP.out.later hb); replace HZ4 := Lib.hid (HZ4.out.later hb); replace HZ5 := Lib.hid (HZ5.out.later hb); replace HB := Lib.hid (HB.out.trans (hb.mono HB.out.size)); replace HM := Lib.hid (HM.out.later hb); have c7 := HP.out.cell 7 (.string p.tx) rfl; have a0 := HA.out.cell 0 (.slice A l.length cap) rfl; have hs4 := hb.size; clear ht hg hb c0; have c0 := HP.out.cell 0 (.int .u32 (p.ts.toNat : Int)) rfl)
    | (go_at_call 24; (with_reducible refine (HCL.out _ _ (HV.out.below HB.out)).mono ?_); rintro e w5 ⟨v5, rfl, hown, hb⟩; obtain ⟨A5, k5, rfl, -, -⟩ := own_form2 hown; have HO5 := Lib.hid (OwnV.of_own hown); have HFR := Lib.hid (fresh_own hown); have hs5 := hb.size; replace HA := Lib.hid (HA.out.later hb); replace HP := Lib.hid (HP.out.later hb); replace HZ4 := Lib.hid (HZ4.out.later hb); replace HZ5 := Lib.hid (HZ5.out.later hb); replace HB := Lib.hid (HB.out.trans (hb.mono HB.out.size)); clear hown hb a0)
    | ((with_reducible refine gate9 ?_); refine stB (ty := 32) #[.slice A5 l.length k5] rfl rfl rfl rfl HZ4.out infoB rfl (cellsB_one _ _ _) ?_; intro w8 ht hg; replace HZ5 := Lib.hid (HZ5.out.kept hg (by omega)); replace HB := Lib.hid (below_of_grown1 HB.out hg HB.out.size (by omega)); replace HO5 := Lib.hid (HO5.out.grown hg (fun z e _ => by intro e2; cases e2; have := HO5.out.base _ e; simp at this; omega)); replace HZ4 := Lib.hid ht; clear ht hg)
    | ((with_reducible refine gate9 ?_); refine stB (ty := 39) (cellsMg zeroMg) rfl rfl rfl rfl HZ5.out infoM rfl (cellsMg_one _) ?_; intro w9 ht hg; replace HZ4 := Lib.hid (HZ4.out.kept hg (by omega)); replace HB := Lib.hid (below_of_grown1 HB.out hg HB.out.size (by omega)); replace HO5 := Lib.hid (HO5.out.grown hg (fun z e _ => by intro e2; cases e2; have := HO5.out.base _ e; simp at this; omega)); replace HZ5 := Lib.hid ht; clear ht hg))
  exact bodyPost_ret (retBMO rfl rfl rfl rfl rfl rfl HZ4.out HZ5.out) rfl ⟨A5, k5, rfl, HO5.out.row, HFR.out.less (by omega), HB.out⟩
set_option maxHeartbeats 4000000 in
theorem put_done (l : List Pc) (hl : l.length < 999) (hok : OkB l) (p : Pc) (hf : findT l p.ts = none) (hp : 0 < p.tx.size) (r : List Pc) (hrc : rowC (l ++ [p]) p = some r) (hz : bytesL r ≤ 1000000000) (v : Value) (w : World) (h : RowP w v l) :
    Calls Try.prog 14 #[.agg #[v], .agg (cellsPc p)] w fun e w' => PutR w w' e (keepL r l) (some (joinM r)) := by
  have hte : p.tx.toList.isEmpty = false := empty_no hp
  have hok2 := okB_put hok hf hp
  have hl2 : (l ++ [p]).length ≤ 1000 := by rw [List.length_append, List.length_singleton]; omega
  have hpm : p ∈ l ++ [p] := by simp
  obtain ⟨hir, -⟩ := row_sound hok2.nd hpm hrc
  have hr0 := hir.ne
  have hr1 : r.length ≤ 1000 := Nat.le_trans ((Seg.of_row hir).le hok2.nd) hl2
  have HFN := Lib.hid (findT_new hf)
  have HRW := Lib.hid (fun b n W h => rowOf_any (l ++ [p]) hl2 hok2.nd p hpm b n W h)
  have HRC : Hid ((rowC (l ++ [p]) p).getD [] = r) := Lib.hid (by rw [hrc]; rfl)
  have HWO := Lib.hid (fun v V W h h2 => without_any l r (by omega) hr0 hr1 v V W h h2)
  have HJO := Lib.hid (fun V W h => join_any r hr0 hr1 hz V W h)
  have qr : (0 : Int) < (r.length : Int) := by omega
  have qr2 : ((r.length : Int) == 0) = false := by rw [beq_eq_false_iff_ne]; omega
  have qr3 : r.length ≠ 0 := by omega
  obtain ⟨W1, hW1, HA, HP, HB1, hs1⟩ := two_open w 32 43 #[v] (cellsPc p)
  obtain ⟨W, hW, HZ4, HZ5, HB2, hs2⟩ := two_open W1 32 39 #[.slice none 0 0] #[.int .u32 0, .bool false, .int .u16 0, .int .u16 0, .int .u32 0, .string ⟨#[]⟩]
  replace HA := Lib.hid (HA.out.later HB2.out)
  replace HP := Lib.hid (HP.out.later HB2.out)
  have HV := Lib.hid h
  have HB := Lib.hid (HB1.out.trans (HB2.out.mono HB1.out.size))
  obtain ⟨A, cap, rfl, hcap, hmx, _⟩ := id h
  have hmxI : (cap : Int) ≤ 9223372036854775807 := by unfold maxLen at hmx; omega
  have HBT := Lib.hid (fun V W h => byTsn_any l (by omega) hok.nd V W h)
  have hsW1 : w.heap.size + 2 ≤ W1.heap.size := Nat.le_of_eq hs1.symm
  have hsW : W1.heap.size + 2 ≤ W.heap.size := Nat.le_of_eq hs2.symm
  clear hs1 hs2 HB1 HB2 h
  clear hp hok2 hpm hir hrc
  generalize hkl : keepL r l = K at *
  generalize joinM r = J at *
  clear hkl
  go_enter Try.func14, Try.ntmps14
  go_wp2_with (first
    | ((with_reducible refine gate9 ?_); refine ldB (ty := 32) (cs := #[.slice A l.length cap]) rfl rfl rfl HA.out Try.underlying32 rfl infoB ?_)
    | ((with_reducible refine gate9 ?_); refine ldB (ty := 43) rfl rfl rfl HP.out Try.underlying43 rfl infoP ?_)
    | (go_at_call 23; (with_reducible refine (HBT.out _ _ (HV.out.below HB.out)).mono ?_); rintro e w1 ⟨mb, mn, rfl, hm, hmn, hmb, hb⟩; have HM := Lib.hid hm; replace HA := Lib.hid (HA.out.later hb); replace HP := Lib.hid (HP.out.later hb); replace HZ4 := Lib.hid (HZ4.out.later hb); replace HZ5 := Lib.hid (HZ5.out.later hb); replace HB := Lib.hid (HB.out.trans (hb.mono HB.out.size)); have c0 := HP.out.cell 0 (.int .u32 (p.ts.toNat : Int)) rfl; have hsz := hb.size; clear hm hb; obtain ⟨W8, hW8, HT, HB8, hs8⟩ := one_open w1 43 #[.int .u32 0, .bool false, .bool false, .bool false, .int .u16 0, .int .u16 0, .int .u32 0, .string ⟨#[]⟩])
    | ((with_reducible refine gate9 ?_); refine lookF rfl _ _ rfl p.ts HM.out rfl rfl ?_; rw [hf]; dsimp only [Option.getD, Option.isSome])
    | ((with_reducible refine gate9 ?_); refine stB (ty := 43) (cellsPc zeroPc) rfl rfl rfl rfl HT.out infoP rfl (cellsPc_one _) ?_; intro w4 ht hg; replace HB8 := Lib.hid (below_of_grown1 HB8.out hg HB8.out.size (Nat.le_refl _)); have hb := HB8.out; replace HA := Lib.hid (HA.out.later hb); replace HP := Lib.hid (HP.out.later hb); replace HZ4 := Lib.hid (HZ4.out.later hb); replace HZ5 := Lib.hid (HZ5.out.later hb); replace HB := Lib.hid (HB.out.trans (hb.mono HB.out.size)); replace HM := Lib.hid (HM.out.later hb); have c7 := HP.out.cell 7 (.string p.tx) rfl; have a0 := HA.out.cell 0 (.slice A l.length cap) rfl; have hs4 := hb.size; clear ht hg hb c0; have c0 := HP.out.cell 0 (.int .u32 (p.ts.toNat : Int)) rfl)
    | ((with_reducible refine gate9 ?_); refine storeF rfl _ _ _ rfl p HM.out (by unfold maxLen; omega) rfl rfl rfl ?_; intro w5 hm hg; rw [HFN.out] at hm; replace HA := Lib.hid (HA.out.kept hg (by omega)); replace HP := Lib.hid (HP.out.kept hg (by omega)); replace HZ4 := Lib.hid (HZ4.out.kept hg (by omega)); replace HZ5 := Lib.hid (HZ5.out.kept hg (by omega)); replace HB := Lib.hid (below_of_grown1 HB.out hg HB.out.size (by omega)); have hs5 := hg.size; replace HM := Lib.hid hm; clear hm hg c7 a0 c0)
    | (go_at_call 25; (with_reducible refine (HRW.out _ _ _ HM.out).mono ?_); rintro e w6 ⟨A6, k6, rfl, hr6, hb⟩; rw [HRC.out] at hr6 ⊢; have HR6 := Lib.hid hr6; replace HA := Lib.hid (HA.out.later hb); replace HP := Lib.hid (HP.out.later hb); replace HZ4 := Lib.hid (HZ4.out.later hb); replace HZ5 := Lib.hid (HZ5.out.later hb); replace HB := Lib.hid (HB.out.trans (hb.mono HB.out.size)); have hs6 := hb.size; have a0 := HA.out.cell 0 (.slice A l.length cap) rfl; clear hr6 hb)
    | (go_at_call 27; (with_reducible refine (HWO.out _ _ _ (HV.out.below HB.out) HR6.out).mono ?_); rintro e w7 ⟨A7, k7, rfl, hr7, hf7, hb⟩; have HR7 := Lib.hid hr7; have HF7 := Lib.hid hf7; replace HR6 := Lib.hid (RowP.below HR6.out hb); replace HA := Lib.hid (HA.out.later hb); replace HP := Lib.hid (HP.out.later hb); replace HZ4 := Lib.hid (HZ4.out.later hb); replace HZ5 := Lib.hid (HZ5.out.later hb); replace HB := Lib.hid (HB.out.trans (hb.mono HB.out.size)); have hs7 := hb.size; clear hr7 hf7 hb)
    | (go_at_call 28; (with_reducible refine (HJO.out _ _ HR6.out).mono ?_); rintro e w8 ⟨rfl, hb⟩; replace HR7 := Lib.hid (RowP.below HR7.out hb); replace HA := Lib.hid (HA.out.later hb); replace HP := Lib.hid (HP.out.later hb); replace HZ4 := Lib.hid (HZ4.out.later hb); replace HZ5 := Lib.hid (HZ5.out.later hb); replace HB := Lib.hid (HB.out.trans (hb.mono HB.out.size)); clear hb)
    | ((with_reducible refine gate9 ?_); refine stB (ty := 32) #[.slice A7 K.length k7] rfl rfl rfl rfl HZ4.out infoB rfl (cellsB_one _ _ _) ?_; intro w8 ht hg; replace HZ5 := Lib.hid (HZ5.out.kept hg (by omega)); replace HB := Lib.hid (below_of_grown1 HB.out hg HB.out.size (by omega)); replace HR7 := Lib.hid (RowP.stays HR7.out HF7.out hg (by omega)); replace HZ4 := Lib.hid ht; clear ht hg)
    | ((with_reducible refine gate9 ?_); refine stB (ty := 39) (cellsMg J) rfl rfl rfl rfl HZ5.out infoM rfl (cellsMg_one _) ?_; intro w9 ht hg; replace HZ4 := Lib.hid (HZ4.out.kept hg (by omega)); replace HB := Lib.hid (below_of_grown1 HB.out hg HB.out.size (by omega)); replace HR7 := Lib.hid (RowP.stays HR7.out HF7.out hg (by omega)); replace HZ5 := Lib.hid ht; clear ht hg))
  exact bodyPost_ret (retBMO rfl rfl rfl rfl rfl rfl HZ4.out HZ5.out) rfl ⟨A7, k7, rfl, HR7.out, HF7.out.less (by omega), HB.out⟩
set_option maxHeartbeats 4000000 in
theorem put_wait (l : List Pc) (hl : l.length < 999) (hok : OkB l) (p : Pc) (hf : findT l p.ts = none) (hp : 0 < p.tx.size) (hrc : rowC (l ++ [p]) p = none) (v : Value) (w : World) (h : RowP w v l) :
    Calls Try.prog 14 #[.agg #[v], .agg (cellsPc p)] w fun e w' => PutR w w' e (l ++ [p]) none := by
  have hte : p.tx.toList.isEmpty = false := empty_no hp
  have hok2 := okB_put hok hf hp
  have hl2 : (l ++ [p]).length ≤ 1000 := by rw [List.length_append, List.length_singleton]; omega
  have hpm : p ∈ l ++ [p] := by simp
  have HFN := Lib.hid (findT_new hf)
  have HRW := Lib.hid (fun b n W h => rowOf_any (l ++ [p]) hl2 hok2.nd p hpm b n W h)
  have HRC : Hid ((rowC (l ++ [p]) p).getD [] = []) := Lib.hid (by rw [hrc]; rfl)
  have HLN : Hid ((l ++ [p]).length = l.length + 1) := Lib.hid (by rw [List.length_append, List.length_singleton])
  obtain ⟨i0, hi0, hz0, hz1, hz2⟩ := info_parts infoPZ
  have HI := Lib.hid hi0
  have HZ0 := Lib.hid hz0
  have HZ1 := Lib.hid hz1
  have HZ2 := Lib.hid hz2
  obtain ⟨W1, hW1, HA, HP, HB1, hs1⟩ := two_open w 32 43 #[v] (cellsPc p)
  obtain ⟨W, hW, HZ4, HZ5, HB2, hs2⟩ := two_open W1 32 39 #[.slice none 0 0] #[.int .u32 0, .bool false, .int .u16 0, .int .u16 0, .int .u32 0, .string ⟨#[]⟩]
  replace HA := Lib.hid (HA.out.later HB2.out)
  replace HP := Lib.hid (HP.out.later HB2.out)
  have HV := Lib.hid h
  have HB := Lib.hid (HB1.out.trans (HB2.out.mono HB1.out.size))
  obtain ⟨A, cap, rfl, hcap, hmx, _⟩ := id h
  have hmxI : (cap : Int) ≤ 9223372036854775807 := by unfold maxLen at hmx; omega
  have HBT := Lib.hid (fun V W h => byTsn_any l (by omega) hok.nd V W h)
  have hsW1 : w.heap.size + 2 ≤ W1.heap.size := Nat.le_of_eq hs1.symm
  have hsW : W1.heap.size + 2 ≤ W.heap.size := Nat.le_of_eq hs2.symm
  clear hs1 hs2 HB1 HB2 h
  have HCP := Lib.hid (fun W => clip_any A l.length cap hcap hmxI W)
  have hl3 : (l.length : Int) ≤ 1000 := by omega
  clear hp hok2 hpm hrc hi0 hz0 hz1 hz2 hl2
  go_enter Try.func14, Try.ntmps14
  go_wp2_with (first
    | ((with_reducible refine gate9 ?_); refine ldB (ty := 32) (cs := #[.slice A l.length cap]) rfl rfl rfl HA.out Try.underlying32 rfl infoB ?_)
    | ((with_reducible refine gate9 ?_); refine ldB (ty := 43) rfl rfl rfl HP.out Try.underlying43 rfl infoP ?_)
    | (go_at_call 23; (with_reducible refine (HBT.out _ _ (HV.out.below HB.out)).mono ?_); rintro e w1 ⟨mb, mn, rfl, hm, hmn, hmb, hb⟩; have HM := Lib.hid hm; replace HA := Lib.hid (HA.out.later hb); replace HP := Lib.hid (HP.out.later hb); replace HZ4 := Lib.hid (HZ4.out.later hb); replace HZ5 := Lib.hid (HZ5.out.later hb); replace HB := Lib.hid (HB.out.trans (hb.mono HB.out.size)); have c0 := HP.out.cell 0 (.int .u32 (p.ts.toNat : Int)) rfl; have hsz := hb.size; clear hm hb; obtain ⟨W8, hW8, HT, HB8, hs8⟩ := one_open w1 43 #[.int .u32 0, .bool false, .bool false, .bool false, .int .u16 0, .int .u16 0, .int .u32 0, .string ⟨#[]⟩])
    | ((with_reducible refine gate9 ?_); refine lookF rfl _ _ rfl p.ts HM.out rfl rfl ?_; rw [hf]; dsimp only [Option.getD, Option.isSome])
    | ((with_reducible refine gate9 ?_); refine stB (ty := 43) (cellsPc zeroPc) rfl rfl rfl rfl HT.out infoP rfl (cellsPc_one _) ?_; intro w4 ht hg; replace HB8 := Lib.hid (below_of_grown1 HB8.out hg HB8.out.size (Nat.le_refl _)); have hb := HB8.out; replace HA := Lib.hid (HA.out.later hb); replace HP := Lib.hid (HP.out.later hb); replace HZ4 := Lib.hid (HZ4.out.later hb); replace HZ5 := Lib.hid (HZ5.out.later hb); replace HB := Lib.hid (HB.out.trans (hb.mono HB.out.size)); replace HM := Lib.hid (HM.out.later hb); have c7 := HP.out.cell 7 (.string p.tx) rfl; have a0 := HA.out.cell 0 (.slice A l.length cap) rfl; have hs4 := hb.size; clear ht hg hb c0; have c0 := HP.out.cell 0 (.int .u32 (p.ts.toNat : Int)) rfl)
    | ((with_reducible refine gate9 ?_); refine storeF rfl _ _ _ rfl p HM.out (by unfold maxLen; omega) rfl rfl rfl ?_; intro w5 hm hg; rw [HFN.out] at hm; replace HA := Lib.hid (HA.out.kept hg (by omega)); replace HP := Lib.hid (HP.out.kept hg (by omega)); replace HZ4 := Lib.hid (HZ4.out.kept hg (by omega)); replace HZ5 := Lib.hid (HZ5.out.kept hg (by omega)); replace HB := Lib.hid (below_of_grown1 HB.out hg HB.out.size (by omega)); have hs5 := hg.size; replace HM := Lib.hid hm; clear hm hg c7 a0 c0)
    | (go_at_call 25; (with_reducible refine (HRW.out _ _ _ HM.out).mono ?_); rintro e w6 ⟨A6, k6, rfl, hr6, hb⟩; rw [HRC.out]; replace HA := Lib.hid (HA.out.later hb); replace HP := Lib.hid (HP.out.later hb); replace HZ4 := Lib.hid (HZ4.out.later hb); replace HZ5 := Lib.hid (HZ5.out.later hb); replace HB := Lib.hid (HB.out.trans (hb.mono HB.out.size)); have hs6 := hb.size; clear hr6 hb))
  clear hW1 hW hW8
  have HS : (fun V => Bx V w.heap.size 32 #[.slice A l.length cap] ∧ Bx V (w.heap.size + 1) 43 (cellsPc p) ∧ Below w.heap.size w V) _ := ⟨HA.out.drew, HP.out.drew, below_drawn HB.out⟩
  replace HZ4 := Lib.hid HZ4.out.drew
  replace HZ5 := Lib.hid HZ5.out.drew
  obtain ⟨W7, hW7, HN7, HB7, hs7⟩ := one_open w6.drew 43 #[.int .u32 (p.ts.toNat : Int), .bool p.bg, .bool p.en, .bool p.fr, .int .u16 (p.st.toNat : Int), .int .u16 (p.ss.toNat : Int), .int .u32 (p.pp.toNat : Int), .string p.tx]
  obtain ⟨g7, hg7⟩ : ∃ g, w6.drew.heap.size = g := ⟨_, rfl⟩
  rw [hg7] at HN7 hs7
  have hg57 : w6.heap.size = g7 := hg7
  have hgW : W1.heap.size + 1 < g7 := by have := HZ5.out.lt; omega
  refine wp_region_noPanic ?_
  refine wp_region_waits (S := (fun V => Bx V w.heap.size 32 #[.slice A l.length cap] ∧ Bx V (w.heap.size + 1) 43 (cellsPc p) ∧ Below w.heap.size w V)) [10] (by kernel_rfl) HS (fun hHeld => ?_)
  clear HS HA HB
  refine wpAnyW_take (i := 0) (v := ?_) (by simp only [List.getElem?_toArray, List.getElem?_cons_zero]; rfl) (by kernel_rfl) (by kernel_rfl) (by kernel_rfl) (by kernel_rfl) (by kernel_rfl) (fun _ _ _ h => h) (Or.inl ⟨by rfl, ?_⟩) (by assumption) ?_
  rotate_left 1
  · (intro w' hSw; go_simp; try with_reducible rfl)
  try simp only [Act.put, List.setIfInBounds_toArray, List.set_cons_zero, List.set_cons_succ]
  refine wpAnyW_take (i := 1) (v := ?_) (by simp only [List.getElem?_toArray, List.getElem?_cons_succ, List.getElem?_cons_zero]; rfl) (by kernel_rfl) (by kernel_rfl) (by kernel_rfl) (by kernel_rfl) (by kernel_rfl) (fun _ _ _ h => h) (Or.inl ⟨by rfl, ?_⟩) (by assumption) ?_
  rotate_left 1
  · (intro w' hSw; have hq := hSw.1.cell 0 (.slice A l.length cap) rfl; go_simp; try with_reducible rfl)
  try simp only [Act.put, List.setIfInBounds_toArray, List.set_cons_zero, List.set_cons_succ]
  refine wpAnyW_take (i := 3) (v := _) (by simp only [List.getElem?_toArray, List.getElem?_cons_succ, List.getElem?_cons_zero]; rfl) (by kernel_rfl) (by kernel_rfl) (by kernel_rfl) (by kernel_rfl) (by kernel_rfl) (fun _ _ _ h => h) (yB (ty := 43) (cs := #[.int .u32 (p.ts.toNat : Int), .bool p.bg, .bool p.en, .bool p.fr, .int .u16 (p.st.toNat : Int), .int .u16 (p.ss.toNat : Int), .int .u32 (p.pp.toNat : Int), .string p.tx]) (by rfl) rfl rfl (fun V h => h.2.1) Try.underlying43 rfl infoP) (by assumption) ?_
  try simp only [Act.put, List.setIfInBounds_toArray, List.set_cons_zero, List.set_cons_succ]
  refine wpAnyW_take (i := 7) (v := ?_) (by simp only [List.getElem?_toArray, List.getElem?_cons_succ, List.getElem?_cons_zero]; rfl) (by kernel_rfl) (by kernel_rfl) (by kernel_rfl) (by kernel_rfl) (by kernel_rfl) (fun _ _ _ h => h) (Or.inl ⟨by rfl, ?_⟩) (by assumption) ?_
  rotate_left 1
  · (intro w' hSw; go_simp; try with_reducible rfl)
  try simp only [Act.put, List.setIfInBounds_toArray, List.set_cons_zero, List.set_cons_succ]
  refine wpAnyW_two (i := 2) (i2 := 4) (by kernel_rfl) (by simp only [List.getElem?_toArray, List.getElem?_cons_succ, List.getElem?_cons_zero]; rfl) (by simp only [List.getElem?_toArray, List.getElem?_cons_succ, List.getElem?_cons_zero]; rfl) (fun K hK => ?_) (fun K hK => ?_)
  · rw [if_pos (by rfl)]
    go_simp
    refine (HCP.out _).mono ?_
    rintro _ w9 ⟨B, rfl, hB1, hB2, e9⟩
    replace e9 := e9.symm
    subst e9
    have HS := hHeld
    clear hHeld
    go_wp2_with fail
    refine hK.out _ _ HS (fun hHeld => ?_)
    clear hK K HS
    try simp only [Act.put, List.setIfInBounds_toArray, List.set_cons_zero, List.set_cons_succ]
    refine wpAnyW_held (i := 4) (by kernel_rfl) (by simp only [List.getElem?_toArray, List.getElem?_cons_succ, List.getElem?_cons_zero]; rfl) (fun K hK => ?_)
    rw [if_pos (by rfl)]
    have HS : (fun V => Bx V w.heap.size 32 #[.slice A l.length cap] ∧ Bx V (w.heap.size + 1) 43 (cellsPc p) ∧ Below w.heap.size w V) _ := ⟨hHeld.1.later HB7.out, hHeld.2.1.later HB7.out, hHeld.2.2.trans (HB7.out.mono hHeld.2.2.size)⟩
    replace HZ4 := Lib.hid (HZ4.out.later HB7.out)
    replace HZ5 := Lib.hid (HZ5.out.later HB7.out)
    clear hHeld
    go_simp
    refine hK.out _ _ HS (fun hHeld => ?_)
    clear hK K HS
    try simp only [Act.put, List.setIfInBounds_toArray, List.set_cons_zero, List.set_cons_succ]
    refine wpAnyW_held (i := 5) (by kernel_rfl) (by simp only [List.getElem?_toArray, List.getElem?_cons_succ, List.getElem?_cons_zero]; rfl) (fun K hK => ?_)
    refine step_append_grows (by rfl) (.tmp 43) (.tmp 45) 29 (by rfl) 43 i0 _ 8 32 Try.underlying29 HI.out HZ0.out HZ1.out HZ2.out rfl (by decide) B l.length l.length (flatP l) (by rfl) (fun e => ?hn) (flatP_length l) (fun b e => ?hc) ⟨g7, 0, none⟩ 1 1 (cellsPc p).toList (by rfl) rfl (fun j u hu => by rw [addr_plain, Nat.zero_add, HN7.out.at]; show (cellsPc p)[j]? = some u; simpa using hu) (fun u hu => cells_one hu) (by omega) (by unfold maxLen; omega) (by omega) ?_
    case hn =>
      by_cases h0 : 0 < l.length
      · obtain ⟨b, off, cap', e9, -⟩ := HV.out.at h0
        cases e9
        have := hB1 h0
        rw [e] at this
        cases this
      · omega
    case hc =>
      intro j u hu
      have h0 : 0 < l.length := by have := (List.getElem?_eq_some_iff.1 hu).1; rw [flatP_length] at this; omega
      have hb := hB1 h0
      rw [e] at hb
      have h9 := HV.out.below hHeld.2.2
      rw [← hb] at h9
      exact fedP h9 j u hu
    intro v8 w8 hown hgr
    have hb8 : Below W7.heap.size W7 w8 := (Below.refl _ _).grown hgr (Nat.le_refl _) (fun k hk => by cases hk)
    have HS : (fun V => Bx V w.heap.size 32 #[.slice A l.length cap] ∧ Bx V (w.heap.size + 1) 43 (cellsPc p) ∧ Below w.heap.size w V) _ := ⟨hHeld.1.later hb8, hHeld.2.1.later hb8, hHeld.2.2.trans (hb8.mono hHeld.2.2.size)⟩
    replace HZ4 := Lib.hid (HZ4.out.later hb8)
    replace HZ5 := Lib.hid (HZ5.out.later hb8)
    obtain ⟨A8, k8, rfl, -, -⟩ := own_form2 hown
    have hs8 := hb8.size
    rw [← flatP_add] at hown
    have HO := Lib.hid (OwnV.of_own hown)
    have HFR := Lib.hid (fresh_own hown)
    clear hown hgr hb8 hHeld hB1 hB2
    try simp only [Act.put, List.setIfInBounds_toArray, List.set_cons_zero, List.set_cons_succ]
    refine hK.out _ _ HS (fun hHeld => ?_)
    clear hK K HS
    try simp only [Act.put, List.setIfInBounds_toArray, List.set_cons_zero, List.set_cons_succ]
    refine wpAnyW_take (i := 6) (v := ?_) (by simp only [List.getElem?_toArray, List.getElem?_cons_succ, List.getElem?_cons_zero]; rfl) (by kernel_rfl) (by kernel_rfl) (by kernel_rfl) (by kernel_rfl) (by kernel_rfl) (fun _ _ _ h => h) (Or.inl ⟨by rfl, ?_⟩) (by assumption) ?_
    rotate_left 1
    · (intro w' hSw; go_simp; try with_reducible rfl)
    try simp only [Act.put, List.setIfInBounds_toArray, List.set_cons_zero, List.set_cons_succ]
    refine wpAnyW_held (i := 8) (by kernel_rfl) (by simp only [List.getElem?_toArray, List.getElem?_cons_succ, List.getElem?_cons_zero]; rfl) (fun K hK => ?_)
    rw [if_pos (by rfl)]
    refine wpB (ty := 32) #[.slice A8 (l.length + 1) k8] rfl rfl rfl HZ4.out infoB rfl (cellsB_one _ _ _) ?_
    intro w10 ht hg
    have HS : (fun V => Bx V w.heap.size 32 #[.slice A l.length cap] ∧ Bx V (w.heap.size + 1) 43 (cellsPc p) ∧ Below w.heap.size w V) _ := ⟨hHeld.1.kept hg (by omega), hHeld.2.1.kept hg (by omega), below_of_grown1 hHeld.2.2 hg hHeld.2.2.size (by omega)⟩
    replace HO := Lib.hid (HO.out.grown hg (fun z e _ => by intro e2; cases e2; have := HO.out.base _ e; simp at this; omega))
    replace HZ5 := Lib.hid (HZ5.out.kept hg (by omega))
    replace HZ4 := Lib.hid ht
    clear ht hg hHeld
    refine hK.out _ _ HS (fun hHeld => ?_)
    clear hK K HS
    try simp only [Act.put, List.setIfInBounds_toArray, List.set_cons_zero, List.set_cons_succ]
    refine wpAnyW_held (i := 9) (by kernel_rfl) (by simp only [List.getElem?_toArray, List.getElem?_cons_succ, List.getElem?_cons_zero]; rfl) (fun K hK => ?_)
    rw [if_pos (by rfl)]
    refine wpB (ty := 39) (cellsMg zeroMg) rfl rfl rfl HZ5.out infoM rfl (cellsMg_one _) ?_
    intro w11 ht hg
    have HS : (fun V => Bx V w.heap.size 32 #[.slice A l.length cap] ∧ Bx V (w.heap.size + 1) 43 (cellsPc p) ∧ Below w.heap.size w V) _ := ⟨hHeld.1.kept hg (by omega), hHeld.2.1.kept hg (by omega), below_of_grown1 hHeld.2.2 hg hHeld.2.2.size (by omega)⟩
    replace HO := Lib.hid (HO.out.grown hg (fun z e _ => by intro e2; cases e2; have := HO.out.base _ e; simp at this; omega))
    replace HZ4 := Lib.hid (HZ4.out.kept hg (by omega))
    replace HZ5 := Lib.hid ht
    clear ht hg hHeld
    refine hK.out _ _ HS (fun hHeld => ?_)
    clear hK K HS
    try simp only [Act.put, List.setIfInBounds_toArray, List.set_cons_zero, List.set_cons_succ]
    refine wpAnyW_freed (i := 10) (by kernel_rfl) (by kernel_rfl) (by simp only [List.getElem?_toArray, List.getElem?_cons_succ, List.getElem?_cons_zero]; rfl) (fun K hK => ?_)
    rw [if_pos (by rfl)]
    go_simp
    have HBE := Lib.hid hHeld.2.2
    refine hK.out _ _ ?_
    clear hK K hHeld
    try simp only [Act.put, List.setIfInBounds_toArray, List.set_cons_zero, List.set_cons_succ]
    refine wpAnyW_done (by kernel_rfl) ?_ _
    refine NoPanic.normal ?_
    go_wp2_with fail
    exact bodyPost_ret (retBMO rfl rfl rfl rfl rfl rfl HZ4.out HZ5.out) rfl ⟨A8, k8, by rw [HLN.out]; rfl, by rw [HLN.out]; exact HO.out.row, by rw [HLN.out]; exact HFR.out.less (by omega), HBE.out⟩
  · rw [if_pos (by rfl)]
    have HS : (fun V => Bx V w.heap.size 32 #[.slice A l.length cap] ∧ Bx V (w.heap.size + 1) 43 (cellsPc p) ∧ Below w.heap.size w V) _ := ⟨hHeld.1.later HB7.out, hHeld.2.1.later HB7.out, hHeld.2.2.trans (HB7.out.mono hHeld.2.2.size)⟩
    replace HZ4 := Lib.hid (HZ4.out.later HB7.out)
    replace HZ5 := Lib.hid (HZ5.out.later HB7.out)
    clear hHeld
    go_simp
    refine hK.out _ _ HS (fun hHeld => ?_)
    clear hK K HS
    try simp only [Act.put, List.setIfInBounds_toArray, List.set_cons_zero, List.set_cons_succ]
    refine wpAnyW_held (i := 2) (by kernel_rfl) (by simp only [List.getElem?_toArray, List.getElem?_cons_succ, List.getElem?_cons_zero]; rfl) (fun K hK => ?_)
    rw [if_pos (by rfl)]
    go_simp
    refine (HCP.out _).mono ?_
    rintro _ w9 ⟨B, rfl, hB1, hB2, e9⟩
    replace e9 := e9.symm
    subst e9
    have HS := hHeld
    clear hHeld
    go_wp2_with fail
    refine hK.out _ _ HS (fun hHeld => ?_)
    clear hK K HS
    try simp only [Act.put, List.setIfInBounds_toArray, List.set_cons_zero, List.set_cons_succ]
    refine wpAnyW_held (i := 5) (by kernel_rfl) (by simp only [List.getElem?_toArray, List.getElem?_cons_succ, List.getElem?_cons_zero]; rfl) (fun K hK => ?_)
    refine step_append_grows (by rfl) (.tmp 43) (.tmp 45) 29 (by rfl) 43 i0 _ 8 32 Try.underlying29 HI.out HZ0.out HZ1.out HZ2.out rfl (by decide) B l.length l.length (flatP l) (by rfl) (fun e => ?hn) (flatP_length l) (fun b e => ?hc) ⟨g7, 0, none⟩ 1 1 (cellsPc p).toList (by rfl) rfl (fun j u hu => by rw [addr_plain, Nat.zero_add, HN7.out.at]; show (cellsPc p)[j]? = some u; simpa using hu) (fun u hu => cells_one hu) (by omega) (by unfold maxLen; omega) (by omega) ?_
    case hn =>
      by_cases h0 : 0 < l.length
      · obtain ⟨b, off, cap', e9, -⟩ := HV.out.at h0
        cases e9
        have := hB1 h0
        rw [e] at this
        cases this
      · omega
    case hc =>
      intro j u hu
      have h0 : 0 < l.length := by have := (List.getElem?_eq_some_iff.1 hu).1; rw [flatP_length] at this; omega
      have hb := hB1 h0
      rw [e] at hb
      have h9 := HV.out.below hHeld.2.2
      rw [← hb] at h9
      exact fedP h9 j u hu
    intro v8 w8 hown hgr
    have hb8 : Below W7.heap.size W7 w8 := (Below.refl _ _).grown hgr (Nat.le_refl _) (fun k hk => by cases hk)
    have HS : (fun V => Bx V w.heap.size 32 #[.slice A l.length cap] ∧ Bx V (w.heap.size + 1) 43 (cellsPc p) ∧ Below w.heap.size w V) _ := ⟨hHeld.1.later hb8, hHeld.2.1.later hb8, hHeld.2.2.trans (hb8.mono hHeld.2.2.size)⟩
    replace HZ4 := Lib.hid (HZ4.out.later hb8)
    replace HZ5 := Lib.hid (HZ5.out.later hb8)
    obtain ⟨A8, k8, rfl, -, -⟩ := own_form2 hown
    have hs8 := hb8.size
    rw [← flatP_add] at hown
    have HO := Lib.hid (OwnV.of_own hown)
    have HFR := Lib.hid (fresh_own hown)
    clear hown hgr hb8 hHeld hB1 hB2
    try simp only [Act.put, List.setIfInBounds_toArray, List.set_cons_zero, List.set_cons_succ]
    refine hK.out _ _ HS (fun hHeld => ?_)
    clear hK K HS
    try simp only [Act.put, List.setIfInBounds_toArray, List.set_cons_zero, List.set_cons_succ]
    refine wpAnyW_take (i := 6) (v := ?_) (by simp only [List.getElem?_toArray, List.getElem?_cons_succ, List.getElem?_cons_zero]; rfl) (by kernel_rfl) (by kernel_rfl) (by kernel_rfl) (by kernel_rfl) (by kernel_rfl) (fun _ _ _ h => h) (Or.inl ⟨by rfl, ?_⟩) (by assumption) ?_
    rotate_left 1
    · (intro w' hSw; go_simp; try with_reducible rfl)
    try simp only [Act.put, List.setIfInBounds_toArray, List.set_cons_zero, List.set_cons_succ]
    refine wpAnyW_held (i := 8) (by kernel_rfl) (by simp only [List.getElem?_toArray, List.getElem?_cons_succ, List.getElem?_cons_zero]; rfl) (fun K hK => ?_)
    rw [if_pos (by rfl)]
    refine wpB (ty := 32) #[.slice A8 (l.length + 1) k8] rfl rfl rfl HZ4.out infoB rfl (cellsB_one _ _ _) ?_
    intro w10 ht hg
    have HS : (fun V => Bx V w.heap.size 32 #[.slice A l.length cap] ∧ Bx V (w.heap.size + 1) 43 (cellsPc p) ∧ Below w.heap.size w V) _ := ⟨hHeld.1.kept hg (by omega), hHeld.2.1.kept hg (by omega), below_of_grown1 hHeld.2.2 hg hHeld.2.2.size (by omega)⟩
    replace HO := Lib.hid (HO.out.grown hg (fun z e _ => by intro e2; cases e2; have := HO.out.base _ e; simp at this; omega))
    replace HZ5 := Lib.hid (HZ5.out.kept hg (by omega))
    replace HZ4 := Lib.hid ht
    clear ht hg hHeld
    refine hK.out _ _ HS (fun hHeld => ?_)
    clear hK K HS
    try simp only [Act.put, List.setIfInBounds_toArray, List.set_cons_zero, List.set_cons_succ]
    refine wpAnyW_held (i := 9) (by kernel_rfl) (by simp only [List.getElem?_toArray, List.getElem?_cons_succ, List.getElem?_cons_zero]; rfl) (fun K hK => ?_)
    rw [if_pos (by rfl)]
    refine wpB (ty := 39) (cellsMg zeroMg) rfl rfl rfl HZ5.out infoM rfl (cellsMg_one _) ?_
    intro w11 ht hg
    have HS : (fun V => Bx V w.heap.size 32 #[.slice A l.length cap] ∧ Bx V (w.heap.size + 1) 43 (cellsPc p) ∧ Below w.heap.size w V) _ := ⟨hHeld.1.kept hg (by omega), hHeld.2.1.kept hg (by omega), below_of_grown1 hHeld.2.2 hg hHeld.2.2.size (by omega)⟩
    replace HO := Lib.hid (HO.out.grown hg (fun z e _ => by intro e2; cases e2; have := HO.out.base _ e; simp at this; omega))
    replace HZ4 := Lib.hid (HZ4.out.kept hg (by omega))
    replace HZ5 := Lib.hid ht
    clear ht hg hHeld
    refine hK.out _ _ HS (fun hHeld => ?_)
    clear hK K HS
    try simp only [Act.put, List.setIfInBounds_toArray, List.set_cons_zero, List.set_cons_succ]
    refine wpAnyW_freed (i := 10) (by kernel_rfl) (by kernel_rfl) (by simp only [List.getElem?_toArray, List.getElem?_cons_succ, List.getElem?_cons_zero]; rfl) (fun K hK => ?_)
    rw [if_pos (by rfl)]
    go_simp
    have HBE := Lib.hid hHeld.2.2
    refine hK.out _ _ ?_
    clear hK K hHeld
    try simp only [Act.put, List.setIfInBounds_toArray, List.set_cons_zero, List.set_cons_succ]
    refine wpAnyW_done (by kernel_rfl) ?_ _
    refine NoPanic.normal ?_
    go_wp2_with fail
    exact bodyPost_ret (retBMO rfl rfl rfl rfl rfl rfl HZ4.out HZ5.out) rfl ⟨A8, k8, by rw [HLN.out]; rfl, by rw [HLN.out]; exact HO.out.row, by rw [HLN.out]; exact HFR.out.less (by omega), HBE.out⟩
end Go.Proofs.Ytgngdgiipifacaa
