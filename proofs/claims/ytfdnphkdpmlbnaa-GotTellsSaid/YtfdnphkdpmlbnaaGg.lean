/-
  got.Take: contract.
-/
import Derived.Test.YtfdnphkdpmlbnaaGf
namespace Go.Proofs.Ytfdnphkdpmlbnaa
open Go.RowKit
set_option linter.unusedVariables false
set_option linter.unusedSimpArgs false
set_option maxRecDepth 100000

theorem results_row1 {P : Program} {fn : Func} {p u : Tmp} {ty : TypeId} (h : fn.results = #[.cell p ty, .tmp u]) (tmps : Array Value) (w : World) (g : Nat) (t : TypeId) (cs : Array Value) (fr : Nat × Nat) (d : TypeDesc)
    (hp : tmps.getD p undef = .pointer (some ⟨g, 0, none⟩)) (hg : w.heap[g]? = some (.cells cs t fr))
    (hu : P.underlying ty = some d) (hd : (match d with | .struct _ | .array _ _ => true | _ => false) = true) (hi : (P.info? ty).map (·.size) = some cs.size) :
    (results fn tmps).run P w = .ok (.tuple #[.agg cs, tmps.getD u undef]) w := by
  have hp' : tmps[p]?.getD undef = .pointer (some ⟨g, 0, none⟩) := by simpa using hp
  simp [results, h, hp', asAddr, run_loadVar_row w g t ty cs fr d hg hu hd hi]
theorem retG1 {fn : Func} {p u : Tmp} (h : fn.results = #[.cell p 25, .tmp u]) {tmps : Array Value} {w : World} {g : Nat} {cs : Array Value} {r : Value} (hz : cs.size = 3) (hp : tmps.getD p undef = .pointer (some ⟨g, 0, none⟩)) (hr : tmps.getD u undef = r) (hg : Bx w g 25 cs) : (results fn tmps).run Try.prog w = .ok (.tuple #[.agg cs, r]) w := by
  subst hr
  exact results_row1 h tmps w g _ cs (0, 0) _ hp hg Try.underlying25 rfl (by rw [hz]; exact infoG)
theorem retR1 {fn : Func} {p u : Tmp} (h : fn.results = #[.cell p 28, .tmp u]) {tmps : Array Value} {w : World} {g : Nat} {cs : Array Value} {r : Value} (hz : cs.size = 3) (hp : tmps.getD p undef = .pointer (some ⟨g, 0, none⟩)) (hr : tmps.getD u undef = r) (hg : Bx w g 28 cs) : (results fn tmps).run Try.prog w = .ok (.tuple #[.agg cs, r]) w := by
  subst hr
  exact results_row1 h tmps w g _ cs (0, 0) _ hp hg Try.underlying28 rfl (by rw [hz]; exact infoR)
/-- A got and a word are handed back: so it reads, in blocks of the call's own. -/
def TookG (w : World) (R : Gt × Bool) (e : Ending) (w' : World) : Prop := ∃ va vd, e = .returned (.tuple #[.agg #[.int .u32 (R.1.cum.toNat : Int), va, vd], .bool R.2]) ∧ RowE enc32 w' va R.1.ab ∧ RowE enc32 w' vd R.1.du ∧ FreshE w.heap.size va ∧ FreshE w.heap.size vd ∧ Below w.heap.size w w'
set_option maxHeartbeats 4000000 in
theorem take_full (c : UInt32) (ab du : List UInt32) (ha : ab.length ≤ 1000000) (hd : du.length ≤ 1000000) (va vd : Value) (w : World) (h1 : RowE enc32 w va ab) (h2 : RowE enc32 w vd du) (n : UInt32) (hhas : hasB ⟨c, ab, du⟩ n = true) (hdu : ¬ du.length < 100) : Calls Try.prog 13 #[.agg #[.int .u32 (c.toNat : Int), va, vd], .int .u32 (n.toNat : Int)] w (TookG w (⟨c, ab, du⟩, false)) := by
  have q1 : ¬ (du.length : Int) < 100 := by omega
  obtain ⟨W, hW, HA, HZ, HB, hs⟩ := two_open w 25 25 #[.int .u32 (c.toNat : Int), va, vd] #[.int .u32 0, .slice none 0 0, .slice none 0 0]
  have HV := Lib.hid (h1.below HB.out)
  have HD := Lib.hid (h2.below HB.out)
  have HCO := Lib.hid (fun W h h' => copied_any c ab du ha hd va vd W h h')
  have HHS := Lib.hid (fun W h h' => has_any c ab du ha hd va vd W h h' n)
  rw [hhas] at HHS
  obtain ⟨A, k, rfl, -, -, -⟩ := id HV.out
  obtain ⟨A', k', rfl, -, -, -⟩ := id HD.out
  clear h1 h2
  go_enter Try.func13, Try.ntmps13
  go_wp2_with (first
    | ((with_reducible refine gate9 ?_); refine ldB (ty := 25) rfl rfl rfl HA.out Try.underlying25 rfl infoG ?_))
  refine (HCO.out _ HV.out HD.out).mono ?_
  rintro e w2 ⟨va5, vd5, rfl, hra, hrd, hfa, hfd, hb⟩
  obtain ⟨A5, k5, rfl, -, -, -⟩ := id hra
  obtain ⟨A6, k6, rfl, -, -, -⟩ := id hrd
  have HRA := Lib.hid hra
  have HRD := Lib.hid hrd
  have HFA := Lib.hid hfa
  have HFD := Lib.hid hfd
  replace HA := Lib.hid (HA.out.later hb); replace HZ := Lib.hid (HZ.out.later hb); replace HV := Lib.hid (HV.out.below hb); replace HD := Lib.hid (HD.out.below hb); replace HB := Lib.hid (HB.out.trans (hb.mono HB.out.size)); 
  have hs2 := hb.size
  have HRA0 := Lib.hid hra
  have HRD0 := Lib.hid hrd
  clear hra hrd hfa hfd hb HCO hW
  obtain ⟨W3, hW3, HQ, HB3, hs3⟩ := one_open w2 25 #[.int .u32 0, .slice none 0 0, .slice none 0 0]
  obtain ⟨gq, hgq⟩ : ∃ g, w2.heap.size = g := ⟨_, rfl⟩
  rw [hgq] at HQ
  go_wp2_with (first
    | ((with_reducible refine gate9 ?_); refine stB (ty := 25) #[.int .u32 (c.toNat : Int), .slice A5 ab.length k5, .slice A6 du.length k6] rfl rfl rfl rfl HQ.out infoG rfl (cellsG_one _ _ _ _ _ _ _) ?_; intro w4 ht hg; replace HB3 := Lib.hid (below_of_grown1 HB3.out hg HB3.out.size (Nat.le_of_eq hgq)); replace HQ := Lib.hid ht; clear ht hg; replace HA := Lib.hid (HA.out.later HB3.out); replace HZ := Lib.hid (HZ.out.later HB3.out); replace HV := Lib.hid (HV.out.below HB3.out); replace HD := Lib.hid (HD.out.below HB3.out); replace HRA := Lib.hid (HRA.out.below HB3.out); replace HRD := Lib.hid (HRD.out.below HB3.out); replace HB := Lib.hid (HB.out.trans (HB3.out.mono HB.out.size)); have c0 := HA.out.cell 0 (.int .u32 (c.toNat : Int)) rfl; have c1 := HA.out.cell 1 (.slice A ab.length k) rfl; have c2 := HA.out.cell 2 (.slice A' du.length k') rfl; have d0 := HQ.out.cell 0 (.int .u32 (c.toNat : Int)) rfl; have d1 := HQ.out.cell 1 (.slice A5 ab.length k5) rfl; have d2 := HQ.out.cell 2 (.slice A6 du.length k6) rfl; skip)
    | (go_at_call 16; (with_reducible refine (HHS.out _ HV.out HD.out).mono ?_); rintro e w5 ⟨rfl, hb⟩; replace HA := Lib.hid (HA.out.later hb); replace HZ := Lib.hid (HZ.out.later hb); replace HQ := Lib.hid (HQ.out.later hb); replace HV := Lib.hid (HV.out.below hb); replace HD := Lib.hid (HD.out.below hb); replace HRA := Lib.hid (HRA.out.below hb); replace HRD := Lib.hid (HRD.out.below hb); replace HB := Lib.hid (HB.out.trans (hb.mono HB.out.size)); replace HB3 := Lib.hid (HB3.out.trans (hb.mono HB3.out.size)); clear c0 c1 c2 d0 d1 d2; have c0 := HA.out.cell 0 (.int .u32 (c.toNat : Int)) rfl; have c1 := HA.out.cell 1 (.slice A ab.length k) rfl; have c2 := HA.out.cell 2 (.slice A' du.length k') rfl; have d0 := HQ.out.cell 0 (.int .u32 (c.toNat : Int)) rfl; have d1 := HQ.out.cell 1 (.slice A5 ab.length k5) rfl; have d2 := HQ.out.cell 2 (.slice A6 du.length k6) rfl; clear hb)
    | ((with_reducible refine gate9 ?_); refine ldB (ty := 25) rfl rfl rfl HA.out Try.underlying25 rfl infoG ?_)
    | ((with_reducible refine gate9 ?_); refine ldB (ty := 25) rfl rfl rfl HQ.out Try.underlying25 rfl infoG ?_)
    | ((with_reducible refine gate9 ?_); refine stB (ty := 25) #[.int .u32 (c.toNat : Int), .slice A5 ab.length k5, .slice A6 du.length k6] rfl rfl rfl rfl HZ.out infoG rfl (cellsG_one _ _ _ _ _ _ _) ?_; intro w9 ht hg; replace HB := Lib.hid (below_of_grown1 HB.out hg HB.out.size (by omega)); replace HRA := Lib.hid (HRA.out.stays HFA.out hg (by omega)); replace HRD := Lib.hid (HRD.out.stays HFD.out hg (by omega)); replace HZ := Lib.hid ht; clear ht hg))
  exact bodyPost_ret (retG1 rfl rfl rfl rfl HZ.out) rfl ⟨_, _, rfl, HRA.out, HRD.out, HFA.out.less (by omega), HFD.out.less (by omega), HB.out⟩
set_option maxHeartbeats 4000000 in
theorem take_far (c : UInt32) (ab du : List UInt32) (ha : ab.length ≤ 1000000) (hd : du.length ≤ 1000000) (va vd : Value) (w : World) (h1 : RowE enc32 w va ab) (h2 : RowE enc32 w vd du) (n : UInt32) (hhas : hasB ⟨c, ab, du⟩ n = false) (hwi : within32 (n.toNat : Int) ((c + 1).toNat : Int) ((c + 4000).toNat : Int) = false) : Calls Try.prog 13 #[.agg #[.int .u32 (c.toNat : Int), va, vd], .int .u32 (n.toNat : Int)] w (TookG w (⟨c, ab, du⟩, false)) := by
  have hx1 := n.toNat_lt
  have hx2 := (c + 1).toNat_lt
  have hx3 := (c + 4000).toNat_lt
  have HWI := Lib.hid (fun W => within_any (n.toNat : Int) ((c + 1).toNat : Int) ((c + 4000).toNat : Int) (by omega) (by omega) (by omega) (by omega) (by omega) (by omega) W)
  rw [hwi] at HWI
  have s1 := add1_toNat c
  have s2 : ((c.toNat : Int) + 4000) % 4294967296 = ((c + 4000).toNat : Int) := add_toNat32 c 4000
  clear hx1 hx2 hx3 hwi
  generalize (c + 1).toNat = x1 at *
  generalize (c + 4000).toNat = x2 at *
  obtain ⟨W, hW, HA, HZ, HB, hs⟩ := two_open w 25 25 #[.int .u32 (c.toNat : Int), va, vd] #[.int .u32 0, .slice none 0 0, .slice none 0 0]
  have HV := Lib.hid (h1.below HB.out)
  have HD := Lib.hid (h2.below HB.out)
  have HCO := Lib.hid (fun W h h' => copied_any c ab du ha hd va vd W h h')
  have HHS := Lib.hid (fun W h h' => has_any c ab du ha hd va vd W h h' n)
  rw [hhas] at HHS
  obtain ⟨A, k, rfl, -, -, -⟩ := id HV.out
  obtain ⟨A', k', rfl, -, -, -⟩ := id HD.out
  clear h1 h2
  go_enter Try.func13, Try.ntmps13
  go_wp2_with (first
    | ((with_reducible refine gate9 ?_); refine ldB (ty := 25) rfl rfl rfl HA.out Try.underlying25 rfl infoG ?_))
  refine (HCO.out _ HV.out HD.out).mono ?_
  rintro e w2 ⟨va5, vd5, rfl, hra, hrd, hfa, hfd, hb⟩
  obtain ⟨A5, k5, rfl, -, -, -⟩ := id hra
  obtain ⟨A6, k6, rfl, -, -, -⟩ := id hrd
  have HRA := Lib.hid hra
  have HRD := Lib.hid hrd
  have HFA := Lib.hid hfa
  have HFD := Lib.hid hfd
  replace HA := Lib.hid (HA.out.later hb); replace HZ := Lib.hid (HZ.out.later hb); replace HV := Lib.hid (HV.out.below hb); replace HD := Lib.hid (HD.out.below hb); replace HB := Lib.hid (HB.out.trans (hb.mono HB.out.size)); 
  have hs2 := hb.size
  have HRA0 := Lib.hid hra
  have HRD0 := Lib.hid hrd
  clear hra hrd hfa hfd hb HCO hW
  obtain ⟨W3, hW3, HQ, HB3, hs3⟩ := one_open w2 25 #[.int .u32 0, .slice none 0 0, .slice none 0 0]
  obtain ⟨gq, hgq⟩ : ∃ g, w2.heap.size = g := ⟨_, rfl⟩
  rw [hgq] at HQ
  go_wp2_with (first
    | ((with_reducible refine gate9 ?_); refine stB (ty := 25) #[.int .u32 (c.toNat : Int), .slice A5 ab.length k5, .slice A6 du.length k6] rfl rfl rfl rfl HQ.out infoG rfl (cellsG_one _ _ _ _ _ _ _) ?_; intro w4 ht hg; replace HB3 := Lib.hid (below_of_grown1 HB3.out hg HB3.out.size (Nat.le_of_eq hgq)); replace HQ := Lib.hid ht; clear ht hg; replace HA := Lib.hid (HA.out.later HB3.out); replace HZ := Lib.hid (HZ.out.later HB3.out); replace HV := Lib.hid (HV.out.below HB3.out); replace HD := Lib.hid (HD.out.below HB3.out); replace HRA := Lib.hid (HRA.out.below HB3.out); replace HRD := Lib.hid (HRD.out.below HB3.out); replace HB := Lib.hid (HB.out.trans (HB3.out.mono HB.out.size)); have c0 := HA.out.cell 0 (.int .u32 (c.toNat : Int)) rfl; have c1 := HA.out.cell 1 (.slice A ab.length k) rfl; have c2 := HA.out.cell 2 (.slice A' du.length k') rfl; have d0 := HQ.out.cell 0 (.int .u32 (c.toNat : Int)) rfl; have d1 := HQ.out.cell 1 (.slice A5 ab.length k5) rfl; have d2 := HQ.out.cell 2 (.slice A6 du.length k6) rfl; skip)
    | (go_at_call 16; (with_reducible refine (HHS.out _ HV.out HD.out).mono ?_); rintro e w5 ⟨rfl, hb⟩; replace HA := Lib.hid (HA.out.later hb); replace HZ := Lib.hid (HZ.out.later hb); replace HQ := Lib.hid (HQ.out.later hb); replace HV := Lib.hid (HV.out.below hb); replace HD := Lib.hid (HD.out.below hb); replace HRA := Lib.hid (HRA.out.below hb); replace HRD := Lib.hid (HRD.out.below hb); replace HB := Lib.hid (HB.out.trans (hb.mono HB.out.size)); replace HB3 := Lib.hid (HB3.out.trans (hb.mono HB3.out.size)); clear c0 c1 c2 d0 d1 d2; have c0 := HA.out.cell 0 (.int .u32 (c.toNat : Int)) rfl; have c1 := HA.out.cell 1 (.slice A ab.length k) rfl; have c2 := HA.out.cell 2 (.slice A' du.length k') rfl; have d0 := HQ.out.cell 0 (.int .u32 (c.toNat : Int)) rfl; have d1 := HQ.out.cell 1 (.slice A5 ab.length k5) rfl; have d2 := HQ.out.cell 2 (.slice A6 du.length k6) rfl; clear hb)
    | (go_at_call 33; (with_reducible refine (HWI.out _).mono ?_); rintro e w5 ⟨rfl, rfl⟩)
    | ((with_reducible refine gate9 ?_); refine ldB (ty := 25) rfl rfl rfl HA.out Try.underlying25 rfl infoG ?_)
    | ((with_reducible refine gate9 ?_); refine ldB (ty := 25) rfl rfl rfl HQ.out Try.underlying25 rfl infoG ?_)
    | ((with_reducible refine gate9 ?_); refine stB (ty := 25) #[.int .u32 (c.toNat : Int), .slice A5 ab.length k5, .slice A6 du.length k6] rfl rfl rfl rfl HZ.out infoG rfl (cellsG_one _ _ _ _ _ _ _) ?_; intro w9 ht hg; replace HB := Lib.hid (below_of_grown1 HB.out hg HB.out.size (by omega)); replace HRA := Lib.hid (HRA.out.stays HFA.out hg (by omega)); replace HRD := Lib.hid (HRD.out.stays HFD.out hg (by omega)); replace HZ := Lib.hid ht; clear ht hg))
  exact bodyPost_ret (retG1 rfl rfl rfl rfl HZ.out) rfl ⟨_, _, rfl, HRA.out, HRD.out, HFA.out.less (by omega), HFD.out.less (by omega), HB.out⟩
set_option maxHeartbeats 4000000 in
theorem take_dup (c : UInt32) (ab du : List UInt32) (ha : ab.length ≤ 1000000) (hd : du.length ≤ 1000000) (va vd : Value) (w : World) (h1 : RowE enc32 w va ab) (h2 : RowE enc32 w vd du) (n : UInt32) (hhas : hasB ⟨c, ab, du⟩ n = true) (hdu : du.length < 100) : Calls Try.prog 13 #[.agg #[.int .u32 (c.toNat : Int), va, vd], .int .u32 (n.toNat : Int)] w (TookG w (⟨c, ab, du ++ [n]⟩, false)) := by
  have q1 : (du.length : Int) < 100 := by omega
  have HWT := Lib.hid (fun W h => with_any du hd du.length (Nat.le_refl _) n vd W h)
  rw [List.take_length, List.drop_length] at HWT
  obtain ⟨W, hW, HA, HZ, HB, hs⟩ := two_open w 25 25 #[.int .u32 (c.toNat : Int), va, vd] #[.int .u32 0, .slice none 0 0, .slice none 0 0]
  have HV := Lib.hid (h1.below HB.out)
  have HD := Lib.hid (h2.below HB.out)
  have HCO := Lib.hid (fun W h h' => copied_any c ab du ha hd va vd W h h')
  have HHS := Lib.hid (fun W h h' => has_any c ab du ha hd va vd W h h' n)
  rw [hhas] at HHS
  obtain ⟨A, k, rfl, -, -, -⟩ := id HV.out
  obtain ⟨A', k', rfl, -, -, -⟩ := id HD.out
  clear h1 h2
  go_enter Try.func13, Try.ntmps13
  go_wp2_with (first
    | ((with_reducible refine gate9 ?_); refine ldB (ty := 25) rfl rfl rfl HA.out Try.underlying25 rfl infoG ?_))
  refine (HCO.out _ HV.out HD.out).mono ?_
  rintro e w2 ⟨va5, vd5, rfl, hra, hrd, hfa, hfd, hb⟩
  obtain ⟨A5, k5, rfl, -, -, -⟩ := id hra
  obtain ⟨A6, k6, rfl, -, -, -⟩ := id hrd
  have HRA := Lib.hid hra
  have HRD := Lib.hid hrd
  have HFA := Lib.hid hfa
  have HFD := Lib.hid hfd
  replace HA := Lib.hid (HA.out.later hb); replace HZ := Lib.hid (HZ.out.later hb); replace HV := Lib.hid (HV.out.below hb); replace HD := Lib.hid (HD.out.below hb); replace HB := Lib.hid (HB.out.trans (hb.mono HB.out.size)); 
  have hs2 := hb.size
  have HRA0 := Lib.hid hra
  have HRD0 := Lib.hid hrd
  clear hra hrd hfa hfd hb HCO hW
  obtain ⟨W3, hW3, HQ, HB3, hs3⟩ := one_open w2 25 #[.int .u32 0, .slice none 0 0, .slice none 0 0]
  obtain ⟨gq, hgq⟩ : ∃ g, w2.heap.size = g := ⟨_, rfl⟩
  rw [hgq] at HQ
  go_wp2_with (first
    | ((with_reducible refine gate9 ?_); refine stB (ty := 25) #[.int .u32 (c.toNat : Int), .slice A5 ab.length k5, .slice A6 du.length k6] rfl rfl rfl rfl HQ.out infoG rfl (cellsG_one _ _ _ _ _ _ _) ?_; intro w4 ht hg; replace HB3 := Lib.hid (below_of_grown1 HB3.out hg HB3.out.size (Nat.le_of_eq hgq)); replace HQ := Lib.hid ht; clear ht hg; replace HA := Lib.hid (HA.out.later HB3.out); replace HZ := Lib.hid (HZ.out.later HB3.out); replace HV := Lib.hid (HV.out.below HB3.out); replace HD := Lib.hid (HD.out.below HB3.out); replace HRA := Lib.hid (HRA.out.below HB3.out); replace HRD := Lib.hid (HRD.out.below HB3.out); replace HB := Lib.hid (HB.out.trans (HB3.out.mono HB.out.size)); have c0 := HA.out.cell 0 (.int .u32 (c.toNat : Int)) rfl; have c1 := HA.out.cell 1 (.slice A ab.length k) rfl; have c2 := HA.out.cell 2 (.slice A' du.length k') rfl; have d0 := HQ.out.cell 0 (.int .u32 (c.toNat : Int)) rfl; have d1 := HQ.out.cell 1 (.slice A5 ab.length k5) rfl; have d2 := HQ.out.cell 2 (.slice A6 du.length k6) rfl; skip)
    | (go_at_call 16; (with_reducible refine (HHS.out _ HV.out HD.out).mono ?_); rintro e w5 ⟨rfl, hb⟩; replace HA := Lib.hid (HA.out.later hb); replace HZ := Lib.hid (HZ.out.later hb); replace HQ := Lib.hid (HQ.out.later hb); replace HV := Lib.hid (HV.out.below hb); replace HD := Lib.hid (HD.out.below hb); replace HRA := Lib.hid (HRA.out.below hb); replace HRD := Lib.hid (HRD.out.below hb); replace HB := Lib.hid (HB.out.trans (hb.mono HB.out.size)); replace HB3 := Lib.hid (HB3.out.trans (hb.mono HB3.out.size)); clear c0 c1 c2 d0 d1 d2; have c0 := HA.out.cell 0 (.int .u32 (c.toNat : Int)) rfl; have c1 := HA.out.cell 1 (.slice A ab.length k) rfl; have c2 := HA.out.cell 2 (.slice A' du.length k') rfl; have d0 := HQ.out.cell 0 (.int .u32 (c.toNat : Int)) rfl; have d1 := HQ.out.cell 1 (.slice A5 ab.length k5) rfl; have d2 := HQ.out.cell 2 (.slice A6 du.length k6) rfl; clear hb)
    | ((with_reducible refine gate9 ?_); refine ldB (ty := 25) rfl rfl rfl HA.out Try.underlying25 rfl infoG ?_))
  refine (HWT.out _ HD.out).mono ?_
  rintro e w6 ⟨v6, rfl, ho6, hb⟩
  have HO6 := Lib.hid ho6
  have HF6 := Lib.hid (freshE_ownG ho6)
  have HR6 := Lib.hid (rowE_of_ownG ho6)
  obtain ⟨A7, k7, rfl, -, -, -⟩ := ho6.slice
  clear ho6 HWT c0 c1 c2 d0 d1 d2
  have hq6 := HQ.out.lt
  replace HA := Lib.hid (HA.out.later hb); replace HZ := Lib.hid (HZ.out.later hb); replace HQ := Lib.hid (HQ.out.later hb); replace HV := Lib.hid (HV.out.below hb); replace HD := Lib.hid (HD.out.below hb); replace HRA := Lib.hid (HRA.out.below hb); replace HRD := Lib.hid (HRD.out.below hb); replace HB := Lib.hid (HB.out.trans (hb.mono HB.out.size)); replace HB3 := Lib.hid (HB3.out.trans (hb.mono HB3.out.size))
  have d0 := HQ.out.cell 0 (.int .u32 (c.toNat : Int)) rfl; have d1 := HQ.out.cell 1 (.slice A5 ab.length k5) rfl; have d2 := HQ.out.cell 2 (.slice A6 du.length k6) rfl; 
  clear hb
  go_wp2_with (first
    | ((with_reducible refine gate9 ?_); refine stF (.slice A7 (du.length + 1) k7) rfl rfl rfl rfl HQ.out (by show 2 < 3; decide) infoS rfl ?_; intro w8 ht hg; replace HB3 := Lib.hid (below_of_grown1 HB3.out hg HB3.out.size (Nat.le_of_eq hgq)); have HRA8 := Lib.hid (HRA0.out.below HB3.out); have HR8 := Lib.hid (HR6.out.stays HF6.out hg hq6); have HZ8 := Lib.hid (HZ.out.kept hg (by omega)); have HB8 := Lib.hid (below_of_grown1 HB.out hg HB.out.size (by omega)); have HQ8 := Lib.hid ht; clear ht hg d0 d1 d2)
    | ((with_reducible refine gate9 ?_); refine ldB (ty := 25) rfl rfl rfl HQ8.out Try.underlying25 rfl infoG ?_)
    | ((with_reducible refine gate9 ?_); refine stB (ty := 25) #[.int .u32 (c.toNat : Int), .slice A5 ab.length k5, .slice A7 (du.length + 1) k7] rfl rfl rfl rfl HZ8.out infoG rfl (cellsG_one _ _ _ _ _ _ _) ?_; intro w9 ht hg; have HB9 := Lib.hid (below_of_grown1 HB8.out hg HB8.out.size (by omega)); have HRA9 := Lib.hid (HRA8.out.stays HFA.out hg (by omega)); have HR9 := Lib.hid (HR8.out.stays HF6.out hg (by omega)); have HZ9 := Lib.hid ht; clear ht hg))
  exact bodyPost_ret (retG1 rfl rfl rfl rfl HZ9.out) rfl ⟨_, _, rfl, HRA9.out, by have h9 := HR9.out; simpa using h9, HFA.out.less (by omega), by have h9 := HF6.out.less (show w.heap.size ≤ w5.heap.size by omega); simpa using h9, HB9.out⟩
set_option maxHeartbeats 4000000 in
theorem take_next (c : UInt32) (ab du : List UInt32) (ha : ab.length ≤ 1000000) (hd : du.length ≤ 1000000) (va vd : Value) (w : World) (h1 : RowE enc32 w va ab) (h2 : RowE enc32 w vd du) (n : UInt32) (hhas : hasB ⟨c, ab, du⟩ n = false) (hwi : within32 (n.toNat : Int) ((c + 1).toNat : Int) ((c + 4000).toNat : Int) = true) (hn : n = c + 1) : Calls Try.prog 13 #[.agg #[.int .u32 (c.toNat : Int), va, vd], .int .u32 (n.toNat : Int)] w (TookG w (⟨(follow n ab).1, (follow n ab).2, du⟩, true)) := by
  have HFO := Lib.hid (fun v W h => follow_any ab ha v n W h)
  generalize follow n ab = R at *
  obtain ⟨cN, rN⟩ := R
  dsimp only at HFO
  have hx1 := n.toNat_lt
  have hx2 := (c + 1).toNat_lt
  have hx3 := (c + 4000).toNat_lt
  have HWI := Lib.hid (fun W => within_any (n.toNat : Int) ((c + 1).toNat : Int) ((c + 4000).toNat : Int) (by omega) (by omega) (by omega) (by omega) (by omega) (by omega) W)
  rw [hwi] at HWI
  have s1 := add1_toNat c
  have s2 : ((c.toNat : Int) + 4000) % 4294967296 = ((c + 4000).toNat : Int) := add_toNat32 c 4000
  have q1 : ((n.toNat : Int) == ((c + 1).toNat : Int)) = true := by rw [hn]; simp
  clear hx1 hx2 hx3 hwi hn
  generalize (c + 1).toNat = x1 at *
  generalize (c + 4000).toNat = x2 at *
  obtain ⟨W, hW, HA, HZ, HB, hs⟩ := two_open w 25 25 #[.int .u32 (c.toNat : Int), va, vd] #[.int .u32 0, .slice none 0 0, .slice none 0 0]
  have HV := Lib.hid (h1.below HB.out)
  have HD := Lib.hid (h2.below HB.out)
  have HCO := Lib.hid (fun W h h' => copied_any c ab du ha hd va vd W h h')
  have HHS := Lib.hid (fun W h h' => has_any c ab du ha hd va vd W h h' n)
  rw [hhas] at HHS
  obtain ⟨A, k, rfl, -, -, -⟩ := id HV.out
  obtain ⟨A', k', rfl, -, -, -⟩ := id HD.out
  clear h1 h2
  go_enter Try.func13, Try.ntmps13
  go_wp2_with (first
    | ((with_reducible refine gate9 ?_); refine ldB (ty := 25) rfl rfl rfl HA.out Try.underlying25 rfl infoG ?_))
  refine (HCO.out _ HV.out HD.out).mono ?_
  rintro e w2 ⟨va5, vd5, rfl, hra, hrd, hfa, hfd, hb⟩
  obtain ⟨A5, k5, rfl, -, -, -⟩ := id hra
  obtain ⟨A6, k6, rfl, -, -, -⟩ := id hrd
  have HRA := Lib.hid hra
  have HRD := Lib.hid hrd
  have HFA := Lib.hid hfa
  have HFD := Lib.hid hfd
  replace HA := Lib.hid (HA.out.later hb); replace HZ := Lib.hid (HZ.out.later hb); replace HV := Lib.hid (HV.out.below hb); replace HD := Lib.hid (HD.out.below hb); replace HB := Lib.hid (HB.out.trans (hb.mono HB.out.size)); 
  have hs2 := hb.size
  have HRA0 := Lib.hid hra
  have HRD0 := Lib.hid hrd
  clear hra hrd hfa hfd hb HCO hW
  obtain ⟨W3, hW3, HQ, HB3, hs3⟩ := one_open w2 25 #[.int .u32 0, .slice none 0 0, .slice none 0 0]
  obtain ⟨gq, hgq⟩ : ∃ g, w2.heap.size = g := ⟨_, rfl⟩
  rw [hgq] at HQ
  go_wp2_with (first
    | ((with_reducible refine gate9 ?_); refine stB (ty := 25) #[.int .u32 (c.toNat : Int), .slice A5 ab.length k5, .slice A6 du.length k6] rfl rfl rfl rfl HQ.out infoG rfl (cellsG_one _ _ _ _ _ _ _) ?_; intro w4 ht hg; replace HB3 := Lib.hid (below_of_grown1 HB3.out hg HB3.out.size (Nat.le_of_eq hgq)); replace HQ := Lib.hid ht; clear ht hg; replace HA := Lib.hid (HA.out.later HB3.out); replace HZ := Lib.hid (HZ.out.later HB3.out); replace HV := Lib.hid (HV.out.below HB3.out); replace HD := Lib.hid (HD.out.below HB3.out); replace HRA := Lib.hid (HRA.out.below HB3.out); replace HRD := Lib.hid (HRD.out.below HB3.out); replace HB := Lib.hid (HB.out.trans (HB3.out.mono HB.out.size)); have c0 := HA.out.cell 0 (.int .u32 (c.toNat : Int)) rfl; have c1 := HA.out.cell 1 (.slice A ab.length k) rfl; have c2 := HA.out.cell 2 (.slice A' du.length k') rfl; have d0 := HQ.out.cell 0 (.int .u32 (c.toNat : Int)) rfl; have d1 := HQ.out.cell 1 (.slice A5 ab.length k5) rfl; have d2 := HQ.out.cell 2 (.slice A6 du.length k6) rfl; skip)
    | (go_at_call 16; (with_reducible refine (HHS.out _ HV.out HD.out).mono ?_); rintro e w5 ⟨rfl, hb⟩; replace HA := Lib.hid (HA.out.later hb); replace HZ := Lib.hid (HZ.out.later hb); replace HQ := Lib.hid (HQ.out.later hb); replace HV := Lib.hid (HV.out.below hb); replace HD := Lib.hid (HD.out.below hb); replace HRA := Lib.hid (HRA.out.below hb); replace HRD := Lib.hid (HRD.out.below hb); replace HB := Lib.hid (HB.out.trans (hb.mono HB.out.size)); replace HB3 := Lib.hid (HB3.out.trans (hb.mono HB3.out.size)); clear c0 c1 c2 d0 d1 d2; have c0 := HA.out.cell 0 (.int .u32 (c.toNat : Int)) rfl; have c1 := HA.out.cell 1 (.slice A ab.length k) rfl; have c2 := HA.out.cell 2 (.slice A' du.length k') rfl; have d0 := HQ.out.cell 0 (.int .u32 (c.toNat : Int)) rfl; have d1 := HQ.out.cell 1 (.slice A5 ab.length k5) rfl; have d2 := HQ.out.cell 2 (.slice A6 du.length k6) rfl; clear hb)
    | (go_at_call 33; (with_reducible refine (HWI.out _).mono ?_); rintro e w5 ⟨rfl, rfl⟩)
    | ((with_reducible refine gate9 ?_); refine ldB (ty := 25) rfl rfl rfl HA.out Try.underlying25 rfl infoG ?_))
  refine (HFO.out _ _ HRA.out).mono ?_
  rintro e w6 ⟨v6, rfl, hr6, hf6, he6, hb⟩
  obtain ⟨A7, k7, rfl, -, -, -⟩ := id hr6
  have HF6 := Lib.hid (hf6 _ HFA.out)
  have HE6 := Lib.hid (fun W h => he6 W h)
  clear hr6 hf6 he6 HFO c0 c1 c2 d0 d1 d2
  replace HA := Lib.hid (HA.out.later hb); replace HZ := Lib.hid (HZ.out.later hb); replace HQ := Lib.hid (HQ.out.later hb); replace HV := Lib.hid (HV.out.below hb); replace HD := Lib.hid (HD.out.below hb); replace HRA := Lib.hid (HRA.out.below hb); replace HRD := Lib.hid (HRD.out.below hb); replace HB := Lib.hid (HB.out.trans (hb.mono HB.out.size)); replace HB3 := Lib.hid (HB3.out.trans (hb.mono HB3.out.size))
  have d0 := HQ.out.cell 0 (.int .u32 (c.toNat : Int)) rfl; have d1 := HQ.out.cell 1 (.slice A5 ab.length k5) rfl; have d2 := HQ.out.cell 2 (.slice A6 du.length k6) rfl; 
  clear hb
  go_wp2_with (first
    | ((with_reducible refine gate9 ?_); refine stF (.int .u32 (cN.toNat : Int)) rfl rfl rfl rfl HQ.out (by show 0 < 3; decide) infoU rfl ?_; intro w7 ht hg; replace HB3 := Lib.hid (below_of_grown1 HB3.out hg HB3.out.size (Nat.le_of_eq hgq)); replace HZ := Lib.hid (HZ.out.kept hg (by omega)); replace HB := Lib.hid (below_of_grown1 HB.out hg HB.out.size (by omega)); clear d0 d1 d2; have HQ7 := Lib.hid ht; clear ht hg)
    | ((with_reducible refine gate9 ?_); refine stF (.slice A7 rN.length k7) rfl rfl rfl rfl HQ7.out (by show 1 < 3; decide) infoS rfl ?_; intro w8 ht hg; replace HB3 := Lib.hid (below_of_grown1 HB3.out hg HB3.out.size (Nat.le_of_eq hgq)); replace HZ := Lib.hid (HZ.out.kept hg (by omega)); replace HB := Lib.hid (below_of_grown1 HB.out hg HB.out.size (by omega)); have HQ8 := Lib.hid ht; clear ht hg)
    | ((with_reducible refine gate9 ?_); refine ldB (ty := 25) rfl rfl rfl HQ8.out Try.underlying25 rfl infoG ?_)
    | ((with_reducible refine gate9 ?_); refine stB (ty := 25) #[.int .u32 (cN.toNat : Int), .slice A7 rN.length k7, .slice A6 du.length k6] rfl rfl rfl rfl HZ.out infoG rfl (cellsG_one _ _ _ _ _ _ _) ?_; intro w9 ht hg; have HB9 := Lib.hid (below_of_grown1 HB.out hg HB.out.size (by omega)); have HR9 := Lib.hid ((HE6.out _ (HRA0.out.below HB3.out)).stays HF6.out hg (by omega)); have HRD9 := Lib.hid ((HRD0.out.below HB3.out).stays HFD.out hg (by omega)); have HZ9 := Lib.hid ht; clear ht hg))
  exact bodyPost_ret (retG1 rfl rfl rfl rfl HZ9.out) rfl ⟨_, _, rfl, HR9.out, HRD9.out, HF6.out.less (by omega), HFD.out.less (by omega), HB9.out⟩
set_option maxHeartbeats 4000000 in
theorem take_in (c : UInt32) (ab du : List UInt32) (ha : ab.length ≤ 1000000) (hd : du.length ≤ 1000000) (va vd : Value) (w : World) (h1 : RowE enc32 w va ab) (h2 : RowE enc32 w vd du) (n : UInt32) (hhas : hasB ⟨c, ab, du⟩ n = false) (hwi : within32 (n.toNat : Int) ((c + 1).toNat : Int) ((c + 4000).toNat : Int) = true) (hn : ¬ n = c + 1) (hr : RightG ⟨c, ab, du⟩) (hnear : key c n ≤ 4000) : Calls Try.prog 13 #[.agg #[.int .u32 (c.toNat : Int), va, vd], .int .u32 (n.toNat : Int)] w (TookG w (⟨c, ins c n ab, du⟩, true)) := by
  have HPL := Lib.hid (fun W h h' => place_any c ab du ha hd va vd W h h' n hr hhas hnear)
  have HST := Lib.hid hr.strict
  have HWT := Lib.hid (fun t (ht : t ≤ ab.length) W h => with_any ab ha t ht n va W h)
  clear hr hnear
  have hx1 := n.toNat_lt
  have hx2 := (c + 1).toNat_lt
  have hx3 := (c + 4000).toNat_lt
  have HWI := Lib.hid (fun W => within_any (n.toNat : Int) ((c + 1).toNat : Int) ((c + 4000).toNat : Int) (by omega) (by omega) (by omega) (by omega) (by omega) (by omega) W)
  rw [hwi] at HWI
  have s1 := add1_toNat c
  have s2 : ((c.toNat : Int) + 4000) % 4294967296 = ((c + 4000).toNat : Int) := add_toNat32 c 4000
  have q1 : ((n.toNat : Int) == ((c + 1).toNat : Int)) = false := by rw [beq_eq_false_iff_ne]; exact fun h => hn (UInt32.toNat_inj.1 (by omega))
  clear hx1 hx2 hx3 hwi hn
  generalize (c + 1).toNat = x1 at *
  generalize (c + 4000).toNat = x2 at *
  obtain ⟨W, hW, HA, HZ, HB, hs⟩ := two_open w 25 25 #[.int .u32 (c.toNat : Int), va, vd] #[.int .u32 0, .slice none 0 0, .slice none 0 0]
  have HV := Lib.hid (h1.below HB.out)
  have HD := Lib.hid (h2.below HB.out)
  have HCO := Lib.hid (fun W h h' => copied_any c ab du ha hd va vd W h h')
  have HHS := Lib.hid (fun W h h' => has_any c ab du ha hd va vd W h h' n)
  rw [hhas] at HHS
  obtain ⟨A, k, rfl, -, -, -⟩ := id HV.out
  obtain ⟨A', k', rfl, -, -, -⟩ := id HD.out
  clear h1 h2
  go_enter Try.func13, Try.ntmps13
  go_wp2_with (first
    | ((with_reducible refine gate9 ?_); refine ldB (ty := 25) rfl rfl rfl HA.out Try.underlying25 rfl infoG ?_))
  refine (HCO.out _ HV.out HD.out).mono ?_
  rintro e w2 ⟨va5, vd5, rfl, hra, hrd, hfa, hfd, hb⟩
  obtain ⟨A5, k5, rfl, -, -, -⟩ := id hra
  obtain ⟨A6, k6, rfl, -, -, -⟩ := id hrd
  have HRA := Lib.hid hra
  have HRD := Lib.hid hrd
  have HFA := Lib.hid hfa
  have HFD := Lib.hid hfd
  replace HA := Lib.hid (HA.out.later hb); replace HZ := Lib.hid (HZ.out.later hb); replace HV := Lib.hid (HV.out.below hb); replace HD := Lib.hid (HD.out.below hb); replace HB := Lib.hid (HB.out.trans (hb.mono HB.out.size)); 
  have hs2 := hb.size
  have HRA0 := Lib.hid hra
  have HRD0 := Lib.hid hrd
  clear hra hrd hfa hfd hb HCO hW
  obtain ⟨W3, hW3, HQ, HB3, hs3⟩ := one_open w2 25 #[.int .u32 0, .slice none 0 0, .slice none 0 0]
  obtain ⟨gq, hgq⟩ : ∃ g, w2.heap.size = g := ⟨_, rfl⟩
  rw [hgq] at HQ
  go_wp2_with (first
    | ((with_reducible refine gate9 ?_); refine stB (ty := 25) #[.int .u32 (c.toNat : Int), .slice A5 ab.length k5, .slice A6 du.length k6] rfl rfl rfl rfl HQ.out infoG rfl (cellsG_one _ _ _ _ _ _ _) ?_; intro w4 ht hg; replace HB3 := Lib.hid (below_of_grown1 HB3.out hg HB3.out.size (Nat.le_of_eq hgq)); replace HQ := Lib.hid ht; clear ht hg; replace HA := Lib.hid (HA.out.later HB3.out); replace HZ := Lib.hid (HZ.out.later HB3.out); replace HV := Lib.hid (HV.out.below HB3.out); replace HD := Lib.hid (HD.out.below HB3.out); replace HRA := Lib.hid (HRA.out.below HB3.out); replace HRD := Lib.hid (HRD.out.below HB3.out); replace HB := Lib.hid (HB.out.trans (HB3.out.mono HB.out.size)); have c0 := HA.out.cell 0 (.int .u32 (c.toNat : Int)) rfl; have c1 := HA.out.cell 1 (.slice A ab.length k) rfl; have c2 := HA.out.cell 2 (.slice A' du.length k') rfl; have d0 := HQ.out.cell 0 (.int .u32 (c.toNat : Int)) rfl; have d1 := HQ.out.cell 1 (.slice A5 ab.length k5) rfl; have d2 := HQ.out.cell 2 (.slice A6 du.length k6) rfl; skip)
    | (go_at_call 16; (with_reducible refine (HHS.out _ HV.out HD.out).mono ?_); rintro e w5 ⟨rfl, hb⟩; replace HA := Lib.hid (HA.out.later hb); replace HZ := Lib.hid (HZ.out.later hb); replace HQ := Lib.hid (HQ.out.later hb); replace HV := Lib.hid (HV.out.below hb); replace HD := Lib.hid (HD.out.below hb); replace HRA := Lib.hid (HRA.out.below hb); replace HRD := Lib.hid (HRD.out.below hb); replace HB := Lib.hid (HB.out.trans (hb.mono HB.out.size)); replace HB3 := Lib.hid (HB3.out.trans (hb.mono HB3.out.size)); clear c0 c1 c2 d0 d1 d2; have c0 := HA.out.cell 0 (.int .u32 (c.toNat : Int)) rfl; have c1 := HA.out.cell 1 (.slice A ab.length k) rfl; have c2 := HA.out.cell 2 (.slice A' du.length k') rfl; have d0 := HQ.out.cell 0 (.int .u32 (c.toNat : Int)) rfl; have d1 := HQ.out.cell 1 (.slice A5 ab.length k5) rfl; have d2 := HQ.out.cell 2 (.slice A6 du.length k6) rfl; clear hb)
    | (go_at_call 33; (with_reducible refine (HWI.out _).mono ?_); rintro e w5 ⟨rfl, rfl⟩)
    | ((with_reducible refine gate9 ?_); refine ldB (ty := 25) rfl rfl rfl HA.out Try.underlying25 rfl infoG ?_))
  refine wp_region_noPanic ?_
  have HS : (fun V => Bx V w.heap.size 25 #[.int .u32 (c.toNat : Int), .slice A ab.length k, .slice A' du.length k'] ∧ Bx V (w.heap.size + 1) 25 #[.int .u32 0, .slice none 0 0, .slice none 0 0] ∧ Bx V gq 25 #[.int .u32 (c.toNat : Int), .slice A5 ab.length k5, .slice A6 du.length k6] ∧ RowE enc32 V (.slice A ab.length k) ab ∧ RowE enc32 V (.slice A' du.length k') du ∧ Below w.heap.size w V ∧ Below w2.heap.size w2 V ∧ gq < V.heap.size) _ := ⟨HA.out.drew, HZ.out.drew, HQ.out.drew, HV.out, HD.out, below_drawn HB.out, below_drawn HB3.out, HQ.out.lt⟩
  clear HA HZ HQ HV HD HB HB3 HRA HRD c0 c1 c2 d0 d1 d2 HHS
  refine wp_region_waits (S := (fun V => Bx V w.heap.size 25 #[.int .u32 (c.toNat : Int), .slice A ab.length k, .slice A' du.length k'] ∧ Bx V (w.heap.size + 1) 25 #[.int .u32 0, .slice none 0 0, .slice none 0 0] ∧ Bx V gq 25 #[.int .u32 (c.toNat : Int), .slice A5 ab.length k5, .slice A6 du.length k6] ∧ RowE enc32 V (.slice A ab.length k) ab ∧ RowE enc32 V (.slice A' du.length k') du ∧ Below w.heap.size w V ∧ Below w2.heap.size w2 V ∧ gq < V.heap.size)) [8] (by kernel_rfl) HS (fun hHeld => ?_)
  clear HS
  refine wpAnyW_take (i := 0) (v := ?_) (by simp only [List.getElem?_toArray, List.getElem?_cons_zero]; rfl) (by kernel_rfl) (by kernel_rfl) (by kernel_rfl) (by kernel_rfl) (by kernel_rfl) (fun _ _ _ h => h) (Or.inl ⟨by rfl, ?_⟩) (by assumption) ?_
  rotate_left 1
  · (intro w' hSw; go_simp; try with_reducible rfl)
  try simp only [Act.put, List.setIfInBounds_toArray, List.set_cons_zero, List.set_cons_succ]
  refine wpAnyW_take (i := 1) (v := ?_) (by simp only [List.getElem?_toArray, List.getElem?_cons_succ, List.getElem?_cons_zero]; rfl) (by kernel_rfl) (by kernel_rfl) (by kernel_rfl) (by kernel_rfl) (by kernel_rfl) (fun _ _ _ h => h) (Or.inl ⟨by rfl, ?_⟩) (by assumption) ?_
  rotate_left 1
  · (intro w' hSw; have hq : w'.cell? ⟨w.heap.size, 1, none⟩ = some (.slice A ab.length k) := hSw.1.cell 1 _ rfl; go_simp; try with_reducible rfl)
  try simp only [Act.put, List.setIfInBounds_toArray, List.set_cons_zero, List.set_cons_succ]
  refine wpAnyW_take (i := 2) (v := _) (by simp only [List.getElem?_toArray, List.getElem?_cons_succ, List.getElem?_cons_zero]; rfl) (by kernel_rfl) (by kernel_rfl) (by kernel_rfl) (by kernel_rfl) (by kernel_rfl) (fun _ _ _ h => h) (yB (ty := 25) (by rfl) rfl rfl (fun V h => h.1) Try.underlying25 rfl infoG) (by assumption) ?_
  try simp only [Act.put, List.setIfInBounds_toArray, List.set_cons_zero, List.set_cons_succ]
  refine wpAnyW_take (i := 3) (v := ?_) (by simp only [List.getElem?_toArray, List.getElem?_cons_succ, List.getElem?_cons_zero]; rfl) (by kernel_rfl) (by kernel_rfl) (by kernel_rfl) (by kernel_rfl) (by kernel_rfl) (fun _ _ _ h => h) (Or.inl ⟨by rfl, ?_⟩) (by assumption) ?_
  rotate_left 1
  · (intro w' hSw; go_simp; try with_reducible rfl)
  try simp only [Act.put, List.setIfInBounds_toArray, List.set_cons_zero, List.set_cons_succ]
  refine wpAnyW_take (i := 5) (v := ?_) (by simp only [List.getElem?_toArray, List.getElem?_cons_succ, List.getElem?_cons_zero]; rfl) (by kernel_rfl) (by kernel_rfl) (by kernel_rfl) (by kernel_rfl) (by kernel_rfl) (fun _ _ _ h => h) (Or.inl ⟨by rfl, ?_⟩) (by assumption) ?_
  rotate_left 1
  · (intro w' hSw; go_simp; try with_reducible rfl)
  try simp only [Act.put, List.setIfInBounds_toArray, List.set_cons_zero, List.set_cons_succ]
  refine wpAnyW_held (i := 4) (by kernel_rfl) (by simp only [List.getElem?_toArray, List.getElem?_cons_succ, List.getElem?_cons_zero]; rfl) (fun K hK => ?_)
  rw [if_pos (by rfl)]
  go_simp
  refine (HPL.out _ hHeld.2.2.2.1 hHeld.2.2.2.2.1).mono ?_
  rintro _ w5 ⟨t, rfl, hcu, hb⟩
  have HCU := Lib.hid hcu
  have HS := And.intro (hHeld.1.later hb) (And.intro (hHeld.2.1.later hb) (And.intro (hHeld.2.2.1.later hb) (And.intro (hHeld.2.2.2.1.below hb) (And.intro (hHeld.2.2.2.2.1.below hb) (And.intro (hHeld.2.2.2.2.2.1.trans (hb.mono hHeld.2.2.2.2.2.1.size)) (And.intro (hHeld.2.2.2.2.2.2.1.trans (hb.mono hHeld.2.2.2.2.2.2.1.size)) (Nat.lt_of_lt_of_le hHeld.2.2.2.2.2.2.2 hb.size)))))))
  clear hHeld hcu hb HPL
  go_wp2_with fail
  refine hK.out _ _ HS (fun hHeld => ?_)
  clear hK K HS
  try simp only [Act.put, List.setIfInBounds_toArray, List.set_cons_zero, List.set_cons_succ]
  refine wpAnyW_held (i := 6) (by kernel_rfl) (by simp only [List.getElem?_toArray, List.getElem?_cons_succ, List.getElem?_cons_zero]; rfl) (fun K hK => ?_)
  rw [if_pos (by rfl)]
  go_simp
  refine (HWT.out t HCU.out.len _ hHeld.2.2.2.1).mono ?_
  rintro _ w6 ⟨v6, rfl, ho6, hb⟩
  rw [cut_ins HST.out HCU.out] at ho6
  have HF6 := Lib.hid ((freshE_ownG ho6))
  have HR6 := Lib.hid (rowE_of_ownG ho6)
  have hgl := hHeld.2.2.2.2.2.2.2
  have HS := And.intro (hHeld.1.later hb) (And.intro (hHeld.2.1.later hb) (And.intro (hHeld.2.2.1.later hb) (And.intro (hHeld.2.2.2.1.below hb) (And.intro (hHeld.2.2.2.2.1.below hb) (And.intro (hHeld.2.2.2.2.2.1.trans (hb.mono hHeld.2.2.2.2.2.1.size)) (And.intro (hHeld.2.2.2.2.2.2.1.trans (hb.mono hHeld.2.2.2.2.2.2.1.size)) (Nat.lt_of_lt_of_le hHeld.2.2.2.2.2.2.2 hb.size)))))))
  obtain ⟨A7, k7, hv7, -, -, -⟩ := id HR6.out
  subst hv7
  clear hHeld ho6 hb HWT
  go_wp2_with fail
  refine hK.out _ _ HS (fun hHeld => ?_)
  clear hK K HS
  try simp only [Act.put, List.setIfInBounds_toArray, List.set_cons_zero, List.set_cons_succ]
  refine wpAnyW_take (i := 7) (v := ?_) (by simp only [List.getElem?_toArray, List.getElem?_cons_succ, List.getElem?_cons_zero]; rfl) (by kernel_rfl) (by kernel_rfl) (by kernel_rfl) (by kernel_rfl) (by kernel_rfl) (fun _ _ _ h => h) (Or.inl ⟨by rfl, ?_⟩) (by assumption) ?_
  rotate_left 1
  · (intro w' hSw; go_simp; try with_reducible rfl)
  try simp only [Act.put, List.setIfInBounds_toArray, List.set_cons_zero, List.set_cons_succ]
  refine wpAnyW_freed (i := 8) (by kernel_rfl) (by kernel_rfl) (by simp only [List.getElem?_toArray, List.getElem?_cons_succ, List.getElem?_cons_zero]; rfl) (fun K hK => ?_)
  rw [if_pos (by rfl)]
  refine wpF (.slice A7 (ins c n ab).length k7) rfl rfl rfl hHeld.2.2.1 (by show 1 < 3; decide) infoS rfl ?_
  intro w7 ht hg he
  clear he
  have hgq2 : W.heap.size ≤ gq := by omega
  have HQ8 := Lib.hid ht
  have HZ := Lib.hid (hHeld.2.1.kept hg (by omega))
  have HB := Lib.hid (below_of_grown1 hHeld.2.2.2.2.2.1 hg hHeld.2.2.2.2.2.1.size (by omega))
  have HB3 := Lib.hid (below_of_grown1 hHeld.2.2.2.2.2.2.1 hg hHeld.2.2.2.2.2.2.1.size (Nat.le_of_eq hgq))
  have HR7 := Lib.hid (HR6.out.stays HF6.out hg hgl)
  clear ht hg hHeld HR6
  refine hK.out _ _ ?_
  clear hK K
  try simp only [Act.put, List.setIfInBounds_toArray, List.set_cons_zero, List.set_cons_succ]
  refine wpAnyW_done (by kernel_rfl) ?_ _
  refine NoPanic.normal ?_
  go_wp2_with (first
    | ((with_reducible refine gate9 ?_); refine ldB (ty := 25) rfl rfl rfl HQ8.out Try.underlying25 rfl infoG ?_)
    | ((with_reducible refine gate9 ?_); refine stB (ty := 25) #[.int .u32 (c.toNat : Int), .slice A7 (ins c n ab).length k7, .slice A6 du.length k6] rfl rfl rfl rfl HZ.out infoG rfl (cellsG_one _ _ _ _ _ _ _) ?_; intro w9 ht hg; have HB9 := Lib.hid (below_of_grown1 HB.out hg HB.out.size (by omega)); have HR9 := Lib.hid (HR7.out.stays HF6.out hg (by omega)); have HRD9 := Lib.hid ((HRD0.out.below HB3.out).stays HFD.out hg (by omega)); have HZ9 := Lib.hid ht; clear ht hg))
  exact bodyPost_ret (retG1 rfl rfl rfl rfl HZ9.out) rfl ⟨_, _, rfl, HR9.out, HRD9.out, HF6.out.less (by omega), HFD.out.less (by omega), HB9.out⟩
end Go.Proofs.Ytfdnphkdpmlbnaa
