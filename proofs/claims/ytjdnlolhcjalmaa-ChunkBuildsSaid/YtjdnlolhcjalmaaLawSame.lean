/-
  Whether two chunks are the same, as the statements ask it: a contract.
-/
import Derived.Test.YtjdnlolhcjalmaaSame
namespace Go.Proofs.Ytjdnlolhcjalmaa
open Go.RowKit
set_option linter.unusedVariables false
set_option linter.unusedSimpArgs false
set_option maxRecDepth 100000

/-- Two chunks lie in two blocks, else as before. -/
structure TwoS (w : World) (a b : Ck) (g d it g' d' it' : Value) (W : World) : Prop where
  first : W.heap[w.heap.size]? = some (.cells (cellsC a g d it) 28 (0, 0))
  second : W.heap[w.heap.size + 1]? = some (.cells (cellsC b g' d' it') 28 (0, 0))
  pa : Parts W a g d it
  pb : Parts W b g' d' it'
  below : Below w.heap.size w W
section
variable {w W W' : World} {a b : Ck} {g d it g' d' it' : Value}
theorem TwoS.drew (h : TwoS w a b g d it g' d' it' W) : TwoS w a b g d it g' d' it' W.drew := ⟨h.first, h.second, h.pa.below (Below.refl _ _).drew, h.pb.below (Below.refl _ _).drew, h.below.drew⟩
theorem TwoS.range1 (h : TwoS w a b g d it g' d' it' W) : W.rangeAt w.heap.size 0 (cellsC a g d it).toList := by
  intro j v hj
  rw [Nat.zero_add, cell_in h.first]
  simpa using hj
theorem TwoS.range2 (h : TwoS w a b g d it g' d' it' W) : W.rangeAt (w.heap.size + 1) 0 (cellsC b g' d' it').toList := by
  intro j v hj
  rw [Nat.zero_add, cell_in h.second]
  simpa using hj
theorem TwoS.later (h : TwoS w a b g d it g' d' it' W) (hb : Below W.heap.size W W') : TwoS w a b g d it g' d' it' W' :=
  ⟨(hb.block _ (Array.getElem?_eq_some_iff.1 h.first).1).trans h.first, (hb.block _ (Array.getElem?_eq_some_iff.1 h.second).1).trans h.second, h.pa.below hb, h.pb.below hb, h.below.trans (hb.mono h.below.size)⟩
theorem twoS_new (w : World) (ha : Parts w a g d it) (hb : Parts w b g' d' it') : TwoS w a b g d it g' d' it' ((w.alloc (.cells (cellsC a g d it) 28)).alloc (.cells (cellsC b g' d' it') 28)) := by
  have e1 : (w.alloc (.cells (cellsC a g d it) 28)).heap.size = w.heap.size + 1 := World.size_alloc _ _
  have hB : Below w.heap.size w ((w.alloc (.cells (cellsC a g d it) 28)).alloc (.cells (cellsC b g' d' it') 28)) := ((Below.refl _ _).alloc (Nat.le_refl _) _).alloc (by omega) _
  refine ⟨?_, ?_, ha.below hB, hb.below hB, hB⟩
  · rw [Below.heap_alloc _ _ _ (by omega)]
    exact heap_alloc_new w _
  · rw [← e1]
    exact heap_alloc_new _ _
end
set_option maxHeartbeats 8000000 in
theorem same_any (a b : Ck) (h1 : a.gaps.length = b.gaps.length → a.gaps = b.gaps) (h2 : a.dups.length = b.dups.length → a.dups = b.dups) (h3 : a.items.length = b.items.length → a.items = b.items)
    (hg : a.gaps.length ≤ 100000) (hd : a.dups.length ≤ 100000) (hi : a.items.length ≤ 100000) (hi' : b.items.length ≤ 100000) (g d it g' d' it' : Value) (w : World) (hp : Parts w a g d it) (hp' : Parts w b g' d' it') :
    Calls Try.prog 18 #[.agg (cellsC a g d it), .agg (cellsC b g' d' it')] w fun e w' => e = .returned (.bool (sameB a b)) ∧ Below w.heap.size w w' := by
  have HCS := Lib.hid ckSize
  have HA := Lib.hid (fun W hp => as_any a hi g d it W hp)
  have HA' := Lib.hid (fun W hp => as_any b hi' g' d' it' W hp)
  have HF := Lib.hid (fun g d it g' d' it' W hp hp' => same7_any a b h1 h2 h3 hg hd hi g d it g' d' it' W hp hp')
  generalize sameB a b = q at *
  have HT := Lib.hid (twoS_new w hp hp')
  have HONE := Lib.hid hp.one
  have HONE' := Lib.hid hp'.one
  have hk := hp.slices
  have hk' := hp'.slices
  clear h1 h2 h3 hg hd hi hi' hp hp'
  obtain ⟨⟨A1, k1, rfl⟩, ⟨A2, k2, rfl⟩, ⟨A3, k3, rfl⟩⟩ := hk
  obtain ⟨⟨B1, l1, rfl⟩, ⟨B2, l2, rfl⟩, ⟨B3, l3, rfl⟩⟩ := hk'
  obtain ⟨ty, fl, tsn, tag, win, ppid, st, ssn, outs, ins, gaps, dups, items, text⟩ := a
  obtain ⟨ty', fl', tsn', tag', win', ppid', st', ssn', outs', ins', gaps', dups', items', text'⟩ := b
  dsimp only [cellsC] at *
  go_enter Try.func18, Try.ntmps18
  go_wp2_with fail
  refine wp_region_noPanic ?_
  refine wp_region_held_drew (S := (TwoS w ⟨ty, fl, tsn, tag, win, ppid, st, ssn, outs, ins, gaps, dups, items, text⟩ ⟨ty', fl', tsn', tag', win', ppid', st', ssn', outs', ins', gaps', dups', items', text'⟩ (.slice A1 gaps.length k1) (.slice A2 dups.length k2) (.slice A3 items.length k3) (.slice B1 gaps'.length l1) (.slice B2 dups'.length l2) (.slice B3 items'.length l3))) (by kernel_rfl) ?_ (fun hHeld => ?_)
  · exact HT.out.drew
  refine wpAnyH_take (i := 0) (v := _) (by simp only [List.getElem?_toArray, List.getElem?_cons_zero]; rfl) (by kernel_rfl) (by kernel_rfl) (by kernel_rfl) (fun _ _ _ h => h) (yieldsIf_load_mid (by rfl) 28 (.tmp 2) rfl _ 0 (by rfl) _ _ (fun W h => h.range1) Try.underlying28 rfl HCS.out) (by assumption) ?_
  try simp only [Act.put, List.setIfInBounds_toArray, List.set_cons_zero, List.set_cons_succ]
  refine wpAnyH_take (i := 2) (v := _) (by simp only [List.getElem?_toArray, List.getElem?_cons_succ, List.getElem?_cons_zero]; rfl) (by kernel_rfl) (by kernel_rfl) (by kernel_rfl) (fun _ _ _ h => h) (yieldsIf_load_mid (by rfl) 28 (.tmp 3) rfl _ 0 (by rfl) _ _ (fun W h => h.range2) Try.underlying28 rfl HCS.out) (by assumption) ?_
  try simp only [Act.put, List.setIfInBounds_toArray, List.set_cons_zero, List.set_cons_succ]
  refine wpAnyH_ready (rs := [1]) (by kernel_rfl) (by simp) ?_
  refine AllReadyH.cons (by simp only [List.getElem?_toArray, List.getElem?_cons_succ, List.getElem?_cons_zero]; rfl) (fun K hK => ?_) AllReadyH.nil
  go_simp
  refine (HA.out _ hHeld.pa).mono ?_
  rintro _ w6 ⟨g6, d6, it6, rfl, hp6, hb6⟩
  have hS := hHeld.later hb6
  have HP6 := Lib.hid hp6
  go_wp2_with fail
  refine hK.out _ _ ?_ (fun hHeld => ?_)
  · exact hS
  clear hK K
  try simp only [Act.put, List.setIfInBounds_toArray, List.set_cons_zero, List.set_cons_succ]
  refine wpAnyH_ready (rs := [3]) (by kernel_rfl) (by simp) ?_
  refine AllReadyH.cons (by simp only [List.getElem?_toArray, List.getElem?_cons_succ, List.getElem?_cons_zero]; rfl) (fun K hK => ?_) AllReadyH.nil
  go_simp
  refine (HA'.out _ hHeld.pb).mono ?_
  rintro _ w7 ⟨g7, d7, it7, rfl, hp7, hb7⟩
  have hS := hHeld.later hb7
  replace HP6 := Lib.hid (HP6.out.below hb7)
  have HP7 := Lib.hid hp7
  go_wp2_with fail
  refine hK.out _ _ ?_ (fun hHeld => ?_)
  · exact hS
  clear hK K
  try simp only [Act.put, List.setIfInBounds_toArray, List.set_cons_zero, List.set_cons_succ]
  refine wpAnyH_ready (rs := [4]) (by kernel_rfl) (by simp) ?_
  refine AllReadyH.cons (by simp only [List.getElem?_toArray, List.getElem?_cons_succ, List.getElem?_cons_zero]; rfl) (fun K hK => ?_) AllReadyH.nil
  go_simp
  refine (HF.out _ _ _ _ _ _ _ HP6.out HP7.out).mono ?_
  rintro _ w8 ⟨rfl, hb8⟩
  have hS := hHeld.later hb8
  go_wp2_with fail
  refine hK.out _ _ ?_ (fun hHeld => ?_)
  · exact hS
  clear hK K
  try simp only [Act.put, List.setIfInBounds_toArray, List.set_cons_zero, List.set_cons_succ]
  refine wpAnyH_take (i := 5) (v := ?_) (by simp only [List.getElem?_toArray, List.getElem?_cons_succ, List.getElem?_cons_zero]; rfl) (by kernel_rfl) (by kernel_rfl) (by kernel_rfl) (fun _ _ _ h => h) (Or.inl ⟨by rfl, ?_⟩) (by assumption) ?_
  rotate_left 1
  · (intro w' hSw; (try dsimp only at hSw); go_simp; try with_reducible rfl)
  try simp only [Act.put, List.setIfInBounds_toArray, List.set_cons_zero, List.set_cons_succ]
  refine wpAnyH_done (by kernel_rfl) ?_ _
  refine NoPanic.normal ?_
  have HE := Lib.hid hHeld.below
  clear hHeld
  go_wp2_with fail
  go_ret
  exact ⟨rfl, HE.out⟩
end Go.Proofs.Ytjdnlolhcjalmaa
