/-
  Package order: a copy of a queue: contract.
-/
import Derived.Test.YtondgdacjbfihaaOd
namespace Go.Proofs.Ytondgdacjbfihaa
open Go.RowKit
set_option linter.unusedVariables false
set_option linter.unusedSimpArgs false
set_option maxRecDepth 100000

theorem retQ {fn : Func} {p : Tmp} (h : fn.results = #[.cell p 27]) {tmps : Array Value} {w : World} {g : Nat} {cs : Array Value} (hz : cs.size = 2) (hp : tmps.getD p undef = .pointer (some ⟨g, 0, none⟩)) (hg : Bx w g 27 cs) : (results fn tmps).run Try.prog w = .ok (.agg cs) w :=
  ret_cell h hp hg Try.underlying27 rfl (by rw [hz]; exact infoQ)
/-- A queue of the call's own: its numbers and what waits, in blocks of their own. -/
structure OwnQ (W : World) (B : Nat) (A1 A2 : Option Addr) (c1 c2 : Nat) (nx : List UInt16) (wt : List Mg) : Prop where
  nums : W.ownsRow B 38 1 (.slice A1 nx.length c1) nx.length (nx.map enc16)
  wait : W.ownsRow B 40 6 (.slice A2 wt.length c2) wt.length (flatM wt)
  ne : ∀ a b, A1 = some a → A2 = some b → a.block ≠ b.block
set_option maxHeartbeats 4000000 in
theorem copied_any (nx : List UInt16) (wt : List Mg) (h1 : nx.length ≤ 100000) (h2 : wt.length ≤ 100000) (vn v : Value) (w : World) (hn : RowE enc16 w vn nx) (hw : RowM w v wt) :
    Calls Try.prog 24 #[.agg #[vn, v]] w fun e w' => ∃ A1 c1 A2 c2, e = .returned (.agg #[.slice A1 nx.length c1, .slice A2 wt.length c2]) ∧ OwnQ w' w.heap.size A1 A2 c1 c2 nx wt ∧ Below w.heap.size w w' := by
  obtain ⟨W, hW, HQ, HR, HB, hs⟩ := two_open w 27 27 #[vn, v] #[.slice none 0 0, .slice none 0 0]
  have HC1 := Lib.hid (fun V W h => clone16 nx (by omega) V W h)
  have HC2 := Lib.hid (fun V W h => clone_any wt h2 V W h)
  have HN := Lib.hid hn
  have HW := Lib.hid hw
  obtain ⟨A, cap, rfl, _, _, _⟩ := id hn
  obtain ⟨A', cap', rfl, _, _, _⟩ := id hw
  clear hn hw
  go_enter Try.func24, Try.ntmps24
  go_wp2_with fail
  have HS : (fun U => Bx U w.heap.size 27 #[.slice A nx.length cap, .slice A' wt.length cap'] ∧ Bx U (w.heap.size + 1) 27 #[.slice none 0 0, .slice none 0 0] ∧ Below w.heap.size w U) _ := ⟨HQ.out.drew, HR.out.drew, below_drawn HB.out⟩
  refine wp_region_noPanic ?_
  refine wp_region_waits (S := (fun U => Bx U w.heap.size 27 #[.slice A nx.length cap, .slice A' wt.length cap'] ∧ Bx U (w.heap.size + 1) 27 #[.slice none 0 0, .slice none 0 0] ∧ Below w.heap.size w U)) [7] (by kernel_rfl) HS (fun hHeld => ?_)
  clear HS
  refine wpAnyW_take (i := 0) (v := ?_) (by simp only [List.getElem?_toArray, List.getElem?_cons_zero]; rfl) (by kernel_rfl) (by kernel_rfl) (by kernel_rfl) (by kernel_rfl) (by kernel_rfl) (fun _ _ _ h => h) (Or.inl ⟨by rfl, ?_⟩) (by assumption) ?_
  rotate_left 1
  · (intro w' hSw; go_simp; try with_reducible rfl)
  try simp only [Act.put, List.setIfInBounds_toArray, List.set_cons_zero, List.set_cons_succ]
  refine wpAnyW_take (i := 1) (v := ?_) (by simp only [List.getElem?_toArray, List.getElem?_cons_succ, List.getElem?_cons_zero]; rfl) (by kernel_rfl) (by kernel_rfl) (by kernel_rfl) (by kernel_rfl) (by kernel_rfl) (fun _ _ _ h => h) (Or.inl ⟨by rfl, ?_⟩) (by assumption) ?_
  rotate_left 1
  · (intro w' hSw; have hq := hSw.1.cell 0 (.slice A nx.length cap) rfl; go_simp; try with_reducible rfl)
  try simp only [Act.put, List.setIfInBounds_toArray, List.set_cons_zero, List.set_cons_succ]
  refine wpAnyW_take (i := 3) (v := ?_) (by simp only [List.getElem?_toArray, List.getElem?_cons_succ, List.getElem?_cons_zero]; rfl) (by kernel_rfl) (by kernel_rfl) (by kernel_rfl) (by kernel_rfl) (by kernel_rfl) (fun _ _ _ h => h) (Or.inl ⟨by rfl, ?_⟩) (by assumption) ?_
  rotate_left 1
  · (intro w' hSw; go_simp; try with_reducible rfl)
  try simp only [Act.put, List.setIfInBounds_toArray, List.set_cons_zero, List.set_cons_succ]
  refine wpAnyW_take (i := 4) (v := ?_) (by simp only [List.getElem?_toArray, List.getElem?_cons_succ, List.getElem?_cons_zero]; rfl) (by kernel_rfl) (by kernel_rfl) (by kernel_rfl) (by kernel_rfl) (by kernel_rfl) (fun _ _ _ h => h) (Or.inl ⟨by rfl, ?_⟩) (by assumption) ?_
  rotate_left 1
  · (intro w' hSw; have hq := hSw.1.cell 1 (.slice A' wt.length cap') rfl; go_simp; try with_reducible rfl)
  try simp only [Act.put, List.setIfInBounds_toArray, List.set_cons_zero, List.set_cons_succ]
  refine wpAnyW_held (i := 2) (by kernel_rfl) (by simp only [List.getElem?_toArray, List.getElem?_cons_succ, List.getElem?_cons_zero]; rfl) (fun K hK => ?_)
  rw [if_pos (by rfl)]
  go_simp
  refine (HC1.out _ _ (HN.out.below hHeld.2.2)).mono ?_
  rintro _ w5 ⟨v5, rfl, hown, hb⟩
  have HS : (fun U => Bx U w.heap.size 27 #[.slice A nx.length cap, .slice A' wt.length cap'] ∧ Bx U (w.heap.size + 1) 27 #[.slice none 0 0, .slice none 0 0] ∧ Below w.heap.size w U) _ := ⟨hHeld.1.later hb, hHeld.2.1.later hb, hHeld.2.2.trans (hb.mono hHeld.2.2.size)⟩
  have HO5 := Lib.hid (own_base hown (show w.heap.size + 2 ≤ _ from hHeld.2.1.lt))
  clear hHeld hown hb
  go_wp2_with fail
  refine hK.out _ _ HS (fun hHeld => ?_)
  clear hK K HS
  try simp only [Act.put, List.setIfInBounds_toArray, List.set_cons_zero, List.set_cons_succ]
  refine wpAnyW_held (i := 5) (by kernel_rfl) (by simp only [List.getElem?_toArray, List.getElem?_cons_succ, List.getElem?_cons_zero]; rfl) (fun K hK => ?_)
  rw [if_pos (by rfl)]
  go_simp
  refine (HC2.out _ _ (HW.out.below hHeld.2.2)).mono ?_
  rintro _ w8 ⟨v8, rfl, hown, hb⟩
  have HS : (fun U => Bx U w.heap.size 27 #[.slice A nx.length cap, .slice A' wt.length cap'] ∧ Bx U (w.heap.size + 1) 27 #[.slice none 0 0, .slice none 0 0] ∧ Below w.heap.size w U) _ := ⟨hHeld.1.later hb, hHeld.2.1.later hb, hHeld.2.2.trans (hb.mono hHeld.2.2.size)⟩
  have HLT := Lib.hid (fun k (hk : v5.ownBlock = some k) => (HO5.out.lt k hk).2)
  have HF8 := Lib.hid (fresh_own hown)
  replace HO5 := Lib.hid (ownM_below HO5.out hb)
  have HO8 := Lib.hid (own_base hown (show w.heap.size + 2 ≤ _ from hHeld.2.1.lt))
  clear hHeld hown hb
  go_wp2_with fail
  refine hK.out _ _ HS (fun hHeld => ?_)
  clear hK K HS
  try simp only [Act.put, List.setIfInBounds_toArray, List.set_cons_zero, List.set_cons_succ]
  obtain ⟨A5, k5, rfl, -, -, -⟩ := own_slice HO5.out
  obtain ⟨A8, k8, rfl, -, -, -⟩ := own_slice HO8.out
  refine wpAnyW_take (i := 6) (v := ?_) (by simp only [List.getElem?_toArray, List.getElem?_cons_succ, List.getElem?_cons_zero]; rfl) (by kernel_rfl) (by kernel_rfl) (by kernel_rfl) (by kernel_rfl) (by kernel_rfl) (fun _ _ _ h => h) (Or.inl ⟨by rfl, ?_⟩) (by assumption) ?_
  rotate_left 1
  · (intro w' hSw; go_simp; try with_reducible rfl)
  try simp only [Act.put, List.setIfInBounds_toArray, List.set_cons_zero, List.set_cons_succ]
  refine wpAnyW_freed (i := 7) (by kernel_rfl) (by kernel_rfl) (by simp only [List.getElem?_toArray, List.getElem?_cons_succ, List.getElem?_cons_zero]; rfl) (fun K hK => ?_)
  rw [if_pos (by rfl)]
  refine wpB (ty := 27) #[.slice A5 nx.length k5, .slice A8 wt.length k8] rfl rfl rfl hHeld.2.1 infoQ rfl (cellsQ_one _ _ _ _ _ _) ?_
  intro y1 ht hg
  have HZ := Lib.hid ht
  have HQ5 := Lib.hid (own_base (ownM_keep HO5.out hg (Nat.lt_succ_self _)) (show w.heap.size ≤ w.heap.size + 2 by omega))
  have HQ8 := Lib.hid (own_base (ownM_keep HO8.out hg (Nat.lt_succ_self _)) (show w.heap.size ≤ w.heap.size + 2 by omega))
  have HBE := Lib.hid (below_of_grown1 hHeld.2.2 hg hHeld.2.2.size (Nat.le_succ _))
  clear ht
  refine hK.out _ _ ?_
  clear hK K
  try simp only [Act.put, List.setIfInBounds_toArray, List.set_cons_zero, List.set_cons_succ]
  refine wpAnyW_done (by kernel_rfl) ?_ _
  refine NoPanic.normal ?_
  go_wp2_with fail
  exact bodyPost_ret (retQ rfl rfl rfl HZ.out) rfl ⟨A5, k5, A8, k8, rfl, ⟨HQ5.out, HQ8.out, fun a b ea eb => by subst ea; subst eb; have h5 := HLT.out a.block rfl; have h8 := HF8.out _ _ _ rfl; omega⟩, HBE.out⟩
end Go.Proofs.Ytondgdacjbfihaa
