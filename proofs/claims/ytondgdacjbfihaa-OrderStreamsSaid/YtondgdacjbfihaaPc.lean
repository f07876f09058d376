/-
  Package order: Skip: contract.
-/
import Derived.Test.YtondgdacjbfihaaPb
namespace Go.Proofs.Ytondgdacjbfihaa
open Go.RowKit
set_option linter.unusedVariables false
set_option linter.unusedSimpArgs false
set_option maxRecDepth 100000

theorem four_open (w : World) (T T' T'' T3 : TypeId) (cs zs ys xs : Array Value) : ∃ W, (((w.alloc (.cells cs T)).alloc (.cells zs T')).alloc (.cells ys T'')).alloc (.cells xs T3) = W ∧ Hid (Bx W w.heap.size T cs) ∧ Hid (Bx W (w.heap.size + 1) T' zs) ∧ Hid (Bx W (w.heap.size + 2) T'' ys) ∧ Hid (Bx W (w.heap.size + 3) T3 xs) ∧ Hid (Below w.heap.size w W) ∧ W.heap.size = w.heap.size + 4 := by
  obtain ⟨W3, rfl, H1, H2, H3, HB, hs⟩ := three_open w T T' T'' cs zs ys
  refine ⟨_, rfl, Lib.hid (H1.out.old _), Lib.hid (H2.out.old _), Lib.hid (H3.out.old _), Lib.hid ?_, Lib.hid (HB.out.alloc (by omega) _), by rw [World.size_alloc, hs]⟩
  have := Bx.fresh (((w.alloc (.cells cs T)).alloc (.cells zs T')).alloc (.cells ys T'')) T3 xs
  rw [hs] at this
  exact this
theorem ownV_later {W W' : World} {B : Nat} {A : Option Addr} {cap n : Nat} {l : List Mg} (h : OwnV W B 40 A cap n l) (hb : Below W.heap.size W W') : OwnV W' B 40 A cap n l := h.later hb
set_option maxHeartbeats 2000000 in
theorem skip_none (nx : List UInt16) (wt : List Mg) (st : Int) (to : UInt16) (h1 : nx.length ≤ 65535) (h2 : wt.length ≤ 1000) (vn v : Value) (w : World) (hn : RowE enc16 w vn nx) (hw : RowM w v wt) (hst : st < 0 ∨ (nx.length : Int) ≤ st) :
    Calls Try.prog 16 #[.agg #[vn, v], .int .i64 st, .int .u16 (to.toNat : Int)] w fun e w' => PutR (fun k => k < w.heap.size) w w' e 12 [] [] [] := by
  obtain ⟨W, hW, HQ, HI, HT, HZ, HB, hs⟩ := four_open w 27 3 38 27 #[vn, v] #[.int .i64 st] #[.int .u16 (to.toNat : Int)] #[.slice none 0 0, .slice none 0 0]
  have HN := Lib.hid hn
  have HW := Lib.hid hw
  obtain ⟨A, cap, rfl, hcn, hcm, hcell⟩ := id hn
  obtain ⟨A', cap', rfl, _, _, _⟩ := id hw
  have hnl : (nx.length : Int) ≤ 65535 := by omega
  have d1 := HI.out.cell 0 (.int .i64 st) rfl
  have d2 := HT.out.cell 0 (.int .u16 (to.toNat : Int)) rfl
  have d0 := HQ.out.cell 0 (.slice A nx.length cap) rfl
  clear hn hw hcell
  by_cases c1 : st < 0
  · clear hst
    go_enter Try.func16, Try.ntmps16
    go_wp2_with ((with_reducible refine gate9 ?_); refine stB (ty := 27) #[.slice none 0 0, .slice none 0 0] rfl rfl rfl rfl HZ.out infoQ rfl (cellsQ_one _ _ _ _ _ _) ?_; intro w6 ht hg; have HZ6 := Lib.hid ht; replace HB := Lib.hid (below_of_grown1 HB.out hg HB.out.size (by omega)); clear ht hg)
    exact bodyPost_ret (retQ3 rfl rfl rfl rfl rfl HZ6.out) rfl (PutR.none _ HB.out)
  · have c2 : (nx.length : Int) ≤ st := by omega
    clear hst
    go_enter Try.func16, Try.ntmps16
    go_wp2_with ((with_reducible refine gate9 ?_); refine stB (ty := 27) #[.slice none 0 0, .slice none 0 0] rfl rfl rfl rfl HZ.out infoQ rfl (cellsQ_one _ _ _ _ _ _) ?_; intro w6 ht hg; have HZ6 := Lib.hid ht; replace HB := Lib.hid (below_of_grown1 HB.out hg HB.out.size (by omega)); clear ht hg)
    exact bodyPost_ret (retQ3 rfl rfl rfl rfl rfl HZ6.out) rfl (PutR.none _ HB.out)
set_option maxHeartbeats 2000000 in
theorem skip_past (nx : List UInt16) (wt : List Mg) (s : Nat) (to : UInt16) (h1 : nx.length ≤ 65535) (h2 : wt.length ≤ 1000) (vn v : Value) (w : World) (hn : RowE enc16 w vn nx) (hw : RowM w v wt) (hst : s < nx.length) (hpb : pastB to (atN nx s) = true) :
    Calls Try.prog 16 #[.agg #[vn, v], .int .i64 (s : Int), .int .u16 (to.toNat : Int)] w fun e w' => PutR (fun k => k < w.heap.size) w w' e 1 [] [] [] := by
  obtain ⟨W, hW, HQ, HI, HT, HZ, HB, hs⟩ := four_open w 27 3 38 27 #[vn, v] #[.int .i64 (s : Int)] #[.int .u16 (to.toNat : Int)] #[.slice none 0 0, .slice none 0 0]
  have HN := Lib.hid hn
  have HW := Lib.hid hw
  obtain ⟨b, off, cap, rfl, hbw, hen⟩ := cell_at hn hst
  have HEN := Lib.hid hen
  obtain ⟨_, _, _, hcn, hcm, _⟩ := id hn
  obtain ⟨A', cap', rfl, _, _, _⟩ := id hw
  have hnl : (nx.length : Int) ≤ 65535 := by omega
  have hs0 : (0 : Int) ≤ (s : Int) := by omega
  have hsI : (s : Int) < (nx.length : Int) := by omega
  have d1 := HI.out.cell 0 (.int .i64 (s : Int)) rfl
  have d2 := HT.out.cell 0 (.int .u16 (to.toNat : Int)) rfl
  have d0 := HQ.out.cell 0 (.slice (some ⟨b, off, none⟩) nx.length cap) rfl
  have HPA := Lib.hid (fun V => past_any to (atN nx s) V)
  have hsz : w.heap.size + 4 ≤ W.heap.size := by omega
  clear hn hw hen
  generalize hn0 : atN nx s = n0 at *
  have HN0 := Lib.hid hn0
  clear hn0
  have HPB := Lib.hid hpb
  clear hpb
  go_enter Try.func16, Try.ntmps16
  go_wp2_with fail
  have HS : (fun U => Bx U w.heap.size 27 #[.slice (some ⟨b, off, none⟩) nx.length cap, .slice A' wt.length cap'] ∧ Bx U (w.heap.size + 1) 3 #[.int .i64 (s : Int)] ∧ Bx U (w.heap.size + 2) 38 #[.int .u16 (to.toNat : Int)] ∧ Bx U (w.heap.size + 3) 27 #[.slice none 0 0, .slice none 0 0] ∧ Below w.heap.size w U ∧ w.heap.size + 4 ≤ U.heap.size) W.drew := ⟨HQ.out.drew, HI.out.drew, HT.out.drew, HZ.out.drew, below_drawn HB.out, hsz⟩
  clear hW HQ HI HT HZ HB d0 d1 d2
  refine wp_region_noPanic ?_
  refine wp_region_waits (S := (fun U => Bx U w.heap.size 27 #[.slice (some ⟨b, off, none⟩) nx.length cap, .slice A' wt.length cap'] ∧ Bx U (w.heap.size + 1) 3 #[.int .i64 (s : Int)] ∧ Bx U (w.heap.size + 2) 38 #[.int .u16 (to.toNat : Int)] ∧ Bx U (w.heap.size + 3) 27 #[.slice none 0 0, .slice none 0 0] ∧ Below w.heap.size w U ∧ w.heap.size + 4 ≤ U.heap.size)) [] (by kernel_rfl) HS (fun hHeld => ?_)
  clear HS
  refine wpAnyW_take (i := 0) (v := ?_) (by simp only [List.getElem?_toArray, List.getElem?_cons_zero]; rfl) (by kernel_rfl) (by kernel_rfl) (by kernel_rfl) (by kernel_rfl) (by kernel_rfl) (fun _ _ _ h => h) (Or.inl ⟨by rfl, ?_⟩) (by assumption) ?_
  rotate_left 1
  · (intro w' hSw; have hq := hSw.2.2.1.cell 0 (.int .u16 (to.toNat : Int)) rfl; go_simp; try with_reducible rfl)
  try simp only [Act.put, List.setIfInBounds_toArray, List.set_cons_zero, List.set_cons_succ]
  refine wpAnyW_take (i := 1) (v := ?_) (by simp only [List.getElem?_toArray, List.getElem?_cons_succ, List.getElem?_cons_zero]; rfl) (by kernel_rfl) (by kernel_rfl) (by kernel_rfl) (by kernel_rfl) (by kernel_rfl) (fun _ _ _ h => h) (Or.inl ⟨by rfl, ?_⟩) (by assumption) ?_
  rotate_left 1
  · (intro w' hSw; go_simp; try with_reducible rfl)
  try simp only [Act.put, List.setIfInBounds_toArray, List.set_cons_zero, List.set_cons_succ]
  refine wpAnyW_take (i := 2) (v := ?_) (by simp only [List.getElem?_toArray, List.getElem?_cons_succ, List.getElem?_cons_zero]; rfl) (by kernel_rfl) (by kernel_rfl) (by kernel_rfl) (by kernel_rfl) (by kernel_rfl) (fun _ _ _ h => h) (Or.inl ⟨by rfl, ?_⟩) (by assumption) ?_
  rotate_left 1
  · (intro w' hSw; have hq := hSw.1.cell 0 (.slice (some ⟨b, off, none⟩) nx.length cap) rfl; go_simp; try with_reducible rfl)
  try simp only [Act.put, List.setIfInBounds_toArray, List.set_cons_zero, List.set_cons_succ]
  refine wpAnyW_take (i := 3) (v := ?_) (by simp only [List.getElem?_toArray, List.getElem?_cons_succ, List.getElem?_cons_zero]; rfl) (by kernel_rfl) (by kernel_rfl) (by kernel_rfl) (by kernel_rfl) (by kernel_rfl) (fun _ _ _ h => h) (Or.inl ⟨by rfl, ?_⟩) (by assumption) ?_
  rotate_left 1
  · (intro w' hSw; have hq := hSw.2.1.cell 0 (.int .i64 (s : Int)) rfl; go_simp; try with_reducible rfl)
  try simp only [Act.put, List.setIfInBounds_toArray, List.set_cons_zero, List.set_cons_succ]
  refine wpAnyW_take (i := 4) (v := ?_) (by simp only [List.getElem?_toArray, List.getElem?_cons_succ, List.getElem?_cons_zero]; rfl) (by kernel_rfl) (by kernel_rfl) (by kernel_rfl) (by kernel_rfl) (by kernel_rfl) (fun _ _ _ h => h) (Or.inl ⟨by rfl, ?_⟩) (by assumption) ?_
  rotate_left 1
  · (intro w' hSw; go_simp; try with_reducible rfl)
  try simp only [Act.put, List.setIfInBounds_toArray, List.set_cons_zero, List.set_cons_succ]
  refine wpAnyW_take (i := 5) (v := ?_) (by simp only [List.getElem?_toArray, List.getElem?_cons_succ, List.getElem?_cons_zero]; rfl) (by kernel_rfl) (by kernel_rfl) (by kernel_rfl) (by kernel_rfl) (by kernel_rfl) (fun _ _ _ h => h) (Or.inl ⟨by rfl, ?_⟩) (by assumption) ?_
  rotate_left 1
  · (intro w' hSw; have hq := (hSw.2.2.2.2.1.cell (p := ⟨b, off + s, none⟩) hbw).trans HEN.out; go_simp; try with_reducible rfl)
  try simp only [Act.put, List.setIfInBounds_toArray, List.set_cons_zero, List.set_cons_succ]
  refine wpAnyW_held (i := 6) (by kernel_rfl) (by simp only [List.getElem?_toArray, List.getElem?_cons_succ, List.getElem?_cons_zero]; rfl) (fun K hK => ?_)
  rw [if_pos (by rfl)]
  go_simp
  refine (HPA.out _).mono ?_
  rintro _ w7 ⟨rfl, rfl⟩
  rw [HPB.out]
  go_wp2_with fail
  refine hK.out _ _ hHeld (fun hHeld => ?_)
  clear hK K
  try simp only [Act.put, List.setIfInBounds_toArray, List.set_cons_zero, List.set_cons_succ]
  refine wpAnyW_held (i := 7) (by kernel_rfl) (by simp only [List.getElem?_toArray, List.getElem?_cons_succ, List.getElem?_cons_zero]; rfl) (fun K hK => ?_)
  rw [if_pos (by rfl)]
  go_simp
  have HQ := Lib.hid hHeld.1
  have HI := Lib.hid hHeld.2.1
  have HT := Lib.hid hHeld.2.2.1
  have HZ := Lib.hid hHeld.2.2.2.1
  have HB := Lib.hid hHeld.2.2.2.2.1
  have hsw := hHeld.2.2.2.2.2
  refine hK.out _ _ hHeld (fun hHeld => ?_)
  clear hK K hHeld
  try simp only [Act.put, List.setIfInBounds_toArray, List.set_cons_zero, List.set_cons_succ]
  refine wpAnyW_done (by kernel_rfl) ?_ _
  refine NoPanic.normal ?_
  go_wp2_with ((with_reducible refine gate9 ?_); refine stB (ty := 27) #[.slice none 0 0, .slice none 0 0] rfl rfl rfl rfl HZ.out infoQ rfl (cellsQ_one _ _ _ _ _ _) ?_; intro w6 ht hg; have HZ6 := Lib.hid ht; replace HB := Lib.hid (below_of_grown1 HB.out hg HB.out.size (by omega)); clear ht hg)
  exact bodyPost_ret (retQ3 rfl rfl rfl rfl rfl HZ6.out) rfl (PutR.none _ HB.out)
set_option maxHeartbeats 4000000 in
theorem skip_good (nx : List UInt16) (wt : List Mg) (s : Nat) (to : UInt16) (h1 : nx.length ≤ 65535) (h2 : wt.length ≤ 1000) (vn v : Value) (w : World) (hn : RowE enc16 w vn nx) (hw : RowM w v wt) (hst : s < nx.length) (hd : Dis wt) (hpb : pastB to (atN nx s) = false) :
    Calls Try.prog 16 #[.agg #[vn, v], .int .i64 (s : Int), .int .u16 (to.toNat : Int)] w fun e w' => PutR (fun k => k < w.heap.size) w w' e 0 (nx.set s (nextK (keepG wt (s : Int) to) (s : Int) to)) (leftK (keepG wt (s : Int) to) (s : Int) to) (tellK (keepG wt (s : Int) to) (s : Int) to) := by
  obtain ⟨W, hW, HQ, HI, HT, HZ, HB, hs⟩ := four_open w 27 3 38 27 #[vn, v] #[.int .i64 (s : Int)] #[.int .u16 (to.toNat : Int)] #[.slice none 0 0, .slice none 0 0]
  have HN := Lib.hid hn
  have HW := Lib.hid hw
  obtain ⟨b, off, cap, rfl, hbw, hen⟩ := cell_at hn hst
  have HEN := Lib.hid hen
  obtain ⟨_, _, _, hcn, hcm, _⟩ := id hn
  obtain ⟨A', cap', rfl, _, _, _⟩ := id hw
  have hnl : (nx.length : Int) ≤ 65535 := by omega
  have hs0 : (0 : Int) ≤ (s : Int) := by omega
  have hsI : (s : Int) < (nx.length : Int) := by omega
  have d1 := HI.out.cell 0 (.int .i64 (s : Int)) rfl
  have d2 := HT.out.cell 0 (.int .u16 (to.toNat : Int)) rfl
  have d0 := HQ.out.cell 0 (.slice (some ⟨b, off, none⟩) nx.length cap) rfl
  have HPA := Lib.hid (fun V => past_any to (atN nx s) V)
  have hsz : w.heap.size + 4 ≤ W.heap.size := by omega
  clear hn hw hen
  generalize hn0 : atN nx s = n0 at *
  have HN0 := Lib.hid hn0
  clear hn0
  have HPB := Lib.hid hpb
  clear hpb
  have HPN : Hid (0 < nx.length) := Lib.hid (by omega)
  have HSI : Hid (s < nx.length) := Lib.hid hst
  have HCP := Lib.hid (fun V a b hna hwb => copied_any nx wt (by omega) (by omega) a b V hna hwb)
  have hkl : (keepG wt (s : Int) to).length ≤ 1000 := Nat.le_trans (List.length_filter_le ..) h2
  have HTO := Lib.hid (fun gq bn cn vw V hq hn hc1 hc2 hwv hne hnq hnb => takeOut_at nx (keepG wt (s : Int) to) hkl (dis_filter _ hd) s hst (by omega) to gq bn cn vw V hq hn hc1 hc2 hwv hne hnq hnb)
  have HDL := Lib.hid (fun gs gt B A cap V ho hg hv => delete_any wt (by omega) (s : Int) to gs gt _ rfl B A cap V ho hg hv)
  generalize tellK (keepG wt (s : Int) to) (s : Int) to = tl at *
  generalize leftK (keepG wt (s : Int) to) (s : Int) to = lf at *
  generalize nextK (keepG wt (s : Int) to) (s : Int) to = nk at *
  clear hd hkl
  go_enter Try.func16, Try.ntmps16
  go_wp2_with fail
  have HS : (fun U => Bx U w.heap.size 27 #[.slice (some ⟨b, off, none⟩) nx.length cap, .slice A' wt.length cap'] ∧ Bx U (w.heap.size + 1) 3 #[.int .i64 (s : Int)] ∧ Bx U (w.heap.size + 2) 38 #[.int .u16 (to.toNat : Int)] ∧ Bx U (w.heap.size + 3) 27 #[.slice none 0 0, .slice none 0 0] ∧ Below w.heap.size w U ∧ w.heap.size + 4 ≤ U.heap.size) W.drew := ⟨HQ.out.drew, HI.out.drew, HT.out.drew, HZ.out.drew, below_drawn HB.out, hsz⟩
  clear hW HQ HI HT HZ HB d0 d1 d2
  refine wp_region_noPanic ?_
  refine wp_region_waits (S := (fun U => Bx U w.heap.size 27 #[.slice (some ⟨b, off, none⟩) nx.length cap, .slice A' wt.length cap'] ∧ Bx U (w.heap.size + 1) 3 #[.int .i64 (s : Int)] ∧ Bx U (w.heap.size + 2) 38 #[.int .u16 (to.toNat : Int)] ∧ Bx U (w.heap.size + 3) 27 #[.slice none 0 0, .slice none 0 0] ∧ Below w.heap.size w U ∧ w.heap.size + 4 ≤ U.heap.size)) [] (by kernel_rfl) HS (fun hHeld => ?_)
  clear HS
  refine wpAnyW_take (i := 0) (v := ?_) (by simp only [List.getElem?_toArray, List.getElem?_cons_zero]; rfl) (by kernel_rfl) (by kernel_rfl) (by kernel_rfl) (by kernel_rfl) (by kernel_rfl) (fun _ _ _ h => h) (Or.inl ⟨by rfl, ?_⟩) (by assumption) ?_
  rotate_left 1
  · (intro w' hSw; have hq := hSw.2.2.1.cell 0 (.int .u16 (to.toNat : Int)) rfl; go_simp; try with_reducible rfl)
  try simp only [Act.put, List.setIfInBounds_toArray, List.set_cons_zero, List.set_cons_succ]
  refine wpAnyW_take (i := 1) (v := ?_) (by simp only [List.getElem?_toArray, List.getElem?_cons_succ, List.getElem?_cons_zero]; rfl) (by kernel_rfl) (by kernel_rfl) (by kernel_rfl) (by kernel_rfl) (by kernel_rfl) (fun _ _ _ h => h) (Or.inl ⟨by rfl, ?_⟩) (by assumption) ?_
  rotate_left 1
  · (intro w' hSw; go_simp; try with_reducible rfl)
  try simp only [Act.put, List.setIfInBounds_toArray, List.set_cons_zero, List.set_cons_succ]
  refine wpAnyW_take (i := 2) (v := ?_) (by simp only [List.getElem?_toArray, List.getElem?_cons_succ, List.getElem?_cons_zero]; rfl) (by kernel_rfl) (by kernel_rfl) (by kernel_rfl) (by kernel_rfl) (by kernel_rfl) (fun _ _ _ h => h) (Or.inl ⟨by rfl, ?_⟩) (by assumption) ?_
  rotate_left 1
  · (intro w' hSw; have hq := hSw.1.cell 0 (.slice (some ⟨b, off, none⟩) nx.length cap) rfl; go_simp; try with_reducible rfl)
  try simp only [Act.put, List.setIfInBounds_toArray, List.set_cons_zero, List.set_cons_succ]
  refine wpAnyW_take (i := 3) (v := ?_) (by simp only [List.getElem?_toArray, List.getElem?_cons_succ, List.getElem?_cons_zero]; rfl) (by kernel_rfl) (by kernel_rfl) (by kernel_rfl) (by kernel_rfl) (by kernel_rfl) (fun _ _ _ h => h) (Or.inl ⟨by rfl, ?_⟩) (by assumption) ?_
  rotate_left 1
  · (intro w' hSw; have hq := hSw.2.1.cell 0 (.int .i64 (s : Int)) rfl; go_simp; try with_reducible rfl)
  try simp only [Act.put, List.setIfInBounds_toArray, List.set_cons_zero, List.set_cons_succ]
  refine wpAnyW_take (i := 4) (v := ?_) (by simp only [List.getElem?_toArray, List.getElem?_cons_succ, List.getElem?_cons_zero]; rfl) (by kernel_rfl) (by kernel_rfl) (by kernel_rfl) (by kernel_rfl) (by kernel_rfl) (fun _ _ _ h => h) (Or.inl ⟨by rfl, ?_⟩) (by assumption) ?_
  rotate_left 1
  · (intro w' hSw; go_simp; try with_reducible rfl)
  try simp only [Act.put, List.setIfInBounds_toArray, List.set_cons_zero, List.set_cons_succ]
  refine wpAnyW_take (i := 5) (v := ?_) (by simp only [List.getElem?_toArray, List.getElem?_cons_succ, List.getElem?_cons_zero]; rfl) (by kernel_rfl) (by kernel_rfl) (by kernel_rfl) (by kernel_rfl) (by kernel_rfl) (fun _ _ _ h => h) (Or.inl ⟨by rfl, ?_⟩) (by assumption) ?_
  rotate_left 1
  · (intro w' hSw; have hq := (hSw.2.2.2.2.1.cell (p := ⟨b, off + s, none⟩) hbw).trans HEN.out; go_simp; try with_reducible rfl)
  try simp only [Act.put, List.setIfInBounds_toArray, List.set_cons_zero, List.set_cons_succ]
  refine wpAnyW_held (i := 6) (by kernel_rfl) (by simp only [List.getElem?_toArray, List.getElem?_cons_succ, List.getElem?_cons_zero]; rfl) (fun K hK => ?_)
  rw [if_pos (by rfl)]
  go_simp
  refine (HPA.out _).mono ?_
  rintro _ w7 ⟨rfl, rfl⟩
  rw [HPB.out]
  go_wp2_with fail
  refine hK.out _ _ hHeld (fun hHeld => ?_)
  clear hK K
  try simp only [Act.put, List.setIfInBounds_toArray, List.set_cons_zero, List.set_cons_succ]
  refine wpAnyW_held (i := 7) (by kernel_rfl) (by simp only [List.getElem?_toArray, List.getElem?_cons_succ, List.getElem?_cons_zero]; rfl) (fun K hK => ?_)
  rw [if_pos (by rfl)]
  go_simp
  have HQ := Lib.hid hHeld.1
  have HI := Lib.hid hHeld.2.1
  have HT := Lib.hid hHeld.2.2.1
  have HZ := Lib.hid hHeld.2.2.2.1
  have HB := Lib.hid hHeld.2.2.2.2.1
  have hsw := hHeld.2.2.2.2.2
  refine hK.out _ _ hHeld (fun hHeld => ?_)
  clear hK K hHeld
  try simp only [Act.put, List.setIfInBounds_toArray, List.set_cons_zero, List.set_cons_succ]
  refine wpAnyW_done (by kernel_rfl) ?_ _
  refine NoPanic.normal ?_
  go_wp2_with (first
    | ((with_reducible refine gate9 ?_); refine ldB (ty := 27) rfl rfl rfl HQ.out Try.underlying27 rfl infoQ ?_)
    | (go_at_call 24; (with_reducible refine (HCP.out _ _ _ (HN.out.below HB.out) (HW.out.below HB.out)).mono ?_); rintro e w7 ⟨B1, k1, B2, k2, rfl, hown, hb⟩; obtain ⟨bn, rfl, hbB, hk1, hk2, hrb, hne2, hog⟩ := OwnQ.open hown HPN.out; have hov := OwnV.of_own hown.wait; obtain ⟨v8, hv8, HR, HB8, hs8⟩ := one_open w7 27 #[.slice (some ⟨bn, 0, none⟩) nx.length k1, .slice B2 wt.length k2]; have hb8 := hb.trans (HB8.out.mono hb.size); have HRB := Lib.hid (hrb.later HB8.out); have HOV := Lib.hid (hov.later HB8.out); have HNE := Lib.hid hne2; have hr1 := hrb.lt; have hr2 := HR.out.lt; have HGL := Lib.hid (fun z hz => hog.lt z hz); replace HI := Lib.hid (HI.out.later hb8); replace HT := Lib.hid (HT.out.later hb8); replace HZ := Lib.hid (HZ.out.later hb8); have hszv := Nat.le_trans hb.size HB8.out.size; replace HB := Lib.hid (HB.out.trans (hb8.mono HB.out.size)); have e1 := HI.out.cell 0 (.int .i64 (s : Int)) rfl; have e2 := HT.out.cell 0 (.int .u16 (to.toNat : Int)) rfl; have c0 := HR.out.cell 0 (.slice (some ⟨bn, 0, none⟩) nx.length k1) rfl; clear hown hb hb8 HB8 hs8 hrb hog hne2 hov)
    | ((with_reducible refine gate9 ?_); refine stR (ty := 38) s to rfl rfl rfl rfl HRB.out HSI.out infoH rfl ?_; intro w12 ht hg; replace HRB := Lib.hid ht; replace HR := Lib.hid (HR.out.kept hg (Nat.ne_of_gt hr1)); replace HOV := Lib.hid (HOV.out.grown hg (by intro z ez hz e; cases e; exact HNE.out bn (by rw [ez]; rfl) rfl)); replace HI := Lib.hid (HI.out.kept hg (by omega)); replace HT := Lib.hid (HT.out.kept hg (by omega)); replace HZ := Lib.hid (HZ.out.kept hg (by omega)); replace HB := Lib.hid (below_of_grown1 HB.out hg HB.out.size (by omega)); have c1 := HR.out.cell 1 (.slice B2 wt.length k2) rfl; have hs12 := hg.size; clear ht hg c0 e1 e2))
  have hnot : ∀ z : Nat, (z < w.heap.size + 4 ∨ z = w7.heap.size ∨ z = bn) → ¬ B2 = some ⟨z, 0, none⟩ := fun z hz e => by
    have ho : (Value.slice B2 wt.length k2).ownBlock = some z := by rw [e]; rfl
    have h9 := HGL.out z ho
    rcases hz with h | h | h
    · omega
    · omega
    · exact HNE.out z ho h.symm
  have hown : ∀ a, B2 = some a → w.heap.size ≤ a.block ∧ a.block ≠ w7.heap.size ∧ bn ≠ a.block := fun a ha => by
    have ho : (Value.slice B2 wt.length k2).ownBlock = some a.block := by rw [ha]; rfl
    have h9 := HGL.out _ ho
    exact ⟨by omega, by omega, HNE.out _ ho⟩
  have HNT := Lib.hid hnot
  have HON := Lib.hid hown
  refine (HDL.out _ _ _ _ _ w12 HOV.out (fun V hc => HI.out.ch hc (hnot _ (.inl (by omega)))) (fun V hc => HT.out.ch hc (hnot _ (.inl (by omega))))).mono ?_
  rintro e w20 ⟨A9, k9, rfl, hrm, hsame, hch⟩
  replace HR := Lib.hid (HR.out.ch hch (hnot _ (.inr (.inl rfl))))
  replace HRB := Lib.hid (HRB.out.same (hch.block bn HRB.out.lt (hnot _ (.inr (.inr rfl)))))
  replace HI := Lib.hid (HI.out.ch hch (hnot _ (.inl (by omega))))
  replace HZ := Lib.hid (HZ.out.ch hch (hnot _ (.inl (by omega))))
  have hsize := hch.size
  replace HB := Lib.hid (below_ch HB.out hch (by omega) (fun z hz => (hown _ hz).1))
  have HKM := Lib.hid (show RowM w20 (.slice A9 (keepG wt (s : Int) to).length k9) (keepG wt (s : Int) to) from hrm)
  have HN1 : Hid (NotIn w7.heap.size (.slice A9 (keepG wt (s : Int) to).length k9) ∧ NotIn bn (.slice A9 (keepG wt (s : Int) to).length k9)) := Lib.hid ⟨fun a n c e => by cases e; exact (hown _ (hsame _ rfl)).2.1, fun a n c e => by cases e; exact (hown _ (hsame _ rfl)).2.2.symm⟩
  have HLK : Hid ((keepF (goneB (s : Int) to) wt).length = (keepG wt (s : Int) to).length) := Lib.hid rfl
  rw [HLK.out]
  have f0 := HI.out.cell 0 (.int .i64 (s : Int)) rfl
  have HTO2 := Lib.hid (fun V hq hn hwv => HTO.out w7.heap.size bn k1 (.slice A9 (keepG wt (s : Int) to).length k9) V hq hn hk1 hk2 hwv (Nat.ne_of_lt hr1) HN1.out.1 HN1.out.2)
  clear hrm hsame hch hnot hown c1 HOV HDL HTO
  generalize (keepG wt (s : Int) to).length = kl at *
  go_wp2_with (first
    | ((with_reducible refine gate9 ?_); refine stF (ty := 25) (.slice A9 kl k9) rfl rfl rfl rfl HR.out (Nat.lt_succ_self 1) infoML rfl ?_; intro w21 ht hg; have HR2 := Lib.hid (show Bx w21 w7.heap.size 27 #[.slice (some ⟨bn, 0, none⟩) nx.length k1, .slice A9 kl k9] from ht); replace HRB := Lib.hid (HRB.out.kept hg (Nat.ne_of_lt hr1)); replace HZ := Lib.hid (HZ.out.kept hg (by omega)); replace HI := Lib.hid (HI.out.kept hg (by omega)); replace HKM := Lib.hid (HKM.out.kept HN1.out.1 hg); replace HB := Lib.hid (below_of_grown1 HB.out hg HB.out.size (by omega)); have hs21 := hg.size; have f1 := HI.out.cell 0 (.int .i64 (s : Int)) rfl; clear ht hg HR)
    | (go_at_call 27; (with_reducible refine (HTO2.out _ HR2.out HRB.out HKM.out).mono ?_); rintro e w15 ⟨A6, c6, A7, c7, rfl, hown, hq15, hn15, hw15, hf15, hc15⟩; have HQ15 := Lib.hid hq15; have HN15 := Lib.hid hn15; have HW15 := Lib.hid hw15; have HT15 := Lib.hid hown; have HF15 := Lib.hid hf15; replace HZ := Lib.hid (HZ.out.ch hc15 (by rintro (e | e) <;> omega)); replace HB := Lib.hid (below_ch HB.out hc15 (by omega) (fun z hz => by rcases hz with rfl | rfl <;> omega)); have hs15 := hc15.size; clear hown hq15 hn15 hw15 hf15 hc15)
    | ((with_reducible refine gate9 ?_); refine ldB (ty := 27) rfl rfl rfl HQ15.out Try.underlying27 rfl infoQ ?_)
    | ((with_reducible refine gate9 ?_); refine stB (ty := 27) #[.slice (some ⟨bn, 0, none⟩) nx.length k1, .slice A7 lf.length c7] rfl rfl rfl rfl HZ.out infoQ rfl (cellsQ_one _ _ _ _ _ _) ?_; intro w17 ht hg; have HZ17 := Lib.hid ht; have HNE2 := Lib.hid (HN15.out.kept hg (by omega)); have HFW := HF15; have HWE := Lib.hid (HW15.out.kept (NotIn.of_fresh HF15.out (by omega)) hg); have HFO := Lib.hid (fresh_ownG HT15.out); have HOE := Lib.hid ((rowM_of_ownG (l := tl) HT15.out).kept (NotIn.of_fresh HFO.out (by omega)) hg); replace HB := Lib.hid (below_of_grown1 HB.out hg HB.out.size (by omega)); clear ht hg))
  refine bodyPost_ret (retQ3 rfl rfl rfl rfl rfl HZ17.out) rfl ?_
  have hls : (nx.set s nk).length = nx.length := List.length_set
  unfold PutR
  rw [hls]
  exact ⟨some ⟨bn, 0, none⟩, k1, A7, c7, A6, c6, rfl, by rw [← hls]; exact HNE2.out.row (by rw [hls]; exact hk1) hk2, HWE.out, HOE.out, Out.fresh (fresh_some (show w.heap.size ≤ bn by omega)) (fun k hk => hk), Out.fresh (HFW.out.less (show w.heap.size ≤ _ by omega)) (fun k hk => hk), Out.fresh (HFO.out.less (show w.heap.size ≤ _ by omega)) (fun k hk => hk), HB.out⟩
/-- Skip, whatever stream and number. -/
theorem skip_any (nx : List UInt16) (wt : List Mg) (st : Int) (to : UInt16) (h1 : nx.length ≤ 65535) (h2 : wt.length ≤ 1000) (vn v : Value) (w : World) (hn : RowE enc16 w vn nx) (hw : RowM w v wt) (hok : OkQ nx wt) :
    Calls Try.prog 16 #[.agg #[vn, v], .int .i64 st, .int .u16 (to.toNat : Int)] w fun e w' => PutR (fun k => k < w.heap.size) w w' e (skipE nx st to) (skipN nx wt st to) (skipW nx wt st to) (skipT nx wt st to) := by
  by_cases c1 : st < 0 ∨ (nx.length : Int) ≤ st
  · unfold skipE skipN skipW skipT
    rw [if_pos c1, if_pos c1, if_pos c1, if_pos c1]
    exact skip_none nx wt st to h1 h2 vn v w hn hw c1
  · unfold skipE skipN skipW skipT
    rw [if_neg c1, if_neg c1, if_neg c1, if_neg c1]
    obtain ⟨s, rfl⟩ : ∃ s : Nat, st = (s : Int) := ⟨st.toNat, by omega⟩
    rw [Int.toNat_natCast]
    have hst : s < nx.length := by omega
    cases hp : pastB to (atN nx s) with
    | true =>
      simp only [if_true]
      exact skip_past nx wt s to h1 h2 vn v w hn hw hst hp
    | false =>
      simp only [Bool.false_eq_true, if_false]
      exact skip_good nx wt s to h1 h2 vn v w hn hw hst hok.dis hp
end Go.Proofs.Ytondgdacjbfihaa
