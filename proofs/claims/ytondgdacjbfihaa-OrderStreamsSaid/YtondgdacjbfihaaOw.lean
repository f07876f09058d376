/-
  Package order: Put: it is there; it waits: contracts.
-/
import Derived.Test.YtondgdacjbfihaaOv
namespace Go.Proofs.Ytondgdacjbfihaa
open Go.RowKit
set_option linter.unusedVariables false
set_option linter.unusedSimpArgs false
set_option maxRecDepth 100000

theorem cell_at {nx : List UInt16} {w : World} {v : Value} (h : RowE enc16 w v nx) {st : Nat} (hst : st < nx.length) : ∃ b off cap, v = .slice (some ⟨b, off, none⟩) nx.length cap ∧ b < w.heap.size ∧ w.cell? ⟨b, off + st, none⟩ = some (.int .u16 ((atN nx st).toNat : Int)) := by
  obtain ⟨b, off, cap, e, hb, hc⟩ := h.at16 hst
  exact ⟨b, off, cap, e, hb, by rw [atN_eq hst]; exact hc⟩
set_option maxHeartbeats 1000000 in
theorem put_there (nx : List UInt16) (wt : List Mg) (m : Mg) (h1 : nx.length ≤ 100000) (h2 : wt.length ≤ 1000) (vn v : Value) (w : World) (hn : RowE enc16 w vn nx) (hw : RowM w v wt) (hst : m.st.toNat < nx.length) (hfr : m.fr = false) (hbad : (pastB m.ss (atN nx m.st.toNat) || wt.any (sameB m)) = true) :
    Calls Try.prog 12 #[.agg #[vn, v], .agg (cellsMg m)] w fun e w' => PutR (fun k => k < w.heap.size) w w' e 9 [] [] [] := by
  obtain ⟨W, hW, HQ, HM, HZ, HB, hs⟩ := three_open w 27 40 27 #[vn, v] (cellsMg m) #[.slice none 0 0, .slice none 0 0]
  have HN := Lib.hid hn
  have HW := Lib.hid hw
  obtain ⟨b, off, cap, rfl, hbw, hen⟩ := cell_at hn hst
  have HEN := Lib.hid hen
  obtain ⟨_, _, _, hcn, hcm, _⟩ := id hn
  obtain ⟨A', cap', rfl, _, _, _⟩ := id hw
  have hnl : (nx.length : Int) ≤ 9223372036854775807 := by have := hcn; unfold maxLen at hcm; omega
  have hs0 : (0 : Int) ≤ (m.st.toNat : Int) := by omega
  have hsI : (m.st.toNat : Int) < (nx.length : Int) := by omega
  have d2 := HM.out.cell 2 (.int .u16 (m.st.toNat : Int)) rfl
  have d1 : W.cell? ⟨w.heap.size + 1, 1, none⟩ = some (.bool false) := by rw [← hfr]; exact HM.out.cell 1 (.bool m.fr) rfl
  have d0 := HQ.out.cell 0 (.slice (some ⟨b, off, none⟩) nx.length cap) rfl
  obtain ⟨b1, b3⟩ := fit16 m.st
  have HPA := Lib.hid (fun V => past_any m.ss (atN nx m.st.toNat) V)
  have HTH := Lib.hid (fun V h => there_any wt (by omega) m (.slice (some ⟨b, off, none⟩) nx.length cap) (.slice A' wt.length cap') V h)
  clear hn hw hen
  generalize hn0 : atN nx m.st.toNat = n0 at *
  have HN0 := Lib.hid hn0
  clear hn0
  have hsz : w.heap.size + 3 ≤ W.heap.size := by omega
  cases hpb : pastB m.ss n0 with
  | true =>
    have HPB := Lib.hid hpb
    clear hpb hbad
    go_enter Try.func12, Try.ntmps12
    go_wp2_with fail
    have HS : (fun U => Bx U w.heap.size 27 #[.slice (some ⟨b, off, none⟩) nx.length cap, .slice A' wt.length cap'] ∧ Bx U (w.heap.size + 1) 40 (cellsMg m) ∧ Bx U (w.heap.size + 2) 27 #[.slice none 0 0, .slice none 0 0] ∧ Below w.heap.size w U ∧ w.heap.size + 3 ≤ U.heap.size) W.drew := ⟨HQ.out.drew, HM.out.drew, HZ.out.drew, below_drawn HB.out, hsz⟩
    clear hW HQ HM HZ HB d0 d1 d2
    refine wp_region_noPanic ?_
    refine wp_region_waits (S := (fun U => Bx U w.heap.size 27 #[.slice (some ⟨b, off, none⟩) nx.length cap, .slice A' wt.length cap'] ∧ Bx U (w.heap.size + 1) 40 (cellsMg m) ∧ Bx U (w.heap.size + 2) 27 #[.slice none 0 0, .slice none 0 0] ∧ Below w.heap.size w U ∧ w.heap.size + 3 ≤ U.heap.size)) [] (by kernel_rfl) HS (fun hHeld => ?_)
    clear HS
    refine wpAnyW_take (i := 0) (v := ?_) (by simp only [List.getElem?_toArray, List.getElem?_cons_zero]; rfl) (by kernel_rfl) (by kernel_rfl) (by kernel_rfl) (by kernel_rfl) (by kernel_rfl) (fun _ _ _ h => h) (Or.inl ⟨by rfl, ?_⟩) (by assumption) ?_
    rotate_left 1
    · (intro w' hSw; go_simp; try with_reducible rfl)
    try simp only [Act.put, List.setIfInBounds_toArray, List.set_cons_zero, List.set_cons_succ]
    refine wpAnyW_take (i := 1) (v := ?_) (by simp only [List.getElem?_toArray, List.getElem?_cons_succ, List.getElem?_cons_zero]; rfl) (by kernel_rfl) (by kernel_rfl) (by kernel_rfl) (by kernel_rfl) (by kernel_rfl) (fun _ _ _ h => h) (Or.inl ⟨by rfl, ?_⟩) (by assumption) ?_
    rotate_left 1
    · (intro w' hSw; have hq := hSw.2.1.cell 3 (.int .u16 (m.ss.toNat : Int)) rfl; go_simp; try with_reducible rfl)
    try simp only [Act.put, List.setIfInBounds_toArray, List.set_cons_zero, List.set_cons_succ]
    refine wpAnyW_take (i := 2) (v := ?_) (by simp only [List.getElem?_toArray, List.getElem?_cons_succ, List.getElem?_cons_zero]; rfl) (by kernel_rfl) (by kernel_rfl) (by kernel_rfl) (by kernel_rfl) (by kernel_rfl) (fun _ _ _ h => h) (Or.inl ⟨by rfl, ?_⟩) (by assumption) ?_
    rotate_left 1
    · (intro w' hSw; go_simp; try with_reducible rfl)
    try simp only [Act.put, List.setIfInBounds_toArray, List.set_cons_zero, List.set_cons_succ]
    refine wpAnyW_take (i := 3) (v := ?_) (by simp only [List.getElem?_toArray, List.getElem?_cons_succ, List.getElem?_cons_zero]; rfl) (by kernel_rfl) (by kernel_rfl) (by kernel_rfl) (by kernel_rfl) (by kernel_rfl) (fun _ _ _ h => h) (Or.inl ⟨by rfl, ?_⟩) (by assumption) ?_
    rotate_left 1
    · (intro w' hSw; have hq := hSw.1.cell 0 (.slice (some ⟨b, off, none⟩) nx.length cap) rfl; go_simp; try with_reducible rfl)
    try simp only [Act.put, List.setIfInBounds_toArray, List.set_cons_zero, List.set_cons_succ]
    refine wpAnyW_take (i := 4) (v := ?_) (by simp only [List.getElem?_toArray, List.getElem?_cons_succ, List.getElem?_cons_zero]; rfl) (by kernel_rfl) (by kernel_rfl) (by kernel_rfl) (by kernel_rfl) (by kernel_rfl) (fun _ _ _ h => h) (Or.inl ⟨by rfl, ?_⟩) (by assumption) ?_
    rotate_left 1
    · (intro w' hSw; go_simp; try with_reducible rfl)
    try simp only [Act.put, List.setIfInBounds_toArray, List.set_cons_zero, List.set_cons_succ]
    refine wpAnyW_take (i := 5) (v := ?_) (by simp only [List.getElem?_toArray, List.getElem?_cons_succ, List.getElem?_cons_zero]; rfl) (by kernel_rfl) (by kernel_rfl) (by kernel_rfl) (by kernel_rfl) (by kernel_rfl) (fun _ _ _ h => h) (Or.inl ⟨by rfl, ?_⟩) (by assumption) ?_
    rotate_left 1
    · (intro w' hSw; go_simp; try with_reducible rfl)
    try simp only [Act.put, List.setIfInBounds_toArray, List.set_cons_zero, List.set_cons_succ]
    refine wpAnyW_take (i := 6) (v := ?_) (by simp only [List.getElem?_toArray, List.getElem?_cons_succ, List.getElem?_cons_zero]; rfl) (by kernel_rfl) (by kernel_rfl) (by kernel_rfl) (by kernel_rfl) (by kernel_rfl) (fun _ _ _ h => h) (Or.inl ⟨by rfl, ?_⟩) (by assumption) ?_
    rotate_left 1
    · (intro w' hSw; have hq := (hSw.2.2.2.1.cell (p := ⟨b, off + m.st.toNat, none⟩) hbw).trans HEN.out; go_simp; try with_reducible rfl)
    try simp only [Act.put, List.setIfInBounds_toArray, List.set_cons_zero, List.set_cons_succ]
    refine wpAnyW_held (i := 7) (by kernel_rfl) (by simp only [List.getElem?_toArray, List.getElem?_cons_succ, List.getElem?_cons_zero]; rfl) (fun K hK => ?_)
    rw [if_pos (by rfl)]
    go_simp
    refine (HPA.out _).mono ?_
    rintro _ w7 ⟨rfl, rfl⟩
    rw [HPB.out]
    go_wp2_with fail
    refine hK.out _ _ hHeld (fun hHeld => ?_)
    clear hK K
    try simp only [Act.put, List.setIfInBounds_toArray, List.set_cons_zero, List.set_cons_succ]
    refine wpAnyW_take (i := 8) (v := ?_) (by simp only [List.getElem?_toArray, List.getElem?_cons_succ, List.getElem?_cons_zero]; rfl) (by kernel_rfl) (by kernel_rfl) (by kernel_rfl) (by kernel_rfl) (by kernel_rfl) (fun _ _ _ h => h) (Or.inl ⟨by rfl, ?_⟩) (by assumption) ?_
    rotate_left 1
    · (intro w' hSw; go_simp; try with_reducible rfl)
    try simp only [Act.put, List.setIfInBounds_toArray, List.set_cons_zero, List.set_cons_succ]
    refine wpAnyW_take (i := 9) (v := undef) (by simp only [List.getElem?_toArray, List.getElem?_cons_succ, List.getElem?_cons_zero]; rfl) (by kernel_rfl) (by kernel_rfl) (by kernel_rfl) (by kernel_rfl) (by kernel_rfl) (fun _ _ _ h => h) (Or.inr ⟨by rfl, rfl⟩) (by assumption) ?_
    try simp only [Act.put, List.setIfInBounds_toArray, List.set_cons_zero, List.set_cons_succ]
    refine wpAnyW_take (i := 10) (v := undef) (by simp only [List.getElem?_toArray, List.getElem?_cons_succ, List.getElem?_cons_zero]; rfl) (by kernel_rfl) (by kernel_rfl) (by kernel_rfl) (by kernel_rfl) (by kernel_rfl) (fun _ _ _ h => h) (Or.inr ⟨by rfl, rfl⟩) (by assumption) ?_
    try simp only [Act.put, List.setIfInBounds_toArray, List.set_cons_zero, List.set_cons_succ]
    refine wpAnyW_take (i := 11) (v := undef) (by simp only [List.getElem?_toArray, List.getElem?_cons_succ, List.getElem?_cons_zero]; rfl) (by kernel_rfl) (by kernel_rfl) (by kernel_rfl) (by kernel_rfl) (by kernel_rfl) (fun _ _ _ h => h) (Or.inr ⟨by rfl, rfl⟩) (by assumption) ?_
    try simp only [Act.put, List.setIfInBounds_toArray, List.set_cons_zero, List.set_cons_succ]
    refine wpAnyW_take (i := 12) (v := ?_) (by simp only [List.getElem?_toArray, List.getElem?_cons_succ, List.getElem?_cons_zero]; rfl) (by kernel_rfl) (by kernel_rfl) (by kernel_rfl) (by kernel_rfl) (by kernel_rfl) (fun _ _ _ h => h) (Or.inl ⟨by rfl, ?_⟩) (by assumption) ?_
    rotate_left 1
    · (intro w' hSw; go_simp; try with_reducible rfl)
    try simp only [Act.put, List.setIfInBounds_toArray, List.set_cons_zero, List.set_cons_succ]
    refine wpAnyW_held (i := 13) (by kernel_rfl) (by simp only [List.getElem?_toArray, List.getElem?_cons_succ, List.getElem?_cons_zero]; rfl) (fun K hK => ?_)
    rw [if_pos (by rfl)]
    go_simp
    have HQ := Lib.hid hHeld.1
    have HM := Lib.hid hHeld.2.1
    have HZ := Lib.hid hHeld.2.2.1
    have HB := Lib.hid hHeld.2.2.2.1
    have hsw := hHeld.2.2.2.2
    refine hK.out _ _ hHeld (fun hHeld => ?_)
    clear hK K hHeld
    try simp only [Act.put, List.setIfInBounds_toArray, List.set_cons_zero, List.set_cons_succ]
    refine wpAnyW_done (by kernel_rfl) ?_ _
    refine NoPanic.normal ?_
    go_wp2_with ((with_reducible refine gate9 ?_); refine stB (ty := 27) #[.slice none 0 0, .slice none 0 0] rfl rfl rfl rfl HZ.out infoQ rfl (cellsQ_one _ _ _ _ _ _) ?_; intro w6 ht hg; have HZ6 := Lib.hid ht; replace HB := Lib.hid (below_of_grown1 HB.out hg HB.out.size (by omega)); clear ht hg)
    exact bodyPost_ret (retQ3 rfl rfl rfl rfl rfl HZ6.out) rfl (PutR.none _ HB.out)
  | false =>
    have HPB := Lib.hid hpb
    have HAN : Hid (wt.any (sameB m) = true) := Lib.hid (by rw [hpb, Bool.false_or] at hbad; exact hbad)
    clear hpb hbad
    go_enter Try.func12, Try.ntmps12
    go_wp2_with fail
    have HS : (fun U => Bx U w.heap.size 27 #[.slice (some ⟨b, off, none⟩) nx.length cap, .slice A' wt.length cap'] ∧ Bx U (w.heap.size + 1) 40 (cellsMg m) ∧ Bx U (w.heap.size + 2) 27 #[.slice none 0 0, .slice none 0 0] ∧ Below w.heap.size w U ∧ w.heap.size + 3 ≤ U.heap.size) W.drew := ⟨HQ.out.drew, HM.out.drew, HZ.out.drew, below_drawn HB.out, hsz⟩
    clear hW HQ HM HZ HB d0 d1 d2
    refine wp_region_noPanic ?_
    refine wp_region_waits (S := (fun U => Bx U w.heap.size 27 #[.slice (some ⟨b, off, none⟩) nx.length cap, .slice A' wt.length cap'] ∧ Bx U (w.heap.size + 1) 40 (cellsMg m) ∧ Bx U (w.heap.size + 2) 27 #[.slice none 0 0, .slice none 0 0] ∧ Below w.heap.size w U ∧ w.heap.size + 3 ≤ U.heap.size)) [] (by kernel_rfl) HS (fun hHeld => ?_)
    clear HS
    refine wpAnyW_take (i := 0) (v := ?_) (by simp only [List.getElem?_toArray, List.getElem?_cons_zero]; rfl) (by kernel_rfl) (by kernel_rfl) (by kernel_rfl) (by kernel_rfl) (by kernel_rfl) (fun _ _ _ h => h) (Or.inl ⟨by rfl, ?_⟩) (by assumption) ?_
    rotate_left 1
    · (intro w' hSw; go_simp; try with_reducible rfl)
    try simp only [Act.put, List.setIfInBounds_toArray, List.set_cons_zero, List.set_cons_succ]
    refine wpAnyW_take (i := 1) (v := ?_) (by simp only [List.getElem?_toArray, List.getElem?_cons_succ, List.getElem?_cons_zero]; rfl) (by kernel_rfl) (by kernel_rfl) (by kernel_rfl) (by kernel_rfl) (by kernel_rfl) (fun _ _ _ h => h) (Or.inl ⟨by rfl, ?_⟩) (by assumption) ?_
    rotate_left 1
    · (intro w' hSw; have hq := hSw.2.1.cell 3 (.int .u16 (m.ss.toNat : Int)) rfl; go_simp; try with_reducible rfl)
    try simp only [Act.put, List.setIfInBounds_toArray, List.set_cons_zero, List.set_cons_succ]
    refine wpAnyW_take (i := 2) (v := ?_) (by simp only [List.getElem?_toArray, List.getElem?_cons_succ, List.getElem?_cons_zero]; rfl) (by kernel_rfl) (by kernel_rfl) (by kernel_rfl) (by kernel_rfl) (by kernel_rfl) (fun _ _ _ h => h) (Or.inl ⟨by rfl, ?_⟩) (by assumption) ?_
    rotate_left 1
    · (intro w' hSw; go_simp; try with_reducible rfl)
    try simp only [Act.put, List.setIfInBounds_toArray, List.set_cons_zero, List.set_cons_succ]
    refine wpAnyW_take (i := 3) (v := ?_) (by simp only [List.getElem?_toArray, List.getElem?_cons_succ, List.getElem?_cons_zero]; rfl) (by kernel_rfl) (by kernel_rfl) (by kernel_rfl) (by kernel_rfl) (by kernel_rfl) (fun _ _ _ h => h) (Or.inl ⟨by rfl, ?_⟩) (by assumption) ?_
    rotate_left 1
    · (intro w' hSw; have hq := hSw.1.cell 0 (.slice (some ⟨b, off, none⟩) nx.length cap) rfl; go_simp; try with_reducible rfl)
    try simp only [Act.put, List.setIfInBounds_toArray, List.set_cons_zero, List.set_cons_succ]
    refine wpAnyW_take (i := 4) (v := ?_) (by simp only [List.getElem?_toArray, List.getElem?_cons_succ, List.getElem?_cons_zero]; rfl) (by kernel_rfl) (by kernel_rfl) (by kernel_rfl) (by kernel_rfl) (by kernel_rfl) (fun _ _ _ h => h) (Or.inl ⟨by rfl, ?_⟩) (by assumption) ?_
    rotate_left 1
    · (intro w' hSw; go_simp; try with_reducible rfl)
    try simp only [Act.put, List.setIfInBounds_toArray, List.set_cons_zero, List.set_cons_succ]
    refine wpAnyW_take (i := 5) (v := ?_) (by simp only [List.getElem?_toArray, List.getElem?_cons_succ, List.getElem?_cons_zero]; rfl) (by kernel_rfl) (by kernel_rfl) (by kernel_rfl) (by kernel_rfl) (by kernel_rfl) (fun _ _ _ h => h) (Or.inl ⟨by rfl, ?_⟩) (by assumption) ?_
    rotate_left 1
    · (intro w' hSw; go_simp; try with_reducible rfl)
    try simp only [Act.put, List.setIfInBounds_toArray, List.set_cons_zero, List.set_cons_succ]
    refine wpAnyW_take (i := 6) (v := ?_) (by simp only [List.getElem?_toArray, List.getElem?_cons_succ, List.getElem?_cons_zero]; rfl) (by kernel_rfl) (by kernel_rfl) (by kernel_rfl) (by kernel_rfl) (by kernel_rfl) (fun _ _ _ h => h) (Or.inl ⟨by rfl, ?_⟩) (by assumption) ?_
    rotate_left 1
    · (intro w' hSw; have hq := (hSw.2.2.2.1.cell (p := ⟨b, off + m.st.toNat, none⟩) hbw).trans HEN.out; go_simp; try with_reducible rfl)
    try simp only [Act.put, List.setIfInBounds_toArray, List.set_cons_zero, List.set_cons_succ]
    refine wpAnyW_held (i := 7) (by kernel_rfl) (by simp only [List.getElem?_toArray, List.getElem?_cons_succ, List.getElem?_cons_zero]; rfl) (fun K hK => ?_)
    rw [if_pos (by rfl)]
    go_simp
    refine (HPA.out _).mono ?_
    rintro _ w7 ⟨rfl, rfl⟩
    rw [HPB.out]
    go_wp2_with fail
    refine hK.out _ _ hHeld (fun hHeld => ?_)
    clear hK K
    try simp only [Act.put, List.setIfInBounds_toArray, List.set_cons_zero, List.set_cons_succ]
    refine wpAnyW_take (i := 8) (v := ?_) (by simp only [List.getElem?_toArray, List.getElem?_cons_succ, List.getElem?_cons_zero]; rfl) (by kernel_rfl) (by kernel_rfl) (by kernel_rfl) (by kernel_rfl) (by kernel_rfl) (fun _ _ _ h => h) (Or.inl ⟨by rfl, ?_⟩) (by assumption) ?_
    rotate_left 1
    · (intro w' hSw; go_simp; try with_reducible rfl)
    try simp only [Act.put, List.setIfInBounds_toArray, List.set_cons_zero, List.set_cons_succ]
    refine wpAnyW_take (i := 9) (v := _) (by simp only [List.getElem?_toArray, List.getElem?_cons_succ, List.getElem?_cons_zero]; rfl) (by kernel_rfl) (by kernel_rfl) (by kernel_rfl) (by kernel_rfl) (by kernel_rfl) (fun _ _ _ h => h) (yB (ty := 27) (by rfl) rfl rfl (fun V h => h.1) Try.underlying27 rfl infoQ) (by assumption) ?_
    try simp only [Act.put, List.setIfInBounds_toArray, List.set_cons_zero, List.set_cons_succ]
    refine wpAnyW_take (i := 10) (v := _) (by simp only [List.getElem?_toArray, List.getElem?_cons_succ, List.getElem?_cons_zero]; rfl) (by kernel_rfl) (by kernel_rfl) (by kernel_rfl) (by kernel_rfl) (by kernel_rfl) (fun _ _ _ h => h) (yB (ty := 40) (by rfl) rfl rfl (fun V h => h.2.1) Try.underlying40 rfl infoM) (by assumption) ?_
    try simp only [Act.put, List.setIfInBounds_toArray, List.set_cons_zero, List.set_cons_succ]
    refine wpAnyW_held (i := 11) (by kernel_rfl) (by simp only [List.getElem?_toArray, List.getElem?_cons_succ, List.getElem?_cons_zero]; rfl) (fun K hK => ?_)
    rw [if_pos (by rfl)]
    go_simp
    refine (HTH.out _ (HW.out.below hHeld.2.2.2.1)).mono ?_
    rintro _ w9 ⟨rfl, hb⟩
    rw [HAN.out]
    have HS : (fun U => Bx U w.heap.size 27 #[.slice (some ⟨b, off, none⟩) nx.length cap, .slice A' wt.length cap'] ∧ Bx U (w.heap.size + 1) 40 (cellsMg m) ∧ Bx U (w.heap.size + 2) 27 #[.slice none 0 0, .slice none 0 0] ∧ Below w.heap.size w U ∧ w.heap.size + 3 ≤ U.heap.size) _ := ⟨hHeld.1.later hb, hHeld.2.1.later hb, hHeld.2.2.1.later hb, hHeld.2.2.2.1.trans (hb.mono hHeld.2.2.2.1.size), Nat.le_trans hHeld.2.2.2.2 hb.size⟩
    clear hHeld hb
    go_wp2_with fail
    refine hK.out _ _ HS (fun hHeld => ?_)
    clear hK K HS
    try simp only [Act.put, List.setIfInBounds_toArray, List.set_cons_zero, List.set_cons_succ]
    refine wpAnyW_take (i := 12) (v := ?_) (by simp only [List.getElem?_toArray, List.getElem?_cons_succ, List.getElem?_cons_zero]; rfl) (by kernel_rfl) (by kernel_rfl) (by kernel_rfl) (by kernel_rfl) (by kernel_rfl) (fun _ _ _ h => h) (Or.inl ⟨by rfl, ?_⟩) (by assumption) ?_
    rotate_left 1
    · (intro w' hSw; go_simp; try with_reducible rfl)
    try simp only [Act.put, List.setIfInBounds_toArray, List.set_cons_zero, List.set_cons_succ]
    refine wpAnyW_held (i := 13) (by kernel_rfl) (by simp only [List.getElem?_toArray, List.getElem?_cons_succ, List.getElem?_cons_zero]; rfl) (fun K hK => ?_)
    rw [if_pos (by rfl)]
    go_simp
    have HQ := Lib.hid hHeld.1
    have HM := Lib.hid hHeld.2.1
    have HZ := Lib.hid hHeld.2.2.1
    have HB := Lib.hid hHeld.2.2.2.1
    have hsw := hHeld.2.2.2.2
    refine hK.out _ _ hHeld (fun hHeld => ?_)
    clear hK K hHeld
    try simp only [Act.put, List.setIfInBounds_toArray, List.set_cons_zero, List.set_cons_succ]
    refine wpAnyW_done (by kernel_rfl) ?_ _
    refine NoPanic.normal ?_
    go_wp2_with ((with_reducible refine gate9 ?_); refine stB (ty := 27) #[.slice none 0 0, .slice none 0 0] rfl rfl rfl rfl HZ.out infoQ rfl (cellsQ_one _ _ _ _ _ _) ?_; intro w6 ht hg; have HZ6 := Lib.hid ht; replace HB := Lib.hid (below_of_grown1 HB.out hg HB.out.size (by omega)); clear ht hg)
    exact bodyPost_ret (retQ3 rfl rfl rfl rfl rfl HZ6.out) rfl (PutR.none _ HB.out)
end Go.Proofs.Ytondgdacjbfihaa
