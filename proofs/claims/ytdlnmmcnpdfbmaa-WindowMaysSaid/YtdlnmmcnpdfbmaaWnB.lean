/-
  Package window: New, May, Slow, Acked, Lost, Timeout, Idle: contracts.
-/
import Derived.Test.YtdlnmmcnpdfbmaaWnA
import Derived.Test.YtdlnmmcnpdfbmaaWaits
namespace Go.Proofs.Ytdlnmmcnpdfbmaa
open Go.RowKit
set_option linter.unusedVariables false
set_option linter.unusedSimpArgs false

theorem new_any (n : Int) (w : World) : Calls Try.prog 8 #[.int .i64 n] w fun e w' => e = .returned (.agg (cellsT (newT n))) ∧ Below w.heap.size w w' := by
  have HS := Lib.hid (fun W => kept_any n W)
  have HT := Lib.hid (show newT n = ⟨4500, keptI n, 0⟩ from rfl)
  generalize newT n = R at *
  generalize keptI n = k at *
  go_enter Try.func8, Try.ntmps8
  go_wp2_with (go_at_call 15; refine (HS.out _).mono ?_; rintro e w1 ⟨rfl, rfl⟩)
  exact bodyPost_ret (retW (t := ⟨4500, k, 0⟩) rfl rfl (Bx.fresh w 25 _)) rfl ⟨by rw [HT.out], (Below.refl _ _).alloc (Nat.le_refl _) _⟩
theorem slow_any (t : Wn) (w : World) : Calls Try.prog 14 #[.agg (cellsT t)] w fun e w' => e = .returned (.bool (slowB t)) ∧ Below w.heap.size w w' := by
  have HH := Lib.hid (fun W => held_any t W)
  have HT := Lib.hid (show slowB t = decide ((heldT t).cw ≤ (heldT t).ss) from rfl)
  generalize slowB t = R at *
  generalize heldT t = h at *
  have HA := Lib.hid (BS.first w 25 (cellsT t))
  go_enter Try.func14, Try.ntmps14
  go_wp2_with (first
    | (refine gate9 ?_; refine ldW (.tmp 1) w.heap.size rfl rfl rfl HA.out.own ?_)
    | (go_at_call 20; (with_reducible refine (HH.out _).mono ?_); rintro e w1 ⟨rfl, hb⟩; replace HA := Lib.hid (HA.out.later hb); clear hb)
    | (refine gate9 ?_; refine stW (.tmp 1) (.tmp 4) w.heap.size h rfl rfl rfl rfl HA.out.own ?_; intro w2 ht hg; replace HA := Lib.hid (HA.out.set ht hg); clear ht hg
       have c0 := HA.out.own.cell 0 (.int .i64 h.cw) rfl
       have c1 := HA.out.own.cell 1 (.int .i64 h.ss) rfl))
  go_ret
  exact ⟨by rw [HT.out]; rfl, HA.out.below⟩
theorem stayed_any (t : Wn) (b o : Int) (w : World) : Calls Try.prog 23 #[.agg (cellsT t), .int .i64 b, .int .i64 o] w fun e w' => e = .returned (.agg (cellsT t)) ∧ Below w.heap.size w w' := by
  have HA : Hid (Bx ((w.alloc (.cells (cellsT t) 25)).alloc (.cells #[.int .i64 0, .int .i64 0, .int .i64 0] 25)) w.heap.size 25 (cellsT t)) := Lib.hid ((Bx.fresh w 25 (cellsT t)).old _)
  have HZ : Hid (Bx ((w.alloc (.cells (cellsT t) 25)).alloc (.cells #[.int .i64 0, .int .i64 0, .int .i64 0] 25)) (w.heap.size + 1) 25 (cellsT zeroT)) := Lib.hid (heap_two w _ _)
  have HB : Hid (Below w.heap.size w ((w.alloc (.cells (cellsT t) 25)).alloc (.cells #[.int .i64 0, .int .i64 0, .int .i64 0] 25))) := Lib.hid (below_two w _ _)
  go_enter Try.func23, Try.ntmps23
  go_wp2_with (first
    | (refine gate9 ?_; refine ldW (.tmp 3) w.heap.size rfl rfl rfl HA.out ?_)
    | (refine gate9 ?_; refine stW (.tmp 6) (.tmp 7) (w.heap.size + 1) (t) rfl rfl rfl rfl HZ.out ?_; intro w2 ht hg; replace HA := Lib.hid (HA.out.kept hg (by omega)); replace HB := Lib.hid (below_of_grown1 HB.out hg HB.out.size (by omega)); replace HZ := Lib.hid ht; clear ht hg))
  exact bodyPost_ret (retW rfl rfl HZ.out) rfl ⟨rfl, HB.out⟩
theorem restarted_any (t : Wn) (ht : Inb t) (w : World) : Calls Try.prog 18 #[.agg (cellsT t)] w fun e w' => e = .returned (.agg (cellsT (restartedT t))) ∧ Below w.heap.size w w' := by
  have HH := Lib.hid (fun W => half_any t ht W)
  have HT := Lib.hid (show restartedT t = ⟨1500, halfI t, 0⟩ from rfl)
  generalize restartedT t = R at *
  generalize halfI t = h at *
  clear ht
  have HA : Hid (Bx ((w.alloc (.cells (cellsT t) 25)).alloc (.cells #[.int .i64 0, .int .i64 0, .int .i64 0] 25)) w.heap.size 25 (cellsT t)) := Lib.hid ((Bx.fresh w 25 (cellsT t)).old _)
  have HZ : Hid (Bx ((w.alloc (.cells (cellsT t) 25)).alloc (.cells #[.int .i64 0, .int .i64 0, .int .i64 0] 25)) (w.heap.size + 1) 25 (cellsT zeroT)) := Lib.hid (heap_two w _ _)
  have HB : Hid (Below w.heap.size w ((w.alloc (.cells (cellsT t) 25)).alloc (.cells #[.int .i64 0, .int .i64 0, .int .i64 0] 25))) := Lib.hid (below_two w _ _)
  go_enter Try.func18, Try.ntmps18
  go_wp2_with (first
    | (refine gate9 ?_; refine ldW (.tmp 1) w.heap.size rfl rfl rfl HA.out ?_)
    | (go_at_call 22; (with_reducible refine (HH.out _).mono ?_); rintro e w1 ⟨rfl, hb⟩; replace HA := Lib.hid (HA.out.later hb); replace HZ := Lib.hid (HZ.out.later hb); have hz := hb.size; replace HB := Lib.hid (HB.out.trans (hb.mono HB.out.size)); clear hb hz)
    | (refine gate9 ?_; refine stW (.tmp 2) (.tmp 5) (w.heap.size + 1) (⟨1500, h, 0⟩) rfl rfl rfl rfl HZ.out ?_; intro w2 ht hg; replace HA := Lib.hid (HA.out.kept hg (by omega)); replace HB := Lib.hid (below_of_grown1 HB.out hg HB.out.size (by omega)); replace HZ := Lib.hid ht; clear ht hg))
  exact bodyPost_ret (retW rfl rfl HZ.out) rfl ⟨by rw [HT.out], HB.out⟩
theorem halved_any (t : Wn) (ht : Inb t) (w : World) : Calls Try.prog 17 #[.agg (cellsT t)] w fun e w' => e = .returned (.agg (cellsT (halvedT t))) ∧ Below w.heap.size w w' := by
  have HH := Lib.hid (fun W => half_any t ht W)
  have HT := Lib.hid (show halvedT t = ⟨halfI t, halfI t, 0⟩ from rfl)
  generalize halvedT t = R at *
  generalize halfI t = h at *
  clear ht
  have HA : Hid (Bx ((w.alloc (.cells (cellsT t) 25)).alloc (.cells #[.int .i64 0, .int .i64 0, .int .i64 0] 25)) w.heap.size 25 (cellsT t)) := Lib.hid ((Bx.fresh w 25 (cellsT t)).old _)
  have HZ : Hid (Bx ((w.alloc (.cells (cellsT t) 25)).alloc (.cells #[.int .i64 0, .int .i64 0, .int .i64 0] 25)) (w.heap.size + 1) 25 (cellsT zeroT)) := Lib.hid (heap_two w _ _)
  have HB : Hid (Below w.heap.size w ((w.alloc (.cells (cellsT t) 25)).alloc (.cells #[.int .i64 0, .int .i64 0, .int .i64 0] 25))) := Lib.hid (below_two w _ _)
  go_enter Try.func17, Try.ntmps17
  go_wp2_with (first
    | (refine gate9 ?_; refine ldW (.tmp 1) w.heap.size rfl rfl rfl HA.out ?_)
    | (go_at_call 22; (with_reducible refine (HH.out _).mono ?_); rintro e w1 ⟨rfl, hb⟩; replace HA := Lib.hid (HA.out.later hb); replace HZ := Lib.hid (HZ.out.later hb); have hz := hb.size; replace HB := Lib.hid (HB.out.trans (hb.mono HB.out.size)); clear hb hz)
    | (refine gate9 ?_; refine stW (.tmp 2) (.tmp 8) (w.heap.size + 1) (⟨h, h, 0⟩) rfl rfl rfl rfl HZ.out ?_; intro w2 ht hg; replace HA := Lib.hid (HA.out.kept hg (by omega)); replace HB := Lib.hid (below_of_grown1 HB.out hg HB.out.size (by omega)); replace HZ := Lib.hid ht; clear ht hg))
  exact bodyPost_ret (retW rfl rfl HZ.out) rfl ⟨by rw [HT.out], HB.out⟩
set_option maxRecDepth 100000 in
theorem rested_any (t : Wn) (ht : Inb t) (w : World) : Calls Try.prog 19 #[.agg (cellsT t)] w fun e w' => e = .returned (.agg (cellsT (restedT t))) ∧ Below w.heap.size w w' := by
  have HH := Lib.hid (fun W => half_any t ht W)
  have HT := Lib.hid (show restedT t = ⟨min t.cw (halfI t), t.ss, t.pa⟩ from rfl)
  generalize restedT t = R at *
  generalize halfI t = h at *
  clear ht
  have hm : (if h < t.cw then h else t.cw) = min t.cw h := by omega
  generalize min t.cw h = m at *
  obtain ⟨cw, ss, pa⟩ := t
  simp only at hm HT
  have HA : Hid (Bx ((w.alloc (.cells (cellsT (⟨cw, ss, pa⟩ : Wn)) 25)).alloc (.cells #[.int .i64 0, .int .i64 0, .int .i64 0] 25)) w.heap.size 25 (cellsT (⟨cw, ss, pa⟩ : Wn))) := Lib.hid ((Bx.fresh w 25 (cellsT (⟨cw, ss, pa⟩ : Wn))).old _)
  have HZ : Hid (Bx ((w.alloc (.cells (cellsT (⟨cw, ss, pa⟩ : Wn)) 25)).alloc (.cells #[.int .i64 0, .int .i64 0, .int .i64 0] 25)) (w.heap.size + 1) 25 (cellsT zeroT)) := Lib.hid (heap_two w _ _)
  have HB : Hid (Below w.heap.size w ((w.alloc (.cells (cellsT (⟨cw, ss, pa⟩ : Wn)) 25)).alloc (.cells #[.int .i64 0, .int .i64 0, .int .i64 0] 25))) := Lib.hid (below_two w _ _)
  go_enter Try.func19, Try.ntmps19
  go_wp2_with fail
  refine wp_region_noPanic ?_
  refine wp_region_waits (S := fun V => Bx V w.heap.size 25 (cellsT ⟨cw, ss, pa⟩) ∧ Bx V (w.heap.size + 1) 25 (cellsT zeroT) ∧ Below w.heap.size w V) [6] (by kernel_rfl) ⟨HA.out.drew, HZ.out.drew, below_drawn HB.out⟩ (fun hHeld => ?_)
  clear HA HZ HB
  refine wpAnyW_take (i := 0) (v := ?_) (by simp only [List.getElem?_toArray, List.getElem?_cons_zero]; rfl) (by kernel_rfl) (by kernel_rfl) (by kernel_rfl) (by kernel_rfl) (by kernel_rfl) (fun _ _ _ h => h) (Or.inl ⟨by rfl, ?_⟩) (by assumption) ?_
  rotate_left 1
  · (intro w' hSw; go_simp; try with_reducible rfl)
  try simp only [Act.put, List.setIfInBounds_toArray, List.set_cons_zero, List.set_cons_succ]
  refine wpAnyW_take (i := 1) (v := ?_) (by simp only [List.getElem?_toArray, List.getElem?_cons_succ, List.getElem?_cons_zero]; rfl) (by kernel_rfl) (by kernel_rfl) (by kernel_rfl) (by kernel_rfl) (by kernel_rfl) (fun _ _ _ h => h) (Or.inl ⟨by rfl, ?_⟩) (by assumption) ?_
  rotate_left 1
  · (intro w' hSw; have hq : w'.cell? ⟨w.heap.size, 0, none⟩ = some (.int .i64 cw) := hSw.1.cell 0 _ rfl; go_simp; try with_reducible rfl)
  try simp only [Act.put, List.setIfInBounds_toArray, List.set_cons_zero, List.set_cons_succ]
  refine wpAnyW_take (i := 2) (v := _) (by simp only [List.getElem?_toArray, List.getElem?_cons_succ, List.getElem?_cons_zero]; rfl) (by kernel_rfl) (by kernel_rfl) (by kernel_rfl) (by kernel_rfl) (by kernel_rfl) (fun _ _ _ h => h) (yW (by rfl) (.tmp 1) w.heap.size rfl rfl (fun V h => h.1)) (by assumption) ?_
  try simp only [Act.put, List.setIfInBounds_toArray, List.set_cons_zero, List.set_cons_succ]
  refine wpAnyW_held (i := 3) (by kernel_rfl) (by simp only [List.getElem?_toArray, List.getElem?_cons_succ, List.getElem?_cons_zero]; rfl) (fun K hK => ?_)
  rw [if_pos (by rfl)]
  go_simp
  refine (HH.out _).mono ?_
  rintro _ w1 ⟨rfl, hb⟩
  have hS := And.intro (hHeld.1.later hb) (And.intro (hHeld.2.1.later hb) (hHeld.2.2.trans (hb.mono hHeld.2.2.size)))
  clear hHeld hb
  go_wp2_with fail
  refine hK.out _ _ hS (fun hHeld => ?_)
  clear hK K hS HH
  try simp only [Act.put, List.setIfInBounds_toArray, List.set_cons_zero, List.set_cons_succ]
  refine wpAnyW_take (i := 4) (v := ?_) (by simp only [List.getElem?_toArray, List.getElem?_cons_succ, List.getElem?_cons_zero]; rfl) (by kernel_rfl) (by kernel_rfl) (by kernel_rfl) (by kernel_rfl) (by kernel_rfl) (fun _ _ _ h => h) (Or.inl ⟨by rfl, ?_⟩) (by assumption) ?_
  rotate_left 1
  · (intro w' hSw; go_simp; try with_reducible rfl)
  try simp only [Act.put, List.setIfInBounds_toArray, List.set_cons_zero, List.set_cons_succ]
  refine wpAnyW_take (i := 5) (v := ?_) (by simp only [List.getElem?_toArray, List.getElem?_cons_succ, List.getElem?_cons_zero]; rfl) (by kernel_rfl) (by kernel_rfl) (by kernel_rfl) (by kernel_rfl) (by kernel_rfl) (fun _ _ _ h => h) (Or.inl ⟨by rfl, ?_⟩) (by assumption) ?_
  rotate_left 1
  · (intro w' hSw; go_simp; try with_reducible rfl)
  try simp only [Act.put, List.setIfInBounds_toArray, List.set_cons_zero, List.set_cons_succ]
  refine wpAnyW_freed (i := 6) (by kernel_rfl) (by kernel_rfl) (by simp only [List.getElem?_toArray, List.getElem?_cons_succ, List.getElem?_cons_zero]; rfl) (fun K hK => ?_)
  rw [if_pos (by rfl)]
  refine wfldW (.tmp 8) (.tmp 7) w.heap.size 0 ⟨m, ss, pa⟩ (.int .i64 m) 3 rfl rfl rfl hHeld.1 (by decide) infoI rfl rfl ?_
  intro w2 ht hg
  have HZ := Lib.hid (hHeld.2.1.kept hg (by omega))
  have HB := Lib.hid (below_of_grown1 hHeld.2.2 hg hHeld.2.2.size (by omega))
  have HA := Lib.hid ht
  clear ht hg hHeld
  refine hK.out _ _ ?_
  clear hK K
  try simp only [Act.put, List.setIfInBounds_toArray, List.set_cons_zero, List.set_cons_succ]
  refine wpAnyW_done (by kernel_rfl) ?_ _
  refine NoPanic.normal ?_
  go_wp2_with (first
    | (refine gate9 ?_; refine ldW (.tmp 1) w.heap.size rfl rfl rfl HA.out ?_)
    | (refine gate9 ?_; refine stW (.tmp 2) (.tmp 9) (w.heap.size + 1) (⟨m, ss, pa⟩) rfl rfl rfl rfl HZ.out ?_; intro w2 ht hg; replace HA := Lib.hid (HA.out.kept hg (by omega)); replace HB := Lib.hid (below_of_grown1 HB.out hg HB.out.size (by omega)); replace HZ := Lib.hid ht; clear ht hg))
  exact bodyPost_ret (retW rfl rfl HZ.out) rfl ⟨by rw [HT.out], HB.out⟩
theorem fast_any (t : Wn) (b o : Int) (ht : Inb t) (hb0 : 0 ≤ b) (hb1 : b ≤ 1073741824) (w : World) : Calls Try.prog 24 #[.agg (cellsT t), .int .i64 b, .int .i64 o] w fun e w' => e = .returned (.agg (cellsT (fastT t b o))) ∧ Below w.heap.size w w' := by
  have HF := Lib.hid (fun W => full_any t o W)
  have h1 := ht.cw
  have hm : (if 1500 < b then 1500 else b) = min b 1500 := by omega
  have hn : 0 ≤ min b 1500 ∧ min b 1500 ≤ 1500 := by omega
  by_cases hlt : t.cw ≤ o
  · have HT := Lib.hid (show fastT t b o = ⟨t.cw + min b 1500, t.ss, 0⟩ from if_pos hlt)
    generalize fastT t b o = R at *
    generalize min b 1500 = m at *
    obtain ⟨cw, ss, pa⟩ := t
    simp only at hlt h1 HT
    have hd : decide (cw ≤ o) = true := decide_eq_true hlt
    have hs : IntKind.i64.wrap (cw + m) = cw + m := by rw [IntKind.wrap_i64]; omega
    clear ht hlt
    replace HF := Lib.hid (fun W => (HF.out W).mono fun e V hh => (by simpa [hd] using hh : e = .returned (.bool true) ∧ Below W.heap.size W V))
    have HA : Hid (Bx ((w.alloc (.cells (cellsT ⟨cw, ss, pa⟩) 25)).alloc (.cells #[.int .i64 0, .int .i64 0, .int .i64 0] 25)) w.heap.size 25 (cellsT ⟨cw, ss, pa⟩)) := Lib.hid ((Bx.fresh w 25 (cellsT ⟨cw, ss, pa⟩)).old _)
    have HZ : Hid (Bx ((w.alloc (.cells (cellsT ⟨cw, ss, pa⟩) 25)).alloc (.cells #[.int .i64 0, .int .i64 0, .int .i64 0] 25)) (w.heap.size + 1) 25 (cellsT zeroT)) := Lib.hid (heap_two w _ _)
    have HB : Hid (Below w.heap.size w ((w.alloc (.cells (cellsT ⟨cw, ss, pa⟩) 25)).alloc (.cells #[.int .i64 0, .int .i64 0, .int .i64 0] 25))) := Lib.hid (below_two w _ _)
    go_enter Try.func24, Try.ntmps24
    go_wp2_with (first
    | (refine gate9 ?_; refine ldW (.tmp 3) w.heap.size rfl rfl rfl HA.out ?_)
    | (go_at_call 26; (with_reducible refine (HF.out _).mono ?_); rintro e w1 ⟨rfl, hb⟩; replace HA := Lib.hid (HA.out.later hb); replace HZ := Lib.hid (HZ.out.later hb); have hz := hb.size; replace HB := Lib.hid (HB.out.trans (hb.mono HB.out.size)); clear hb hz; have c0 := HA.out.cell 0 (.int .i64 ((⟨cw, ss, pa⟩ : Wn)).cw) rfl; have c1 := HA.out.cell 1 (.int .i64 ((⟨cw, ss, pa⟩ : Wn)).ss) rfl; have c2 := HA.out.cell 2 (.int .i64 ((⟨cw, ss, pa⟩ : Wn)).pa) rfl)
    | (refine gate9 ?_; refine fldW (.tmp 15) (.tmp 14) w.heap.size 0 (⟨cw + m, ss, pa⟩) (.int .i64 (cw + m)) 3 rfl rfl rfl rfl HA.out (by decide) infoI rfl rfl ?_; intro w2 ht hg; replace HZ := Lib.hid (HZ.out.kept hg (by omega)); replace HB := Lib.hid (below_of_grown1 HB.out hg HB.out.size (by omega)); replace HA := Lib.hid ht; clear ht hg)
    | (refine gate9 ?_; refine fldW (.tmp 16) (.const (.int .i64 0)) w.heap.size 2 (⟨cw + m, ss, 0⟩) (.int .i64 (0)) 3 rfl rfl rfl rfl HA.out (by decide) infoI rfl rfl ?_; intro w2 ht hg; replace HZ := Lib.hid (HZ.out.kept hg (by omega)); replace HB := Lib.hid (below_of_grown1 HB.out hg HB.out.size (by omega)); replace HA := Lib.hid ht; clear ht hg)
    | (refine gate9 ?_; refine stW (.tmp 6) (.tmp 17) (w.heap.size + 1) (⟨cw + m, ss, 0⟩) rfl rfl rfl rfl HZ.out ?_; intro w2 ht hg; replace HA := Lib.hid (HA.out.kept hg (by omega)); replace HB := Lib.hid (below_of_grown1 HB.out hg HB.out.size (by omega)); replace HZ := Lib.hid ht; clear ht hg))
    exact bodyPost_ret (retW rfl rfl HZ.out) rfl ⟨by rw [HT.out], HB.out⟩
  · have HT := Lib.hid (show fastT t b o = ⟨t.cw, t.ss, 0⟩ from if_neg hlt)
    generalize fastT t b o = R at *
    obtain ⟨cw, ss, pa⟩ := t
    simp only at hlt h1 HT
    have hd : decide (cw ≤ o) = false := decide_eq_false hlt
    clear ht hlt
    replace HF := Lib.hid (fun W => (HF.out W).mono fun e V hh => (by simpa [hd] using hh : e = .returned (.bool false) ∧ Below W.heap.size W V))
    have HA : Hid (Bx ((w.alloc (.cells (cellsT ⟨cw, ss, pa⟩) 25)).alloc (.cells #[.int .i64 0, .int .i64 0, .int .i64 0] 25)) w.heap.size 25 (cellsT ⟨cw, ss, pa⟩)) := Lib.hid ((Bx.fresh w 25 (cellsT ⟨cw, ss, pa⟩)).old _)
    have HZ : Hid (Bx ((w.alloc (.cells (cellsT ⟨cw, ss, pa⟩) 25)).alloc (.cells #[.int .i64 0, .int .i64 0, .int .i64 0] 25)) (w.heap.size + 1) 25 (cellsT zeroT)) := Lib.hid (heap_two w _ _)
    have HB : Hid (Below w.heap.size w ((w.alloc (.cells (cellsT ⟨cw, ss, pa⟩) 25)).alloc (.cells #[.int .i64 0, .int .i64 0, .int .i64 0] 25))) := Lib.hid (below_two w _ _)
    go_enter Try.func24, Try.ntmps24
    go_wp2_with (first
    | (refine gate9 ?_; refine ldW (.tmp 3) w.heap.size rfl rfl rfl HA.out ?_)
    | (go_at_call 26; (with_reducible refine (HF.out _).mono ?_); rintro e w1 ⟨rfl, hb⟩; replace HA := Lib.hid (HA.out.later hb); replace HZ := Lib.hid (HZ.out.later hb); have hz := hb.size; replace HB := Lib.hid (HB.out.trans (hb.mono HB.out.size)); clear hb hz)
    | (refine gate9 ?_; refine fldW (.tmp 16) (.const (.int .i64 0)) w.heap.size 2 (⟨cw, ss, 0⟩) (.int .i64 (0)) 3 rfl rfl rfl rfl HA.out (by decide) infoI rfl rfl ?_; intro w2 ht hg; replace HZ := Lib.hid (HZ.out.kept hg (by omega)); replace HB := Lib.hid (below_of_grown1 HB.out hg HB.out.size (by omega)); replace HA := Lib.hid ht; clear ht hg)
    | (refine gate9 ?_; refine stW (.tmp 6) (.tmp 17) (w.heap.size + 1) (⟨cw, ss, 0⟩) rfl rfl rfl rfl HZ.out ?_; intro w2 ht hg; replace HA := Lib.hid (HA.out.kept hg (by omega)); replace HB := Lib.hid (below_of_grown1 HB.out hg HB.out.size (by omega)); replace HZ := Lib.hid ht; clear ht hg))
    exact bodyPost_ret (retW rfl rfl HZ.out) rfl ⟨by rw [HT.out], HB.out⟩
set_option maxRecDepth 100000 in
theorem steady_111 (cw ss pa b o : Int) (h1 : 1500 ≤ cw ∧ cw ≤ 1073741824) (h2 : 0 ≤ pa ∧ pa ≤ 1073741824) (hb0 : 0 ≤ b) (hb1 : b ≤ 1073741824) (g1 : cw ≤ pa + b) (g2 : cw ≤ o) (g3 : b = o) (w : World) : Calls Try.prog 25 #[.agg (cellsT ⟨cw, ss, pa⟩), .int .i64 b, .int .i64 o] w fun e w' => e = .returned (.agg (cellsT ⟨cw + 1500, ss, 0⟩)) ∧ Below w.heap.size w w' := by
  obtain rfl : b = o := g3
  have HF : Hid (∀ W : World, Calls Try.prog 26 #[.agg #[.int .i64 cw, .int .i64 ss, .int .i64 (pa + b)], .int .i64 b] W fun e V => e = .returned (.bool (decide (cw ≤ b))) ∧ Below W.heap.size W V) := Lib.hid (fun W => full_any ⟨cw, ss, pa + b⟩ b W)
  have hd : decide (cw ≤ b) = true := decide_eq_true g2
  replace HF := Lib.hid (fun W => (HF.out W).mono fun e V hh => (by simpa [hd] using hh : e = .returned (.bool true) ∧ Below W.heap.size W V))
  clear hd
  have s1 : IntKind.i64.wrap (pa + b) = pa + b := by rw [IntKind.wrap_i64]; omega
  have s2 : IntKind.i64.wrap (pa + b - cw) = pa + b - cw := by rw [IntKind.wrap_i64]; omega
  have s3 : IntKind.i64.wrap (cw + 1500) = cw + 1500 := by rw [IntKind.wrap_i64]; omega
  have HA : Hid (Bx ((w.alloc (.cells (cellsT ⟨cw, ss, pa⟩) 25)).alloc (.cells #[.int .i64 0, .int .i64 0, .int .i64 0] 25)) w.heap.size 25 (cellsT ⟨cw, ss, pa⟩)) := Lib.hid ((Bx.fresh w 25 (cellsT ⟨cw, ss, pa⟩)).old _)
  have HZ : Hid (Bx ((w.alloc (.cells (cellsT ⟨cw, ss, pa⟩) 25)).alloc (.cells #[.int .i64 0, .int .i64 0, .int .i64 0] 25)) (w.heap.size + 1) 25 (cellsT zeroT)) := Lib.hid (heap_two w _ _)
  have HB : Hid (Below w.heap.size w ((w.alloc (.cells (cellsT ⟨cw, ss, pa⟩) 25)).alloc (.cells #[.int .i64 0, .int .i64 0, .int .i64 0] 25))) := Lib.hid (below_two w _ _)
  have d0 := HA.out.cell 2 (.int .i64 pa) rfl
  go_enter Try.func25, Try.ntmps25
  go_wp2_with (first
    | (refine gate9 ?_; refine ldW (.tmp 3) w.heap.size rfl rfl rfl HA.out ?_)
    | (refine gate9 ?_; refine fldW (.tmp 11) (.tmp 10) w.heap.size 2 (⟨cw, ss, pa + b⟩) (.int .i64 (pa + b)) 3 rfl rfl rfl rfl HA.out (by decide) infoI rfl rfl ?_; intro w2 ht hg; replace HZ := Lib.hid (HZ.out.kept hg (by omega)); replace HB := Lib.hid (below_of_grown1 HB.out hg HB.out.size (by omega)); replace HA := Lib.hid ht; clear ht hg; clear d0; have c0 := HA.out.cell 0 (.int .i64 ((⟨cw, ss, pa + b⟩ : Wn)).cw) rfl; have c1 := HA.out.cell 1 (.int .i64 ((⟨cw, ss, pa + b⟩ : Wn)).ss) rfl; have c2 := HA.out.cell 2 (.int .i64 ((⟨cw, ss, pa + b⟩ : Wn)).pa) rfl)
    | (go_at_call 26; (with_reducible refine (HF.out _).mono ?_); rintro e w1 ⟨rfl, hb⟩; replace HA := Lib.hid (HA.out.later hb); replace HZ := Lib.hid (HZ.out.later hb); have hz := hb.size; replace HB := Lib.hid (HB.out.trans (hb.mono HB.out.size)); clear hb hz; clear c0 c1 c2; have c0 := HA.out.cell 0 (.int .i64 ((⟨cw, ss, pa + b⟩ : Wn)).cw) rfl; have c1 := HA.out.cell 1 (.int .i64 ((⟨cw, ss, pa + b⟩ : Wn)).ss) rfl; have c2 := HA.out.cell 2 (.int .i64 ((⟨cw, ss, pa + b⟩ : Wn)).pa) rfl)
    | (refine gate9 ?_; refine fldW (.tmp 27) (.tmp 26) w.heap.size 2 (⟨cw, ss, pa + b - cw⟩) (.int .i64 (pa + b - cw)) 3 rfl rfl rfl rfl HA.out (by decide) infoI rfl rfl ?_; intro w2 ht hg; replace HZ := Lib.hid (HZ.out.kept hg (by omega)); replace HB := Lib.hid (below_of_grown1 HB.out hg HB.out.size (by omega)); replace HA := Lib.hid ht; clear ht hg; clear c0 c1 c2; have c0 := HA.out.cell 0 (.int .i64 ((⟨cw, ss, pa + b - cw⟩ : Wn)).cw) rfl; have c1 := HA.out.cell 1 (.int .i64 ((⟨cw, ss, pa + b - cw⟩ : Wn)).ss) rfl; have c2 := HA.out.cell 2 (.int .i64 ((⟨cw, ss, pa + b - cw⟩ : Wn)).pa) rfl)
    | (refine gate9 ?_; refine fldW (.tmp 31) (.tmp 30) w.heap.size 0 (⟨cw + 1500, ss, pa + b - cw⟩) (.int .i64 (cw + 1500)) 3 rfl rfl rfl rfl HA.out (by decide) infoI rfl rfl ?_; intro w2 ht hg; replace HZ := Lib.hid (HZ.out.kept hg (by omega)); replace HB := Lib.hid (below_of_grown1 HB.out hg HB.out.size (by omega)); replace HA := Lib.hid ht; clear ht hg; clear c0 c1 c2)
    | (refine gate9 ?_; refine fldW (.tmp 35) (.const (.int .i64 0)) w.heap.size 2 (⟨cw + 1500, ss, 0⟩) (.int .i64 (0)) 3 rfl rfl rfl rfl HA.out (by decide) infoI rfl rfl ?_; intro w2 ht hg; replace HZ := Lib.hid (HZ.out.kept hg (by omega)); replace HB := Lib.hid (below_of_grown1 HB.out hg HB.out.size (by omega)); replace HA := Lib.hid ht; clear ht hg; try clear c0 c1 c2)
    | (refine gate9 ?_; refine stW (.tmp 6) (.tmp 36) (w.heap.size + 1) (⟨cw + 1500, ss, 0⟩) rfl rfl rfl rfl HZ.out ?_; intro w2 ht hg; replace HA := Lib.hid (HA.out.kept hg (by omega)); replace HB := Lib.hid (below_of_grown1 HB.out hg HB.out.size (by omega)); replace HZ := Lib.hid ht; clear ht hg))
  exact bodyPost_ret (retW rfl rfl HZ.out) rfl ⟨rfl, HB.out⟩
set_option maxRecDepth 100000 in
theorem steady_110 (cw ss pa b o : Int) (h1 : 1500 ≤ cw ∧ cw ≤ 1073741824) (h2 : 0 ≤ pa ∧ pa ≤ 1073741824) (hb0 : 0 ≤ b) (hb1 : b ≤ 1073741824) (g1 : cw ≤ pa + b) (g2 : cw ≤ o) (g3 : ¬ b = o) (w : World) : Calls Try.prog 25 #[.agg (cellsT ⟨cw, ss, pa⟩), .int .i64 b, .int .i64 o] w fun e w' => e = .returned (.agg (cellsT ⟨cw + 1500, ss, pa + b - cw⟩)) ∧ Below w.heap.size w w' := by
  have HF : Hid (∀ W : World, Calls Try.prog 26 #[.agg #[.int .i64 cw, .int .i64 ss, .int .i64 (pa + b)], .int .i64 o] W fun e V => e = .returned (.bool (decide (cw ≤ o))) ∧ Below W.heap.size W V) := Lib.hid (fun W => full_any ⟨cw, ss, pa + b⟩ o W)
  have hd : decide (cw ≤ o) = true := decide_eq_true g2
  replace HF := Lib.hid (fun W => (HF.out W).mono fun e V hh => (by simpa [hd] using hh : e = .returned (.bool true) ∧ Below W.heap.size W V))
  clear hd
  have s1 : IntKind.i64.wrap (pa + b) = pa + b := by rw [IntKind.wrap_i64]; omega
  have s2 : IntKind.i64.wrap (pa + b - cw) = pa + b - cw := by rw [IntKind.wrap_i64]; omega
  have s3 : IntKind.i64.wrap (cw + 1500) = cw + 1500 := by rw [IntKind.wrap_i64]; omega
  have HA : Hid (Bx ((w.alloc (.cells (cellsT ⟨cw, ss, pa⟩) 25)).alloc (.cells #[.int .i64 0, .int .i64 0, .int .i64 0] 25)) w.heap.size 25 (cellsT ⟨cw, ss, pa⟩)) := Lib.hid ((Bx.fresh w 25 (cellsT ⟨cw, ss, pa⟩)).old _)
  have HZ : Hid (Bx ((w.alloc (.cells (cellsT ⟨cw, ss, pa⟩) 25)).alloc (.cells #[.int .i64 0, .int .i64 0, .int .i64 0] 25)) (w.heap.size + 1) 25 (cellsT zeroT)) := Lib.hid (heap_two w _ _)
  have HB : Hid (Below w.heap.size w ((w.alloc (.cells (cellsT ⟨cw, ss, pa⟩) 25)).alloc (.cells #[.int .i64 0, .int .i64 0, .int .i64 0] 25))) := Lib.hid (below_two w _ _)
  have d0 := HA.out.cell 2 (.int .i64 pa) rfl
  go_enter Try.func25, Try.ntmps25
  go_wp2_with (first
    | (refine gate9 ?_; refine ldW (.tmp 3) w.heap.size rfl rfl rfl HA.out ?_)
    | (refine gate9 ?_; refine fldW (.tmp 11) (.tmp 10) w.heap.size 2 (⟨cw, ss, pa + b⟩) (.int .i64 (pa + b)) 3 rfl rfl rfl rfl HA.out (by decide) infoI rfl rfl ?_; intro w2 ht hg; replace HZ := Lib.hid (HZ.out.kept hg (by omega)); replace HB := Lib.hid (below_of_grown1 HB.out hg HB.out.size (by omega)); replace HA := Lib.hid ht; clear ht hg; clear d0; have c0 := HA.out.cell 0 (.int .i64 ((⟨cw, ss, pa + b⟩ : Wn)).cw) rfl; have c1 := HA.out.cell 1 (.int .i64 ((⟨cw, ss, pa + b⟩ : Wn)).ss) rfl; have c2 := HA.out.cell 2 (.int .i64 ((⟨cw, ss, pa + b⟩ : Wn)).pa) rfl)
    | (go_at_call 26; (with_reducible refine (HF.out _).mono ?_); rintro e w1 ⟨rfl, hb⟩; replace HA := Lib.hid (HA.out.later hb); replace HZ := Lib.hid (HZ.out.later hb); have hz := hb.size; replace HB := Lib.hid (HB.out.trans (hb.mono HB.out.size)); clear hb hz; clear c0 c1 c2; have c0 := HA.out.cell 0 (.int .i64 ((⟨cw, ss, pa + b⟩ : Wn)).cw) rfl; have c1 := HA.out.cell 1 (.int .i64 ((⟨cw, ss, pa + b⟩ : Wn)).ss) rfl; have c2 := HA.out.cell 2 (.int .i64 ((⟨cw, ss, pa + b⟩ : Wn)).pa) rfl)
    | (refine gate9 ?_; refine fldW (.tmp 27) (.tmp 26) w.heap.size 2 (⟨cw, ss, pa + b - cw⟩) (.int .i64 (pa + b - cw)) 3 rfl rfl rfl rfl HA.out (by decide) infoI rfl rfl ?_; intro w2 ht hg; replace HZ := Lib.hid (HZ.out.kept hg (by omega)); replace HB := Lib.hid (below_of_grown1 HB.out hg HB.out.size (by omega)); replace HA := Lib.hid ht; clear ht hg; clear c0 c1 c2; have c0 := HA.out.cell 0 (.int .i64 ((⟨cw, ss, pa + b - cw⟩ : Wn)).cw) rfl; have c1 := HA.out.cell 1 (.int .i64 ((⟨cw, ss, pa + b - cw⟩ : Wn)).ss) rfl; have c2 := HA.out.cell 2 (.int .i64 ((⟨cw, ss, pa + b - cw⟩ : Wn)).pa) rfl)
    | (refine gate9 ?_; refine fldW (.tmp 31) (.tmp 30) w.heap.size 0 (⟨cw + 1500, ss, pa + b - cw⟩) (.int .i64 (cw + 1500)) 3 rfl rfl rfl rfl HA.out (by decide) infoI rfl rfl ?_; intro w2 ht hg; replace HZ := Lib.hid (HZ.out.kept hg (by omega)); replace HB := Lib.hid (below_of_grown1 HB.out hg HB.out.size (by omega)); replace HA := Lib.hid ht; clear ht hg; clear c0 c1 c2)
    | (refine gate9 ?_; refine stW (.tmp 6) (.tmp 36) (w.heap.size + 1) (⟨cw + 1500, ss, pa + b - cw⟩) rfl rfl rfl rfl HZ.out ?_; intro w2 ht hg; replace HA := Lib.hid (HA.out.kept hg (by omega)); replace HB := Lib.hid (below_of_grown1 HB.out hg HB.out.size (by omega)); replace HZ := Lib.hid ht; clear ht hg))
  exact bodyPost_ret (retW rfl rfl HZ.out) rfl ⟨rfl, HB.out⟩
set_option maxRecDepth 100000 in
theorem steady_101 (cw ss pa b o : Int) (h1 : 1500 ≤ cw ∧ cw ≤ 1073741824) (h2 : 0 ≤ pa ∧ pa ≤ 1073741824) (hb0 : 0 ≤ b) (hb1 : b ≤ 1073741824) (g1 : cw ≤ pa + b) (g2 : ¬ cw ≤ o) (g3 : b = o) (w : World) : Calls Try.prog 25 #[.agg (cellsT ⟨cw, ss, pa⟩), .int .i64 b, .int .i64 o] w fun e w' => e = .returned (.agg (cellsT ⟨cw, ss, 0⟩)) ∧ Below w.heap.size w w' := by
  obtain rfl : b = o := g3
  have HF : Hid (∀ W : World, Calls Try.prog 26 #[.agg #[.int .i64 cw, .int .i64 ss, .int .i64 (pa + b)], .int .i64 b] W fun e V => e = .returned (.bool (decide (cw ≤ b))) ∧ Below W.heap.size W V) := Lib.hid (fun W => full_any ⟨cw, ss, pa + b⟩ b W)
  have hd : decide (cw ≤ b) = false := decide_eq_false g2
  replace HF := Lib.hid (fun W => (HF.out W).mono fun e V hh => (by simpa [hd] using hh : e = .returned (.bool false) ∧ Below W.heap.size W V))
  clear hd
  have s1 : IntKind.i64.wrap (pa + b) = pa + b := by rw [IntKind.wrap_i64]; omega
  have s2 : IntKind.i64.wrap (pa + b - cw) = pa + b - cw := by rw [IntKind.wrap_i64]; omega
  have s3 : IntKind.i64.wrap (cw + 1500) = cw + 1500 := by rw [IntKind.wrap_i64]; omega
  have HA : Hid (Bx ((w.alloc (.cells (cellsT ⟨cw, ss, pa⟩) 25)).alloc (.cells #[.int .i64 0, .int .i64 0, .int .i64 0] 25)) w.heap.size 25 (cellsT ⟨cw, ss, pa⟩)) := Lib.hid ((Bx.fresh w 25 (cellsT ⟨cw, ss, pa⟩)).old _)
  have HZ : Hid (Bx ((w.alloc (.cells (cellsT ⟨cw, ss, pa⟩) 25)).alloc (.cells #[.int .i64 0, .int .i64 0, .int .i64 0] 25)) (w.heap.size + 1) 25 (cellsT zeroT)) := Lib.hid (heap_two w _ _)
  have HB : Hid (Below w.heap.size w ((w.alloc (.cells (cellsT ⟨cw, ss, pa⟩) 25)).alloc (.cells #[.int .i64 0, .int .i64 0, .int .i64 0] 25))) := Lib.hid (below_two w _ _)
  have d0 := HA.out.cell 2 (.int .i64 pa) rfl
  go_enter Try.func25, Try.ntmps25
  go_wp2_with (first
    | (refine gate9 ?_; refine ldW (.tmp 3) w.heap.size rfl rfl rfl HA.out ?_)
    | (refine gate9 ?_; refine fldW (.tmp 11) (.tmp 10) w.heap.size 2 (⟨cw, ss, pa + b⟩) (.int .i64 (pa + b)) 3 rfl rfl rfl rfl HA.out (by decide) infoI rfl rfl ?_; intro w2 ht hg; replace HZ := Lib.hid (HZ.out.kept hg (by omega)); replace HB := Lib.hid (below_of_grown1 HB.out hg HB.out.size (by omega)); replace HA := Lib.hid ht; clear ht hg; clear d0; have c0 := HA.out.cell 0 (.int .i64 ((⟨cw, ss, pa + b⟩ : Wn)).cw) rfl; have c1 := HA.out.cell 1 (.int .i64 ((⟨cw, ss, pa + b⟩ : Wn)).ss) rfl; have c2 := HA.out.cell 2 (.int .i64 ((⟨cw, ss, pa + b⟩ : Wn)).pa) rfl)
    | (go_at_call 26; (with_reducible refine (HF.out _).mono ?_); rintro e w1 ⟨rfl, hb⟩; replace HA := Lib.hid (HA.out.later hb); replace HZ := Lib.hid (HZ.out.later hb); have hz := hb.size; replace HB := Lib.hid (HB.out.trans (hb.mono HB.out.size)); clear hb hz; clear c0 c1 c2; have c0 := HA.out.cell 0 (.int .i64 ((⟨cw, ss, pa + b⟩ : Wn)).cw) rfl; have c1 := HA.out.cell 1 (.int .i64 ((⟨cw, ss, pa + b⟩ : Wn)).ss) rfl; have c2 := HA.out.cell 2 (.int .i64 ((⟨cw, ss, pa + b⟩ : Wn)).pa) rfl)
    | (refine gate9 ?_; refine fldW (.tmp 35) (.const (.int .i64 0)) w.heap.size 2 (⟨cw, ss, 0⟩) (.int .i64 (0)) 3 rfl rfl rfl rfl HA.out (by decide) infoI rfl rfl ?_; intro w2 ht hg; replace HZ := Lib.hid (HZ.out.kept hg (by omega)); replace HB := Lib.hid (below_of_grown1 HB.out hg HB.out.size (by omega)); replace HA := Lib.hid ht; clear ht hg; try clear c0 c1 c2)
    | (refine gate9 ?_; refine stW (.tmp 6) (.tmp 36) (w.heap.size + 1) (⟨cw, ss, 0⟩) rfl rfl rfl rfl HZ.out ?_; intro w2 ht hg; replace HA := Lib.hid (HA.out.kept hg (by omega)); replace HB := Lib.hid (below_of_grown1 HB.out hg HB.out.size (by omega)); replace HZ := Lib.hid ht; clear ht hg))
  exact bodyPost_ret (retW rfl rfl HZ.out) rfl ⟨rfl, HB.out⟩
set_option maxRecDepth 100000 in
theorem steady_100 (cw ss pa b o : Int) (h1 : 1500 ≤ cw ∧ cw ≤ 1073741824) (h2 : 0 ≤ pa ∧ pa ≤ 1073741824) (hb0 : 0 ≤ b) (hb1 : b ≤ 1073741824) (g1 : cw ≤ pa + b) (g2 : ¬ cw ≤ o) (g3 : ¬ b = o) (w : World) : Calls Try.prog 25 #[.agg (cellsT ⟨cw, ss, pa⟩), .int .i64 b, .int .i64 o] w fun e w' => e = .returned (.agg (cellsT ⟨cw, ss, pa + b⟩)) ∧ Below w.heap.size w w' := by
  have HF : Hid (∀ W : World, Calls Try.prog 26 #[.agg #[.int .i64 cw, .int .i64 ss, .int .i64 (pa + b)], .int .i64 o] W fun e V => e = .returned (.bool (decide (cw ≤ o))) ∧ Below W.heap.size W V) := Lib.hid (fun W => full_any ⟨cw, ss, pa + b⟩ o W)
  have hd : decide (cw ≤ o) = false := decide_eq_false g2
  replace HF := Lib.hid (fun W => (HF.out W).mono fun e V hh => (by simpa [hd] using hh : e = .returned (.bool false) ∧ Below W.heap.size W V))
  clear hd
  have s1 : IntKind.i64.wrap (pa + b) = pa + b := by rw [IntKind.wrap_i64]; omega
  have s2 : IntKind.i64.wrap (pa + b - cw) = pa + b - cw := by rw [IntKind.wrap_i64]; omega
  have s3 : IntKind.i64.wrap (cw + 1500) = cw + 1500 := by rw [IntKind.wrap_i64]; omega
  have HA : Hid (Bx ((w.alloc (.cells (cellsT ⟨cw, ss, pa⟩) 25)).alloc (.cells #[.int .i64 0, .int .i64 0, .int .i64 0] 25)) w.heap.size 25 (cellsT ⟨cw, ss, pa⟩)) := Lib.hid ((Bx.fresh w 25 (cellsT ⟨cw, ss, pa⟩)).old _)
  have HZ : Hid (Bx ((w.alloc (.cells (cellsT ⟨cw, ss, pa⟩) 25)).alloc (.cells #[.int .i64 0, .int .i64 0, .int .i64 0] 25)) (w.heap.size + 1) 25 (cellsT zeroT)) := Lib.hid (heap_two w _ _)
  have HB : Hid (Below w.heap.size w ((w.alloc (.cells (cellsT ⟨cw, ss, pa⟩) 25)).alloc (.cells #[.int .i64 0, .int .i64 0, .int .i64 0] 25))) := Lib.hid (below_two w _ _)
  have d0 := HA.out.cell 2 (.int .i64 pa) rfl
  go_enter Try.func25, Try.ntmps25
  go_wp2_with (first
    | (refine gate9 ?_; refine ldW (.tmp 3) w.heap.size rfl rfl rfl HA.out ?_)
    | (refine gate9 ?_; refine fldW (.tmp 11) (.tmp 10) w.heap.size 2 (⟨cw, ss, pa + b⟩) (.int .i64 (pa + b)) 3 rfl rfl rfl rfl HA.out (by decide) infoI rfl rfl ?_; intro w2 ht hg; replace HZ := Lib.hid (HZ.out.kept hg (by omega)); replace HB := Lib.hid (below_of_grown1 HB.out hg HB.out.size (by omega)); replace HA := Lib.hid ht; clear ht hg; clear d0; have c0 := HA.out.cell 0 (.int .i64 ((⟨cw, ss, pa + b⟩ : Wn)).cw) rfl; have c1 := HA.out.cell 1 (.int .i64 ((⟨cw, ss, pa + b⟩ : Wn)).ss) rfl; have c2 := HA.out.cell 2 (.int .i64 ((⟨cw, ss, pa + b⟩ : Wn)).pa) rfl)
    | (go_at_call 26; (with_reducible refine (HF.out _).mono ?_); rintro e w1 ⟨rfl, hb⟩; replace HA := Lib.hid (HA.out.later hb); replace HZ := Lib.hid (HZ.out.later hb); have hz := hb.size; replace HB := Lib.hid (HB.out.trans (hb.mono HB.out.size)); clear hb hz; clear c0 c1 c2; have c0 := HA.out.cell 0 (.int .i64 ((⟨cw, ss, pa + b⟩ : Wn)).cw) rfl; have c1 := HA.out.cell 1 (.int .i64 ((⟨cw, ss, pa + b⟩ : Wn)).ss) rfl; have c2 := HA.out.cell 2 (.int .i64 ((⟨cw, ss, pa + b⟩ : Wn)).pa) rfl)
    | (refine gate9 ?_; refine stW (.tmp 6) (.tmp 36) (w.heap.size + 1) (⟨cw, ss, pa + b⟩) rfl rfl rfl rfl HZ.out ?_; intro w2 ht hg; replace HA := Lib.hid (HA.out.kept hg (by omega)); replace HB := Lib.hid (below_of_grown1 HB.out hg HB.out.size (by omega)); replace HZ := Lib.hid ht; clear ht hg))
  exact bodyPost_ret (retW rfl rfl HZ.out) rfl ⟨rfl, HB.out⟩
set_option maxRecDepth 100000 in
theorem steady_001 (cw ss pa b o : Int) (h1 : 1500 ≤ cw ∧ cw ≤ 1073741824) (h2 : 0 ≤ pa ∧ pa ≤ 1073741824) (hb0 : 0 ≤ b) (hb1 : b ≤ 1073741824) (g1 : ¬ cw ≤ pa + b) (g3 : b = o) (w : World) : Calls Try.prog 25 #[.agg (cellsT ⟨cw, ss, pa⟩), .int .i64 b, .int .i64 o] w fun e w' => e = .returned (.agg (cellsT ⟨cw, ss, 0⟩)) ∧ Below w.heap.size w w' := by
  obtain rfl : b = o := g3
  have HF : Hid (∀ W : World, Calls Try.prog 26 #[.agg #[.int .i64 cw, .int .i64 ss, .int .i64 (pa + b)], .int .i64 b] W fun e V => e = .returned (.bool (decide (cw ≤ b))) ∧ Below W.heap.size W V) := Lib.hid (fun W => full_any ⟨cw, ss, pa + b⟩ b W)
  clear HF
  have s1 : IntKind.i64.wrap (pa + b) = pa + b := by rw [IntKind.wrap_i64]; omega
  have s2 : IntKind.i64.wrap (pa + b - cw) = pa + b - cw := by rw [IntKind.wrap_i64]; omega
  have s3 : IntKind.i64.wrap (cw + 1500) = cw + 1500 := by rw [IntKind.wrap_i64]; omega
  have HA : Hid (Bx ((w.alloc (.cells (cellsT ⟨cw, ss, pa⟩) 25)).alloc (.cells #[.int .i64 0, .int .i64 0, .int .i64 0] 25)) w.heap.size 25 (cellsT ⟨cw, ss, pa⟩)) := Lib.hid ((Bx.fresh w 25 (cellsT ⟨cw, ss, pa⟩)).old _)
  have HZ : Hid (Bx ((w.alloc (.cells (cellsT ⟨cw, ss, pa⟩) 25)).alloc (.cells #[.int .i64 0, .int .i64 0, .int .i64 0] 25)) (w.heap.size + 1) 25 (cellsT zeroT)) := Lib.hid (heap_two w _ _)
  have HB : Hid (Below w.heap.size w ((w.alloc (.cells (cellsT ⟨cw, ss, pa⟩) 25)).alloc (.cells #[.int .i64 0, .int .i64 0, .int .i64 0] 25))) := Lib.hid (below_two w _ _)
  have d0 := HA.out.cell 2 (.int .i64 pa) rfl
  go_enter Try.func25, Try.ntmps25
  go_wp2_with (first
    | (refine gate9 ?_; refine fldW (.tmp 11) (.tmp 10) w.heap.size 2 (⟨cw, ss, pa + b⟩) (.int .i64 (pa + b)) 3 rfl rfl rfl rfl HA.out (by decide) infoI rfl rfl ?_; intro w2 ht hg; replace HZ := Lib.hid (HZ.out.kept hg (by omega)); replace HB := Lib.hid (below_of_grown1 HB.out hg HB.out.size (by omega)); replace HA := Lib.hid ht; clear ht hg; clear d0; have c0 := HA.out.cell 0 (.int .i64 ((⟨cw, ss, pa + b⟩ : Wn)).cw) rfl; have c1 := HA.out.cell 1 (.int .i64 ((⟨cw, ss, pa + b⟩ : Wn)).ss) rfl; have c2 := HA.out.cell 2 (.int .i64 ((⟨cw, ss, pa + b⟩ : Wn)).pa) rfl)
    | (refine gate9 ?_; refine fldW (.tmp 35) (.const (.int .i64 0)) w.heap.size 2 (⟨cw, ss, 0⟩) (.int .i64 (0)) 3 rfl rfl rfl rfl HA.out (by decide) infoI rfl rfl ?_; intro w2 ht hg; replace HZ := Lib.hid (HZ.out.kept hg (by omega)); replace HB := Lib.hid (below_of_grown1 HB.out hg HB.out.size (by omega)); replace HA := Lib.hid ht; clear ht hg; try clear c0 c1 c2)
    | (refine gate9 ?_; refine ldW (.tmp 3) w.heap.size rfl rfl rfl HA.out ?_)
    | (refine gate9 ?_; refine stW (.tmp 6) (.tmp 36) (w.heap.size + 1) (⟨cw, ss, 0⟩) rfl rfl rfl rfl HZ.out ?_; intro w2 ht hg; replace HA := Lib.hid (HA.out.kept hg (by omega)); replace HB := Lib.hid (below_of_grown1 HB.out hg HB.out.size (by omega)); replace HZ := Lib.hid ht; clear ht hg))
  exact bodyPost_ret (retW rfl rfl HZ.out) rfl ⟨rfl, HB.out⟩
set_option maxRecDepth 100000 in
theorem steady_000 (cw ss pa b o : Int) (h1 : 1500 ≤ cw ∧ cw ≤ 1073741824) (h2 : 0 ≤ pa ∧ pa ≤ 1073741824) (hb0 : 0 ≤ b) (hb1 : b ≤ 1073741824) (g1 : ¬ cw ≤ pa + b) (g3 : ¬ b = o) (w : World) : Calls Try.prog 25 #[.agg (cellsT ⟨cw, ss, pa⟩), .int .i64 b, .int .i64 o] w fun e w' => e = .returned (.agg (cellsT ⟨cw, ss, pa + b⟩)) ∧ Below w.heap.size w w' := by
  have HF : Hid (∀ W : World, Calls Try.prog 26 #[.agg #[.int .i64 cw, .int .i64 ss, .int .i64 (pa + b)], .int .i64 o] W fun e V => e = .returned (.bool (decide (cw ≤ o))) ∧ Below W.heap.size W V) := Lib.hid (fun W => full_any ⟨cw, ss, pa + b⟩ o W)
  clear HF
  have s1 : IntKind.i64.wrap (pa + b) = pa + b := by rw [IntKind.wrap_i64]; omega
  have s2 : IntKind.i64.wrap (pa + b - cw) = pa + b - cw := by rw [IntKind.wrap_i64]; omega
  have s3 : IntKind.i64.wrap (cw + 1500) = cw + 1500 := by rw [IntKind.wrap_i64]; omega
  have HA : Hid (Bx ((w.alloc (.cells (cellsT ⟨cw, ss, pa⟩) 25)).alloc (.cells #[.int .i64 0, .int .i64 0, .int .i64 0] 25)) w.heap.size 25 (cellsT ⟨cw, ss, pa⟩)) := Lib.hid ((Bx.fresh w 25 (cellsT ⟨cw, ss, pa⟩)).old _)
  have HZ : Hid (Bx ((w.alloc (.cells (cellsT ⟨cw, ss, pa⟩) 25)).alloc (.cells #[.int .i64 0, .int .i64 0, .int .i64 0] 25)) (w.heap.size + 1) 25 (cellsT zeroT)) := Lib.hid (heap_two w _ _)
  have HB : Hid (Below w.heap.size w ((w.alloc (.cells (cellsT ⟨cw, ss, pa⟩) 25)).alloc (.cells #[.int .i64 0, .int .i64 0, .int .i64 0] 25))) := Lib.hid (below_two w _ _)
  have d0 := HA.out.cell 2 (.int .i64 pa) rfl
  go_enter Try.func25, Try.ntmps25
  go_wp2_with (first
    | (refine gate9 ?_; refine fldW (.tmp 11) (.tmp 10) w.heap.size 2 (⟨cw, ss, pa + b⟩) (.int .i64 (pa + b)) 3 rfl rfl rfl rfl HA.out (by decide) infoI rfl rfl ?_; intro w2 ht hg; replace HZ := Lib.hid (HZ.out.kept hg (by omega)); replace HB := Lib.hid (below_of_grown1 HB.out hg HB.out.size (by omega)); replace HA := Lib.hid ht; clear ht hg; clear d0; have c0 := HA.out.cell 0 (.int .i64 ((⟨cw, ss, pa + b⟩ : Wn)).cw) rfl; have c1 := HA.out.cell 1 (.int .i64 ((⟨cw, ss, pa + b⟩ : Wn)).ss) rfl; have c2 := HA.out.cell 2 (.int .i64 ((⟨cw, ss, pa + b⟩ : Wn)).pa) rfl)
    | (refine gate9 ?_; refine ldW (.tmp 3) w.heap.size rfl rfl rfl HA.out ?_)
    | (refine gate9 ?_; refine stW (.tmp 6) (.tmp 36) (w.heap.size + 1) (⟨cw, ss, pa + b⟩) rfl rfl rfl rfl HZ.out ?_; intro w2 ht hg; replace HA := Lib.hid (HA.out.kept hg (by omega)); replace HB := Lib.hid (below_of_grown1 HB.out hg HB.out.size (by omega)); replace HZ := Lib.hid ht; clear ht hg))
  exact bodyPost_ret (retW rfl rfl HZ.out) rfl ⟨rfl, HB.out⟩
end Go.Proofs.Ytdlnmmcnpdfbmaa
