/-
  Package window: growth, after, Acked, Lost, Timeout, Idle, May: contracts.
-/
import Derived.Test.YtdlnmmcnpdfbmaaWnB
namespace Go.Proofs.Ytdlnmmcnpdfbmaa
open Go.RowKit
set_option linter.unusedVariables false
set_option linter.unusedSimpArgs false

theorem steady_any (t : Wn) (b o : Int) (ht : Inb t) (hb0 : 0 ≤ b) (hb1 : b ≤ 1073741824) (w : World) : Calls Try.prog 25 #[.agg (cellsT t), .int .i64 b, .int .i64 o] w fun e w' => e = .returned (.agg (cellsT (steadyT t b o))) ∧ Below w.heap.size w w' := by
  obtain ⟨cw, ss, pa⟩ := t
  have h1 : 1500 ≤ cw ∧ cw ≤ 1073741824 := ht.cw
  have h2 : 0 ≤ pa ∧ pa ≤ 1073741824 := ht.pa
  by_cases g1 : cw ≤ pa + b
  · by_cases g2 : cw ≤ o
    · by_cases g3 : b = o
      · subst g3; rw [show steadyT ⟨cw, ss, pa⟩ b b = ⟨cw + 1500, ss, 0⟩ by simp [steadyT, steady1, g1, g2]]; exact steady_111 cw ss pa b b h1 h2 hb0 hb1 g1 g2 rfl w
      · rw [show steadyT ⟨cw, ss, pa⟩ b o = ⟨cw + 1500, ss, pa + b - cw⟩ by simp [steadyT, steady1, g1, g2, g3]]; exact steady_110 cw ss pa b o h1 h2 hb0 hb1 g1 g2 g3 w
    · by_cases g3 : b = o
      · subst g3; rw [show steadyT ⟨cw, ss, pa⟩ b b = ⟨cw, ss, 0⟩ by simp [steadyT, steady1, g1, g2]]; exact steady_101 cw ss pa b b h1 h2 hb0 hb1 g1 g2 rfl w
      · rw [show steadyT ⟨cw, ss, pa⟩ b o = ⟨cw, ss, pa + b⟩ by simp [steadyT, steady1, g1, g2, g3]]; exact steady_100 cw ss pa b o h1 h2 hb0 hb1 g1 g2 g3 w
  · by_cases g3 : b = o
    · subst g3; rw [show steadyT ⟨cw, ss, pa⟩ b b = ⟨cw, ss, 0⟩ by simp [steadyT, steady1, g1]]; exact steady_001 cw ss pa b b h1 h2 hb0 hb1 g1 rfl w
    · rw [show steadyT ⟨cw, ss, pa⟩ b o = ⟨cw, ss, pa + b⟩ by simp [steadyT, steady1, g1, g3]]; exact steady_000 cw ss pa b o h1 h2 hb0 hb1 g1 g3 w
theorem growth_stays (t : Wn) (w : World) : Calls Try.prog 21 #[.agg (cellsT t), .bool false] w fun e w' => e = .returned (.func (.func 23) #[] #[]) ∧ Below w.heap.size w w' := by
  go_enter Try.func21, Try.ntmps21
  go_wp2
  go_ret
  exact ⟨rfl, (Below.refl _ _).alloc (Nat.le_refl _) _⟩
theorem growth_fast (t : Wn) (h : slowB t = true) (w : World) : Calls Try.prog 21 #[.agg (cellsT t), .bool true] w fun e w' => e = .returned (.func (.func 24) #[] #[]) ∧ Below w.heap.size w w' := by
  have HS := Lib.hid (fun W => slow_any t W)
  rw [h] at HS
  clear h
  have HA := Lib.hid (BS.first w 25 (cellsT t))
  go_enter Try.func21, Try.ntmps21
  go_wp2_with (first
    | (refine gate9 ?_; refine ldW (.tmp 2) w.heap.size rfl rfl rfl HA.out.own ?_)
    | (go_at_call 14; (with_reducible refine (HS.out _).mono ?_); rintro e w1 ⟨rfl, hb⟩; replace HA := Lib.hid (HA.out.later hb); clear hb))
  go_ret
  exact ⟨rfl, HA.out.below⟩
theorem growth_steady (t : Wn) (h : slowB t = false) (w : World) : Calls Try.prog 21 #[.agg (cellsT t), .bool true] w fun e w' => e = .returned (.func (.func 25) #[] #[]) ∧ Below w.heap.size w w' := by
  have HS := Lib.hid (fun W => slow_any t W)
  rw [h] at HS
  clear h
  have HA := Lib.hid (BS.first w 25 (cellsT t))
  go_enter Try.func21, Try.ntmps21
  go_wp2_with (first
    | (refine gate9 ?_; refine ldW (.tmp 2) w.heap.size rfl rfl rfl HA.out.own ?_)
    | (go_at_call 14; (with_reducible refine (HS.out _).mono ?_); rintro e w1 ⟨rfl, hb⟩; replace HA := Lib.hid (HA.out.later hb); clear hb))
  go_ret
  exact ⟨rfl, HA.out.below⟩
theorem after_halved (t u : Wn) (hk : ∀ W, Calls Try.prog 17 #[.agg (cellsT (heldT t))] W fun e W' => e = .returned (.agg (cellsT u)) ∧ Below W.heap.size W W') (w : World) : Calls Try.prog 16 #[.func (.func 17) #[] #[], .agg (cellsT t)] w fun e w' => e = .returned (.agg (cellsT u)) ∧ Below w.heap.size w w' := by
  have HH := Lib.hid (fun W => held_any t W)
  have HK := Lib.hid hk
  clear hk
  generalize heldT t = h at *
  have HA : Hid (Bx ((w.alloc (.cells (cellsT t) 25)).alloc (.cells #[.int .i64 0, .int .i64 0, .int .i64 0] 25)) w.heap.size 25 (cellsT t)) := Lib.hid ((Bx.fresh w 25 (cellsT t)).old _)
  have HZ : Hid (Bx ((w.alloc (.cells (cellsT t) 25)).alloc (.cells #[.int .i64 0, .int .i64 0, .int .i64 0] 25)) (w.heap.size + 1) 25 (cellsT zeroT)) := Lib.hid (heap_two w _ _)
  have HB : Hid (Below w.heap.size w ((w.alloc (.cells (cellsT t) 25)).alloc (.cells #[.int .i64 0, .int .i64 0, .int .i64 0] 25))) := Lib.hid (below_two w _ _)
  go_enter Try.func16, Try.ntmps16
  go_wp2_with (first
    | (refine gate9 ?_; refine ldW (.tmp 3) w.heap.size rfl rfl rfl HA.out ?_)
    | (go_at_call 20; (with_reducible refine (HH.out _).mono ?_); rintro e w1 ⟨rfl, hb⟩; replace HA := Lib.hid (HA.out.later hb); replace HZ := Lib.hid (HZ.out.later hb); have hz := hb.size; replace HB := Lib.hid (HB.out.trans (hb.mono HB.out.size)); clear hb hz)
    | (go_at_call 17; (with_reducible refine (HK.out _).mono ?_); rintro e w1 ⟨rfl, hb⟩; replace HA := Lib.hid (HA.out.later hb); replace HZ := Lib.hid (HZ.out.later hb); have hz := hb.size; replace HB := Lib.hid (HB.out.trans (hb.mono HB.out.size)); clear hb hz)
    | (refine gate9 ?_; refine stW (.tmp 4) (.tmp 8) (w.heap.size + 1) (u) rfl rfl rfl rfl HZ.out ?_; intro w2 ht hg; replace HA := Lib.hid (HA.out.kept hg (by omega)); replace HB := Lib.hid (below_of_grown1 HB.out hg HB.out.size (by omega)); replace HZ := Lib.hid ht; clear ht hg))
  exact bodyPost_ret (retW rfl rfl HZ.out) rfl ⟨rfl, HB.out⟩
theorem after_restarted (t u : Wn) (hk : ∀ W, Calls Try.prog 18 #[.agg (cellsT (heldT t))] W fun e W' => e = .returned (.agg (cellsT u)) ∧ Below W.heap.size W W') (w : World) : Calls Try.prog 16 #[.func (.func 18) #[] #[], .agg (cellsT t)] w fun e w' => e = .returned (.agg (cellsT u)) ∧ Below w.heap.size w w' := by
  have HH := Lib.hid (fun W => held_any t W)
  have HK := Lib.hid hk
  clear hk
  generalize heldT t = h at *
  have HA : Hid (Bx ((w.alloc (.cells (cellsT t) 25)).alloc (.cells #[.int .i64 0, .int .i64 0, .int .i64 0] 25)) w.heap.size 25 (cellsT t)) := Lib.hid ((Bx.fresh w 25 (cellsT t)).old _)
  have HZ : Hid (Bx ((w.alloc (.cells (cellsT t) 25)).alloc (.cells #[.int .i64 0, .int .i64 0, .int .i64 0] 25)) (w.heap.size + 1) 25 (cellsT zeroT)) := Lib.hid (heap_two w _ _)
  have HB : Hid (Below w.heap.size w ((w.alloc (.cells (cellsT t) 25)).alloc (.cells #[.int .i64 0, .int .i64 0, .int .i64 0] 25))) := Lib.hid (below_two w _ _)
  go_enter Try.func16, Try.ntmps16
  go_wp2_with (first
    | (refine gate9 ?_; refine ldW (.tmp 3) w.heap.size rfl rfl rfl HA.out ?_)
    | (go_at_call 20; (with_reducible refine (HH.out _).mono ?_); rintro e w1 ⟨rfl, hb⟩; replace HA := Lib.hid (HA.out.later hb); replace HZ := Lib.hid (HZ.out.later hb); have hz := hb.size; replace HB := Lib.hid (HB.out.trans (hb.mono HB.out.size)); clear hb hz)
    | (go_at_call 18; (with_reducible refine (HK.out _).mono ?_); rintro e w1 ⟨rfl, hb⟩; replace HA := Lib.hid (HA.out.later hb); replace HZ := Lib.hid (HZ.out.later hb); have hz := hb.size; replace HB := Lib.hid (HB.out.trans (hb.mono HB.out.size)); clear hb hz)
    | (refine gate9 ?_; refine stW (.tmp 4) (.tmp 8) (w.heap.size + 1) (u) rfl rfl rfl rfl HZ.out ?_; intro w2 ht hg; replace HA := Lib.hid (HA.out.kept hg (by omega)); replace HB := Lib.hid (below_of_grown1 HB.out hg HB.out.size (by omega)); replace HZ := Lib.hid ht; clear ht hg))
  exact bodyPost_ret (retW rfl rfl HZ.out) rfl ⟨rfl, HB.out⟩
theorem after_rested (t u : Wn) (hk : ∀ W, Calls Try.prog 19 #[.agg (cellsT (heldT t))] W fun e W' => e = .returned (.agg (cellsT u)) ∧ Below W.heap.size W W') (w : World) : Calls Try.prog 16 #[.func (.func 19) #[] #[], .agg (cellsT t)] w fun e w' => e = .returned (.agg (cellsT u)) ∧ Below w.heap.size w w' := by
  have HH := Lib.hid (fun W => held_any t W)
  have HK := Lib.hid hk
  clear hk
  generalize heldT t = h at *
  have HA : Hid (Bx ((w.alloc (.cells (cellsT t) 25)).alloc (.cells #[.int .i64 0, .int .i64 0, .int .i64 0] 25)) w.heap.size 25 (cellsT t)) := Lib.hid ((Bx.fresh w 25 (cellsT t)).old _)
  have HZ : Hid (Bx ((w.alloc (.cells (cellsT t) 25)).alloc (.cells #[.int .i64 0, .int .i64 0, .int .i64 0] 25)) (w.heap.size + 1) 25 (cellsT zeroT)) := Lib.hid (heap_two w _ _)
  have HB : Hid (Below w.heap.size w ((w.alloc (.cells (cellsT t) 25)).alloc (.cells #[.int .i64 0, .int .i64 0, .int .i64 0] 25))) := Lib.hid (below_two w _ _)
  go_enter Try.func16, Try.ntmps16
  go_wp2_with (first
    | (refine gate9 ?_; refine ldW (.tmp 3) w.heap.size rfl rfl rfl HA.out ?_)
    | (go_at_call 20; (with_reducible refine (HH.out _).mono ?_); rintro e w1 ⟨rfl, hb⟩; replace HA := Lib.hid (HA.out.later hb); replace HZ := Lib.hid (HZ.out.later hb); have hz := hb.size; replace HB := Lib.hid (HB.out.trans (hb.mono HB.out.size)); clear hb hz)
    | (go_at_call 19; (with_reducible refine (HK.out _).mono ?_); rintro e w1 ⟨rfl, hb⟩; replace HA := Lib.hid (HA.out.later hb); replace HZ := Lib.hid (HZ.out.later hb); have hz := hb.size; replace HB := Lib.hid (HB.out.trans (hb.mono HB.out.size)); clear hb hz)
    | (refine gate9 ?_; refine stW (.tmp 4) (.tmp 8) (w.heap.size + 1) (u) rfl rfl rfl rfl HZ.out ?_; intro w2 ht hg; replace HA := Lib.hid (HA.out.kept hg (by omega)); replace HB := Lib.hid (below_of_grown1 HB.out hg HB.out.size (by omega)); replace HZ := Lib.hid ht; clear ht hg))
  exact bodyPost_ret (retW rfl rfl HZ.out) rfl ⟨rfl, HB.out⟩
theorem lost_any (t : Wn) (w : World) : Calls Try.prog 9 #[.agg (cellsT t)] w fun e w' => e = .returned (.agg (cellsT (halvedT (heldT t)))) ∧ Below w.heap.size w w' := by
  have HX := Lib.hid (fun W => after_halved t (halvedT (heldT t)) (fun W => halved_any (heldT t) (held_inb t) W) W)
  generalize halvedT (heldT t) = u at *
  have HA : Hid (Bx ((w.alloc (.cells (cellsT t) 25)).alloc (.cells #[.int .i64 0, .int .i64 0, .int .i64 0] 25)) w.heap.size 25 (cellsT t)) := Lib.hid ((Bx.fresh w 25 (cellsT t)).old _)
  have HZ : Hid (Bx ((w.alloc (.cells (cellsT t) 25)).alloc (.cells #[.int .i64 0, .int .i64 0, .int .i64 0] 25)) (w.heap.size + 1) 25 (cellsT zeroT)) := Lib.hid (heap_two w _ _)
  have HB : Hid (Below w.heap.size w ((w.alloc (.cells (cellsT t) 25)).alloc (.cells #[.int .i64 0, .int .i64 0, .int .i64 0] 25))) := Lib.hid (below_two w _ _)
  go_enter Try.func9, Try.ntmps9
  go_wp2_with (first
    | (refine gate9 ?_; refine ldW (.tmp 1) w.heap.size rfl rfl rfl HA.out ?_)
    | (go_at_call 16; (with_reducible refine (HX.out _).mono ?_); rintro e w1 ⟨rfl, hb⟩; replace HA := Lib.hid (HA.out.later hb); replace HZ := Lib.hid (HZ.out.later hb); have hz := hb.size; replace HB := Lib.hid (HB.out.trans (hb.mono HB.out.size)); clear hb hz)
    | (refine gate9 ?_; refine stW (.tmp 2) (.tmp 4) (w.heap.size + 1) (u) rfl rfl rfl rfl HZ.out ?_; intro w2 ht hg; replace HA := Lib.hid (HA.out.kept hg (by omega)); replace HB := Lib.hid (below_of_grown1 HB.out hg HB.out.size (by omega)); replace HZ := Lib.hid ht; clear ht hg))
  exact bodyPost_ret (retW rfl rfl HZ.out) rfl ⟨rfl, HB.out⟩
theorem timeout_any (t : Wn) (w : World) : Calls Try.prog 10 #[.agg (cellsT t)] w fun e w' => e = .returned (.agg (cellsT (restartedT (heldT t)))) ∧ Below w.heap.size w w' := by
  have HX := Lib.hid (fun W => after_restarted t (restartedT (heldT t)) (fun W => restarted_any (heldT t) (held_inb t) W) W)
  generalize restartedT (heldT t) = u at *
  have HA : Hid (Bx ((w.alloc (.cells (cellsT t) 25)).alloc (.cells #[.int .i64 0, .int .i64 0, .int .i64 0] 25)) w.heap.size 25 (cellsT t)) := Lib.hid ((Bx.fresh w 25 (cellsT t)).old _)
  have HZ : Hid (Bx ((w.alloc (.cells (cellsT t) 25)).alloc (.cells #[.int .i64 0, .int .i64 0, .int .i64 0] 25)) (w.heap.size + 1) 25 (cellsT zeroT)) := Lib.hid (heap_two w _ _)
  have HB : Hid (Below w.heap.size w ((w.alloc (.cells (cellsT t) 25)).alloc (.cells #[.int .i64 0, .int .i64 0, .int .i64 0] 25))) := Lib.hid (below_two w _ _)
  go_enter Try.func10, Try.ntmps10
  go_wp2_with (first
    | (refine gate9 ?_; refine ldW (.tmp 1) w.heap.size rfl rfl rfl HA.out ?_)
    | (go_at_call 16; (with_reducible refine (HX.out _).mono ?_); rintro e w1 ⟨rfl, hb⟩; replace HA := Lib.hid (HA.out.later hb); replace HZ := Lib.hid (HZ.out.later hb); have hz := hb.size; replace HB := Lib.hid (HB.out.trans (hb.mono HB.out.size)); clear hb hz)
    | (refine gate9 ?_; refine stW (.tmp 2) (.tmp 4) (w.heap.size + 1) (u) rfl rfl rfl rfl HZ.out ?_; intro w2 ht hg; replace HA := Lib.hid (HA.out.kept hg (by omega)); replace HB := Lib.hid (below_of_grown1 HB.out hg HB.out.size (by omega)); replace HZ := Lib.hid ht; clear ht hg))
  exact bodyPost_ret (retW rfl rfl HZ.out) rfl ⟨rfl, HB.out⟩
theorem idle_any (t : Wn) (w : World) : Calls Try.prog 11 #[.agg (cellsT t)] w fun e w' => e = .returned (.agg (cellsT (restedT (heldT t)))) ∧ Below w.heap.size w w' := by
  have HX := Lib.hid (fun W => after_rested t (restedT (heldT t)) (fun W => rested_any (heldT t) (held_inb t) W) W)
  generalize restedT (heldT t) = u at *
  have HA : Hid (Bx ((w.alloc (.cells (cellsT t) 25)).alloc (.cells #[.int .i64 0, .int .i64 0, .int .i64 0] 25)) w.heap.size 25 (cellsT t)) := Lib.hid ((Bx.fresh w 25 (cellsT t)).old _)
  have HZ : Hid (Bx ((w.alloc (.cells (cellsT t) 25)).alloc (.cells #[.int .i64 0, .int .i64 0, .int .i64 0] 25)) (w.heap.size + 1) 25 (cellsT zeroT)) := Lib.hid (heap_two w _ _)
  have HB : Hid (Below w.heap.size w ((w.alloc (.cells (cellsT t) 25)).alloc (.cells #[.int .i64 0, .int .i64 0, .int .i64 0] 25))) := Lib.hid (below_two w _ _)
  go_enter Try.func11, Try.ntmps11
  go_wp2_with (first
    | (refine gate9 ?_; refine ldW (.tmp 1) w.heap.size rfl rfl rfl HA.out ?_)
    | (go_at_call 16; (with_reducible refine (HX.out _).mono ?_); rintro e w1 ⟨rfl, hb⟩; replace HA := Lib.hid (HA.out.later hb); replace HZ := Lib.hid (HZ.out.later hb); have hz := hb.size; replace HB := Lib.hid (HB.out.trans (hb.mono HB.out.size)); clear hb hz)
    | (refine gate9 ?_; refine stW (.tmp 2) (.tmp 4) (w.heap.size + 1) (u) rfl rfl rfl rfl HZ.out ?_; intro w2 ht hg; replace HA := Lib.hid (HA.out.kept hg (by omega)); replace HB := Lib.hid (below_of_grown1 HB.out hg HB.out.size (by omega)); replace HZ := Lib.hid ht; clear ht hg))
  exact bodyPost_ret (retW rfl rfl HZ.out) rfl ⟨rfl, HB.out⟩
set_option maxRecDepth 100000 in
theorem acked_stayed (t g : Wn) (b o : Int) (m : Bool) (hg : ∀ W, Calls Try.prog 21 #[.agg (cellsT (heldT t)), .bool m] W fun e W' => e = .returned (.func (.func 23) #[] #[]) ∧ Below W.heap.size W W')
    (hk : ∀ W, Calls Try.prog 23 #[.agg (cellsT (heldT t)), .int .i64 (keptI b), .int .i64 (keptI o)] W fun e W' => e = .returned (.agg (cellsT g)) ∧ Below W.heap.size W W') (w : World) : Calls Try.prog 12 #[.agg (cellsT t), .int .i64 b, .int .i64 o, .bool m] w fun e w' => e = .returned (.agg (cellsT (heldT g))) ∧ Below w.heap.size w w' := by
  have HH := Lib.hid (fun W => held_any t W)
  have HJ := Lib.hid (fun W => held_any g W)
  have HB1 := Lib.hid (fun W => kept_any b W)
  have HO1 := Lib.hid (fun W => kept_any o W)
  have HK := Lib.hid hk
  have HG := Lib.hid hg
  clear hk hg
  generalize heldT t = h at *
  generalize heldT g = R at *
  generalize keptI b = kb at *
  generalize keptI o = ko at *
  have HA : Hid (Bx ((w.alloc (.cells (cellsT t) 25)).alloc (.cells #[.int .i64 0, .int .i64 0, .int .i64 0] 25)) w.heap.size 25 (cellsT t)) := Lib.hid ((Bx.fresh w 25 (cellsT t)).old _)
  have HZ : Hid (Bx ((w.alloc (.cells (cellsT t) 25)).alloc (.cells #[.int .i64 0, .int .i64 0, .int .i64 0] 25)) (w.heap.size + 1) 25 (cellsT zeroT)) := Lib.hid (heap_two w _ _)
  have HB : Hid (Below w.heap.size w ((w.alloc (.cells (cellsT t) 25)).alloc (.cells #[.int .i64 0, .int .i64 0, .int .i64 0] 25))) := Lib.hid (below_two w _ _)
  go_enter Try.func12, Try.ntmps12
  go_wp2_with (first
    | (refine gate9 ?_; refine ldW (.tmp 4) w.heap.size rfl rfl rfl HA.out ?_)
    | (go_at_call 20; (with_reducible refine (HH.out _).mono ?_); rintro e w1 ⟨rfl, hb⟩; replace HA := Lib.hid (HA.out.later hb); replace HZ := Lib.hid (HZ.out.later hb); have hz := hb.size; replace HB := Lib.hid (HB.out.trans (hb.mono HB.out.size)); clear hb hz)
    | (refine gate9 ?_; refine stW (.tmp 4) (.tmp 11) w.heap.size (h) rfl rfl rfl rfl HA.out ?_; intro w2 ht hg; replace HZ := Lib.hid (HZ.out.kept hg (by omega)); replace HB := Lib.hid (below_of_grown1 HB.out hg HB.out.size (by omega)); replace HA := Lib.hid ht; clear ht hg)
    | (go_at_call 21; (with_reducible refine (HG.out _).mono ?_); rintro e w1 ⟨rfl, hb⟩; replace HA := Lib.hid (HA.out.later hb); replace HZ := Lib.hid (HZ.out.later hb); have hz := hb.size; replace HB := Lib.hid (HB.out.trans (hb.mono HB.out.size)); clear hb hz))
  refine wp_region_noPanic ?_
  refine wp_region_waits (S := fun V => Bx V w.heap.size 25 (cellsT h) ∧ Bx V (w.heap.size + 1) 25 (cellsT zeroT) ∧ Below w.heap.size w V) [8] (by kernel_rfl) ⟨HA.out.drew, HZ.out.drew, below_drawn HB.out⟩ (fun hHeld => ?_)
  clear HA HZ HB
  refine wpAnyW_take (i := 0) (v := ?_) (by simp only [List.getElem?_toArray, List.getElem?_cons_zero]; rfl) (by kernel_rfl) (by kernel_rfl) (by kernel_rfl) (by kernel_rfl) (by kernel_rfl) (fun _ _ _ h => h) (Or.inl ⟨by rfl, ?_⟩) (by assumption) ?_
  rotate_left 1
  · (intro w' hSw; go_simp; try with_reducible rfl)
  try simp only [Act.put, List.setIfInBounds_toArray, List.set_cons_zero, List.set_cons_succ]
  refine wpAnyW_take (i := 1) (v := _) (by simp only [List.getElem?_toArray, List.getElem?_cons_succ, List.getElem?_cons_zero]; rfl) (by kernel_rfl) (by kernel_rfl) (by kernel_rfl) (by kernel_rfl) (by kernel_rfl) (fun _ _ _ h => h) (yW (by rfl) (.tmp 4) w.heap.size rfl rfl (fun V h => h.1)) (by assumption) ?_
  try simp only [Act.put, List.setIfInBounds_toArray, List.set_cons_zero, List.set_cons_succ]
  refine wpAnyW_take (i := 2) (v := ?_) (by simp only [List.getElem?_toArray, List.getElem?_cons_succ, List.getElem?_cons_zero]; rfl) (by kernel_rfl) (by kernel_rfl) (by kernel_rfl) (by kernel_rfl) (by kernel_rfl) (fun _ _ _ h => h) (Or.inl ⟨by rfl, ?_⟩) (by assumption) ?_
  rotate_left 1
  · (intro w' hSw; go_simp; try with_reducible rfl)
  try simp only [Act.put, List.setIfInBounds_toArray, List.set_cons_zero, List.set_cons_succ]
  refine wpAnyW_take (i := 4) (v := ?_) (by simp only [List.getElem?_toArray, List.getElem?_cons_succ, List.getElem?_cons_zero]; rfl) (by kernel_rfl) (by kernel_rfl) (by kernel_rfl) (by kernel_rfl) (by kernel_rfl) (fun _ _ _ h => h) (Or.inl ⟨by rfl, ?_⟩) (by assumption) ?_
  rotate_left 1
  · (intro w' hSw; go_simp; try with_reducible rfl)
  try simp only [Act.put, List.setIfInBounds_toArray, List.set_cons_zero, List.set_cons_succ]
  refine wpAnyW_held (i := 3) (by kernel_rfl) (by simp only [List.getElem?_toArray, List.getElem?_cons_succ, List.getElem?_cons_zero]; rfl) (fun K hK => ?_)
  rw [if_pos (by rfl)]
  go_simp
  refine (HB1.out _).mono ?_
  rintro _ w1 ⟨rfl, rfl⟩
  
  go_wp2_with fail
  refine hK.out _ _ hHeld (fun hHeld => ?_)
  clear hK K
  try simp only [Act.put, List.setIfInBounds_toArray, List.set_cons_zero, List.set_cons_succ]
  refine wpAnyW_held (i := 5) (by kernel_rfl) (by simp only [List.getElem?_toArray, List.getElem?_cons_succ, List.getElem?_cons_zero]; rfl) (fun K hK => ?_)
  rw [if_pos (by rfl)]
  go_simp
  refine (HO1.out _).mono ?_
  rintro _ w1 ⟨rfl, rfl⟩
  
  go_wp2_with fail
  refine hK.out _ _ hHeld (fun hHeld => ?_)
  clear hK K
  try simp only [Act.put, List.setIfInBounds_toArray, List.set_cons_zero, List.set_cons_succ]
  refine wpAnyW_held (i := 6) (by kernel_rfl) (by simp only [List.getElem?_toArray, List.getElem?_cons_succ, List.getElem?_cons_zero]; rfl) (fun K hK => ?_)
  rw [if_pos (by rfl)]
  go_simp
  refine (HK.out _).mono ?_
  rintro _ w1 ⟨rfl, hb⟩
  replace hHeld := And.intro (hHeld.1.later hb) (And.intro (hHeld.2.1.later hb) (hHeld.2.2.trans (hb.mono hHeld.2.2.size))); clear hb
  go_wp2_with fail
  refine hK.out _ _ hHeld (fun hHeld => ?_)
  clear hK K
  try simp only [Act.put, List.setIfInBounds_toArray, List.set_cons_zero, List.set_cons_succ]
  refine wpAnyW_held (i := 7) (by kernel_rfl) (by simp only [List.getElem?_toArray, List.getElem?_cons_succ, List.getElem?_cons_zero]; rfl) (fun K hK => ?_)
  rw [if_pos (by rfl)]
  go_simp
  refine (HJ.out _).mono ?_
  rintro _ w1 ⟨rfl, hb⟩
  replace hHeld := And.intro (hHeld.1.later hb) (And.intro (hHeld.2.1.later hb) (hHeld.2.2.trans (hb.mono hHeld.2.2.size))); clear hb
  go_wp2_with fail
  refine hK.out _ _ hHeld (fun hHeld => ?_)
  clear hK K
  try simp only [Act.put, List.setIfInBounds_toArray, List.set_cons_zero, List.set_cons_succ]
  refine wpAnyW_freed (i := 8) (by kernel_rfl) (by kernel_rfl) (by simp only [List.getElem?_toArray, List.getElem?_cons_succ, List.getElem?_cons_zero]; rfl) (fun K hK => ?_)
  rw [if_pos (by rfl)]
  refine wstW (.tmp 8) (.tmp 22) (w.heap.size + 1) R rfl rfl rfl hHeld.2.1 ?_
  intro w2 ht hg
  have HZ := Lib.hid ht
  have HB := Lib.hid (below_of_grown1 hHeld.2.2 hg hHeld.2.2.size (by omega))
  clear ht hg hHeld
  refine hK.out _ _ ?_
  clear hK K
  try simp only [Act.put, List.setIfInBounds_toArray, List.set_cons_zero, List.set_cons_succ]
  refine wpAnyW_done (by kernel_rfl) ?_ _
  refine NoPanic.normal ?_
  go_wp2_with fail
  exact bodyPost_ret (retW rfl rfl HZ.out) rfl ⟨rfl, HB.out⟩
set_option maxRecDepth 100000 in
theorem acked_grownFast (t g : Wn) (b o : Int) (m : Bool) (hg : ∀ W, Calls Try.prog 21 #[.agg (cellsT (heldT t)), .bool m] W fun e W' => e = .returned (.func (.func 24) #[] #[]) ∧ Below W.heap.size W W')
    (hk : ∀ W, Calls Try.prog 24 #[.agg (cellsT (heldT t)), .int .i64 (keptI b), .int .i64 (keptI o)] W fun e W' => e = .returned (.agg (cellsT g)) ∧ Below W.heap.size W W') (w : World) : Calls Try.prog 12 #[.agg (cellsT t), .int .i64 b, .int .i64 o, .bool m] w fun e w' => e = .returned (.agg (cellsT (heldT g))) ∧ Below w.heap.size w w' := by
  have HH := Lib.hid (fun W => held_any t W)
  have HJ := Lib.hid (fun W => held_any g W)
  have HB1 := Lib.hid (fun W => kept_any b W)
  have HO1 := Lib.hid (fun W => kept_any o W)
  have HK := Lib.hid hk
  have HG := Lib.hid hg
  clear hk hg
  generalize heldT t = h at *
  generalize heldT g = R at *
  generalize keptI b = kb at *
  generalize keptI o = ko at *
  have HA : Hid (Bx ((w.alloc (.cells (cellsT t) 25)).alloc (.cells #[.int .i64 0, .int .i64 0, .int .i64 0] 25)) w.heap.size 25 (cellsT t)) := Lib.hid ((Bx.fresh w 25 (cellsT t)).old _)
  have HZ : Hid (Bx ((w.alloc (.cells (cellsT t) 25)).alloc (.cells #[.int .i64 0, .int .i64 0, .int .i64 0] 25)) (w.heap.size + 1) 25 (cellsT zeroT)) := Lib.hid (heap_two w _ _)
  have HB : Hid (Below w.heap.size w ((w.alloc (.cells (cellsT t) 25)).alloc (.cells #[.int .i64 0, .int .i64 0, .int .i64 0] 25))) := Lib.hid (below_two w _ _)
  go_enter Try.func12, Try.ntmps12
  go_wp2_with (first
    | (refine gate9 ?_; refine ldW (.tmp 4) w.heap.size rfl rfl rfl HA.out ?_)
    | (go_at_call 20; (with_reducible refine (HH.out _).mono ?_); rintro e w1 ⟨rfl, hb⟩; replace HA := Lib.hid (HA.out.later hb); replace HZ := Lib.hid (HZ.out.later hb); have hz := hb.size; replace HB := Lib.hid (HB.out.trans (hb.mono HB.out.size)); clear hb hz)
    | (refine gate9 ?_; refine stW (.tmp 4) (.tmp 11) w.heap.size (h) rfl rfl rfl rfl HA.out ?_; intro w2 ht hg; replace HZ := Lib.hid (HZ.out.kept hg (by omega)); replace HB := Lib.hid (below_of_grown1 HB.out hg HB.out.size (by omega)); replace HA := Lib.hid ht; clear ht hg)
    | (go_at_call 21; (with_reducible refine (HG.out _).mono ?_); rintro e w1 ⟨rfl, hb⟩; replace HA := Lib.hid (HA.out.later hb); replace HZ := Lib.hid (HZ.out.later hb); have hz := hb.size; replace HB := Lib.hid (HB.out.trans (hb.mono HB.out.size)); clear hb hz))
  refine wp_region_noPanic ?_
  refine wp_region_waits (S := fun V => Bx V w.heap.size 25 (cellsT h) ∧ Bx V (w.heap.size + 1) 25 (cellsT zeroT) ∧ Below w.heap.size w V) [8] (by kernel_rfl) ⟨HA.out.drew, HZ.out.drew, below_drawn HB.out⟩ (fun hHeld => ?_)
  clear HA HZ HB
  refine wpAnyW_take (i := 0) (v := ?_) (by simp only [List.getElem?_toArray, List.getElem?_cons_zero]; rfl) (by kernel_rfl) (by kernel_rfl) (by kernel_rfl) (by kernel_rfl) (by kernel_rfl) (fun _ _ _ h => h) (Or.inl ⟨by rfl, ?_⟩) (by assumption) ?_
  rotate_left 1
  · (intro w' hSw; go_simp; try with_reducible rfl)
  try simp only [Act.put, List.setIfInBounds_toArray, List.set_cons_zero, List.set_cons_succ]
  refine wpAnyW_take (i := 1) (v := _) (by simp only [List.getElem?_toArray, List.getElem?_cons_succ, List.getElem?_cons_zero]; rfl) (by kernel_rfl) (by kernel_rfl) (by kernel_rfl) (by kernel_rfl) (by kernel_rfl) (fun _ _ _ h => h) (yW (by rfl) (.tmp 4) w.heap.size rfl rfl (fun V h => h.1)) (by assumption) ?_
  try simp only [Act.put, List.setIfInBounds_toArray, List.set_cons_zero, List.set_cons_succ]
  refine wpAnyW_take (i := 2) (v := ?_) (by simp only [List.getElem?_toArray, List.getElem?_cons_succ, List.getElem?_cons_zero]; rfl) (by kernel_rfl) (by kernel_rfl) (by kernel_rfl) (by kernel_rfl) (by kernel_rfl) (fun _ _ _ h => h) (Or.inl ⟨by rfl, ?_⟩) (by assumption) ?_
  rotate_left 1
  · (intro w' hSw; go_simp; try with_reducible rfl)
  try simp only [Act.put, List.setIfInBounds_toArray, List.set_cons_zero, List.set_cons_succ]
  refine wpAnyW_take (i := 4) (v := ?_) (by simp only [List.getElem?_toArray, List.getElem?_cons_succ, List.getElem?_cons_zero]; rfl) (by kernel_rfl) (by kernel_rfl) (by kernel_rfl) (by kernel_rfl) (by kernel_rfl) (fun _ _ _ h => h) (Or.inl ⟨by rfl, ?_⟩) (by assumption) ?_
  rotate_left 1
  · (intro w' hSw; go_simp; try with_reducible rfl)
  try simp only [Act.put, List.setIfInBounds_toArray, List.set_cons_zero, List.set_cons_succ]
  refine wpAnyW_held (i := 3) (by kernel_rfl) (by simp only [List.getElem?_toArray, List.getElem?_cons_succ, List.getElem?_cons_zero]; rfl) (fun K hK => ?_)
  rw [if_pos (by rfl)]
  go_simp
  refine (HB1.out _).mono ?_
  rintro _ w1 ⟨rfl, rfl⟩
  
  go_wp2_with fail
  refine hK.out _ _ hHeld (fun hHeld => ?_)
  clear hK K
  try simp only [Act.put, List.setIfInBounds_toArray, List.set_cons_zero, List.set_cons_succ]
  refine wpAnyW_held (i := 5) (by kernel_rfl) (by simp only [List.getElem?_toArray, List.getElem?_cons_succ, List.getElem?_cons_zero]; rfl) (fun K hK => ?_)
  rw [if_pos (by rfl)]
  go_simp
  refine (HO1.out _).mono ?_
  rintro _ w1 ⟨rfl, rfl⟩
  
  go_wp2_with fail
  refine hK.out _ _ hHeld (fun hHeld => ?_)
  clear hK K
  try simp only [Act.put, List.setIfInBounds_toArray, List.set_cons_zero, List.set_cons_succ]
  refine wpAnyW_held (i := 6) (by kernel_rfl) (by simp only [List.getElem?_toArray, List.getElem?_cons_succ, List.getElem?_cons_zero]; rfl) (fun K hK => ?_)
  rw [if_pos (by rfl)]
  go_simp
  refine (HK.out _).mono ?_
  rintro _ w1 ⟨rfl, hb⟩
  replace hHeld := And.intro (hHeld.1.later hb) (And.intro (hHeld.2.1.later hb) (hHeld.2.2.trans (hb.mono hHeld.2.2.size))); clear hb
  go_wp2_with fail
  refine hK.out _ _ hHeld (fun hHeld => ?_)
  clear hK K
  try simp only [Act.put, List.setIfInBounds_toArray, List.set_cons_zero, List.set_cons_succ]
  refine wpAnyW_held (i := 7) (by kernel_rfl) (by simp only [List.getElem?_toArray, List.getElem?_cons_succ, List.getElem?_cons_zero]; rfl) (fun K hK => ?_)
  rw [if_pos (by rfl)]
  go_simp
  refine (HJ.out _).mono ?_
  rintro _ w1 ⟨rfl, hb⟩
  replace hHeld := And.intro (hHeld.1.later hb) (And.intro (hHeld.2.1.later hb) (hHeld.2.2.trans (hb.mono hHeld.2.2.size))); clear hb
  go_wp2_with fail
  refine hK.out _ _ hHeld (fun hHeld => ?_)
  clear hK K
  try simp only [Act.put, List.setIfInBounds_toArray, List.set_cons_zero, List.set_cons_succ]
  refine wpAnyW_freed (i := 8) (by kernel_rfl) (by kernel_rfl) (by simp only [List.getElem?_toArray, List.getElem?_cons_succ, List.getElem?_cons_zero]; rfl) (fun K hK => ?_)
  rw [if_pos (by rfl)]
  refine wstW (.tmp 8) (.tmp 22) (w.heap.size + 1) R rfl rfl rfl hHeld.2.1 ?_
  intro w2 ht hg
  have HZ := Lib.hid ht
  have HB := Lib.hid (below_of_grown1 hHeld.2.2 hg hHeld.2.2.size (by omega))
  clear ht hg hHeld
  refine hK.out _ _ ?_
  clear hK K
  try simp only [Act.put, List.setIfInBounds_toArray, List.set_cons_zero, List.set_cons_succ]
  refine wpAnyW_done (by kernel_rfl) ?_ _
  refine NoPanic.normal ?_
  go_wp2_with fail
  exact bodyPost_ret (retW rfl rfl HZ.out) rfl ⟨rfl, HB.out⟩
set_option maxRecDepth 100000 in
theorem acked_grownSteadily (t g : Wn) (b o : Int) (m : Bool) (hg : ∀ W, Calls Try.prog 21 #[.agg (cellsT (heldT t)), .bool m] W fun e W' => e = .returned (.func (.func 25) #[] #[]) ∧ Below W.heap.size W W')
    (hk : ∀ W, Calls Try.prog 25 #[.agg (cellsT (heldT t)), .int .i64 (keptI b), .int .i64 (keptI o)] W fun e W' => e = .returned (.agg (cellsT g)) ∧ Below W.heap.size W W') (w : World) : Calls Try.prog 12 #[.agg (cellsT t), .int .i64 b, .int .i64 o, .bool m] w fun e w' => e = .returned (.agg (cellsT (heldT g))) ∧ Below w.heap.size w w' := by
  have HH := Lib.hid (fun W => held_any t W)
  have HJ := Lib.hid (fun W => held_any g W)
  have HB1 := Lib.hid (fun W => kept_any b W)
  have HO1 := Lib.hid (fun W => kept_any o W)
  have HK := Lib.hid hk
  have HG := Lib.hid hg
  clear hk hg
  generalize heldT t = h at *
  generalize heldT g = R at *
  generalize keptI b = kb at *
  generalize keptI o = ko at *
  have HA : Hid (Bx ((w.alloc (.cells (cellsT t) 25)).alloc (.cells #[.int .i64 0, .int .i64 0, .int .i64 0] 25)) w.heap.size 25 (cellsT t)) := Lib.hid ((Bx.fresh w 25 (cellsT t)).old _)
  have HZ : Hid (Bx ((w.alloc (.cells (cellsT t) 25)).alloc (.cells #[.int .i64 0, .int .i64 0, .int .i64 0] 25)) (w.heap.size + 1) 25 (cellsT zeroT)) := Lib.hid (heap_two w _ _)
  have HB : Hid (Below w.heap.size w ((w.alloc (.cells (cellsT t) 25)).alloc (.cells #[.int .i64 0, .int .i64 0, .int .i64 0] 25))) := Lib.hid (below_two w _ _)
  go_enter Try.func12, Try.ntmps12
  go_wp2_with (first
    | (refine gate9 ?_; refine ldW (.tmp 4) w.heap.size rfl rfl rfl HA.out ?_)
    | (go_at_call 20; (with_reducible refine (HH.out _).mono ?_); rintro e w1 ⟨rfl, hb⟩; replace HA := Lib.hid (HA.out.later hb); replace HZ := Lib.hid (HZ.out.later hb); have hz := hb.size; replace HB := Lib.hid (HB.out.trans (hb.mono HB.out.size)); clear hb hz)
    | (refine gate9 ?_; refine stW (.tmp 4) (.tmp 11) w.heap.size (h) rfl rfl rfl rfl HA.out ?_; intro w2 ht hg; replace HZ := Lib.hid (HZ.out.kept hg (by omega)); replace HB := Lib.hid (below_of_grown1 HB.out hg HB.out.size (by omega)); replace HA := Lib.hid ht; clear ht hg)
    | (go_at_call 21; (with_reducible refine (HG.out _).mono ?_); rintro e w1 ⟨rfl, hb⟩; replace HA := Lib.hid (HA.out.later hb); replace HZ := Lib.hid (HZ.out.later hb); have hz := hb.size; replace HB := Lib.hid (HB.out.trans (hb.mono HB.out.size)); clear hb hz))
  refine wp_region_noPanic ?_
  refine wp_region_waits (S := fun V => Bx V w.heap.size 25 (cellsT h) ∧ Bx V (w.heap.size + 1) 25 (cellsT zeroT) ∧ Below w.heap.size w V) [8] (by kernel_rfl) ⟨HA.out.drew, HZ.out.drew, below_drawn HB.out⟩ (fun hHeld => ?_)
  clear HA HZ HB
  refine wpAnyW_take (i := 0) (v := ?_) (by simp only [List.getElem?_toArray, List.getElem?_cons_zero]; rfl) (by kernel_rfl) (by kernel_rfl) (by kernel_rfl) (by kernel_rfl) (by kernel_rfl) (fun _ _ _ h => h) (Or.inl ⟨by rfl, ?_⟩) (by assumption) ?_
  rotate_left 1
  · (intro w' hSw; go_simp; try with_reducible rfl)
  try simp only [Act.put, List.setIfInBounds_toArray, List.set_cons_zero, List.set_cons_succ]
  refine wpAnyW_take (i := 1) (v := _) (by simp only [List.getElem?_toArray, List.getElem?_cons_succ, List.getElem?_cons_zero]; rfl) (by kernel_rfl) (by kernel_rfl) (by kernel_rfl) (by kernel_rfl) (by kernel_rfl) (fun _ _ _ h => h) (yW (by rfl) (.tmp 4) w.heap.size rfl rfl (fun V h => h.1)) (by assumption) ?_
  try simp only [Act.put, List.setIfInBounds_toArray, List.set_cons_zero, List.set_cons_succ]
  refine wpAnyW_take (i := 2) (v := ?_) (by simp only [List.getElem?_toArray, List.getElem?_cons_succ, List.getElem?_cons_zero]; rfl) (by kernel_rfl) (by kernel_rfl) (by kernel_rfl) (by kernel_rfl) (by kernel_rfl) (fun _ _ _ h => h) (Or.inl ⟨by rfl, ?_⟩) (by assumption) ?_
  rotate_left 1
  · (intro w' hSw; go_simp; try with_reducible rfl)
  try simp only [Act.put, List.setIfInBounds_toArray, List.set_cons_zero, List.set_cons_succ]
  refine wpAnyW_take (i := 4) (v := ?_) (by simp only [List.getElem?_toArray, List.getElem?_cons_succ, List.getElem?_cons_zero]; rfl) (by kernel_rfl) (by kernel_rfl) (by kernel_rfl) (by kernel_rfl) (by kernel_rfl) (fun _ _ _ h => h) (Or.inl ⟨by rfl, ?_⟩) (by assumption) ?_
  rotate_left 1
  · (intro w' hSw; go_simp; try with_reducible rfl)
  try simp only [Act.put, List.setIfInBounds_toArray, List.set_cons_zero, List.set_cons_succ]
  refine wpAnyW_held (i := 3) (by kernel_rfl) (by simp only [List.getElem?_toArray, List.getElem?_cons_succ, List.getElem?_cons_zero]; rfl) (fun K hK => ?_)
  rw [if_pos (by rfl)]
  go_simp
  refine (HB1.out _).mono ?_
  rintro _ w1 ⟨rfl, rfl⟩
  
  go_wp2_with fail
  refine hK.out _ _ hHeld (fun hHeld => ?_)
  clear hK K
  try simp only [Act.put, List.setIfInBounds_toArray, List.set_cons_zero, List.set_cons_succ]
  refine wpAnyW_held (i := 5) (by kernel_rfl) (by simp only [List.getElem?_toArray, List.getElem?_cons_succ, List.getElem?_cons_zero]; rfl) (fun K hK => ?_)
  rw [if_pos (by rfl)]
  go_simp
  refine (HO1.out _).mono ?_
  rintro _ w1 ⟨rfl, rfl⟩
  
  go_wp2_with fail
  refine hK.out _ _ hHeld (fun hHeld => ?_)
  clear hK K
  try simp only [Act.put, List.setIfInBounds_toArray, List.set_cons_zero, List.set_cons_succ]
  refine wpAnyW_held (i := 6) (by kernel_rfl) (by simp only [List.getElem?_toArray, List.getElem?_cons_succ, List.getElem?_cons_zero]; rfl) (fun K hK => ?_)
  rw [if_pos (by rfl)]
  go_simp
  refine (HK.out _).mono ?_
  rintro _ w1 ⟨rfl, hb⟩
  replace hHeld := And.intro (hHeld.1.later hb) (And.intro (hHeld.2.1.later hb) (hHeld.2.2.trans (hb.mono hHeld.2.2.size))); clear hb
  go_wp2_with fail
  refine hK.out _ _ hHeld (fun hHeld => ?_)
  clear hK K
  try simp only [Act.put, List.setIfInBounds_toArray, List.set_cons_zero, List.set_cons_succ]
  refine wpAnyW_held (i := 7) (by kernel_rfl) (by simp only [List.getElem?_toArray, List.getElem?_cons_succ, List.getElem?_cons_zero]; rfl) (fun K hK => ?_)
  rw [if_pos (by rfl)]
  go_simp
  refine (HJ.out _).mono ?_
  rintro _ w1 ⟨rfl, hb⟩
  replace hHeld := And.intro (hHeld.1.later hb) (And.intro (hHeld.2.1.later hb) (hHeld.2.2.trans (hb.mono hHeld.2.2.size))); clear hb
  go_wp2_with fail
  refine hK.out _ _ hHeld (fun hHeld => ?_)
  clear hK K
  try simp only [Act.put, List.setIfInBounds_toArray, List.set_cons_zero, List.set_cons_succ]
  refine wpAnyW_freed (i := 8) (by kernel_rfl) (by kernel_rfl) (by simp only [List.getElem?_toArray, List.getElem?_cons_succ, List.getElem?_cons_zero]; rfl) (fun K hK => ?_)
  rw [if_pos (by rfl)]
  refine wstW (.tmp 8) (.tmp 22) (w.heap.size + 1) R rfl rfl rfl hHeld.2.1 ?_
  intro w2 ht hg
  have HZ := Lib.hid ht
  have HB := Lib.hid (below_of_grown1 hHeld.2.2 hg hHeld.2.2.size (by omega))
  clear ht hg hHeld
  refine hK.out _ _ ?_
  clear hK K
  try simp only [Act.put, List.setIfInBounds_toArray, List.set_cons_zero, List.set_cons_succ]
  refine wpAnyW_done (by kernel_rfl) ?_ _
  refine NoPanic.normal ?_
  go_wp2_with fail
  exact bodyPost_ret (retW rfl rfl HZ.out) rfl ⟨rfl, HB.out⟩
theorem acked_any (t : Wn) (b o : Int) (m : Bool) (w : World) : Calls Try.prog 12 #[.agg (cellsT t), .int .i64 b, .int .i64 o, .bool m] w fun e w' => e = .returned (.agg (cellsT (ackedT t b o m))) ∧ Below w.heap.size w w' := by
  have hi := held_inb t
  have hb := keptI_le b
  unfold ackedT
  cases m with
  | false => exact acked_stayed t (heldT t) b o false (fun W => growth_stays _ W) (fun W => stayed_any _ _ _ W) w
  | true =>
    cases hs : slowB (heldT t) with
    | true =>
      have : grownT (heldT t) (keptI b) (keptI o) true = fastT (heldT t) (keptI b) (keptI o) := by simp [grownT, hs]
      rw [this]
      exact acked_grownFast t _ b o true (fun W => growth_fast _ hs W) (fun W => fast_any _ _ _ hi hb.1 hb.2 W) w
    | false =>
      have : grownT (heldT t) (keptI b) (keptI o) true = steadyT (heldT t) (keptI b) (keptI o) := by simp [grownT, hs]
      rw [this]
      exact acked_grownSteadily t _ b o true (fun W => growth_steady _ hs W) (fun W => steady_any _ _ _ hi hb.1 hb.2 W) w
set_option maxRecDepth 100000 in
theorem may_any (t : Wn) (o : Int) (w : World) : Calls Try.prog 13 #[.agg (cellsT t), .int .i64 o] w fun e w' => e = .returned (.bool (mayB t o)) ∧ Below w.heap.size w w' := by
  have HH := Lib.hid (fun W => held_any t W)
  have HO1 := Lib.hid (fun W => kept_any o W)
  have HT := Lib.hid (show mayB t o = decide (keptI o < (heldT t).cw) from rfl)
  generalize mayB t o = R at *
  generalize heldT t = h at *
  generalize keptI o = ko at *
  have HA := Lib.hid (BS.first w 25 (cellsT t))
  have hf : (Instr.field 25 (Value.agg (cellsT h)) 0).run Try.prog = .ok (.int .i64 h.cw) := by kernel_rfl
  go_enter Try.func13, Try.ntmps13
  go_wp2_with fail
  refine wp_region_noPanic ?_
  refine wp_region_waits (S := fun V => BS w w.heap.size 25 (cellsT t) V) [6] (by kernel_rfl) HA.out.drew (fun hHeld => ?_)
  clear HA
  refine wpAnyW_take (i := 0) (v := ?_) (by simp only [List.getElem?_toArray, List.getElem?_cons_zero]; rfl) (by kernel_rfl) (by kernel_rfl) (by kernel_rfl) (by kernel_rfl) (by kernel_rfl) (fun _ _ _ h => h) (Or.inl ⟨by rfl, ?_⟩) (by assumption) ?_
  rotate_left 1
  · (intro w' hSw; go_simp; try with_reducible rfl)
  try simp only [Act.put, List.setIfInBounds_toArray, List.set_cons_zero, List.set_cons_succ]
  refine wpAnyW_take (i := 2) (v := _) (by simp only [List.getElem?_toArray, List.getElem?_cons_succ, List.getElem?_cons_zero]; rfl) (by kernel_rfl) (by kernel_rfl) (by kernel_rfl) (by kernel_rfl) (by kernel_rfl) (fun _ _ _ h => h) (yW (by rfl) (.tmp 2) w.heap.size rfl rfl (fun V h => h.own)) (by assumption) ?_
  try simp only [Act.put, List.setIfInBounds_toArray, List.set_cons_zero, List.set_cons_succ]
  refine wpAnyW_held (i := 1) (by kernel_rfl) (by simp only [List.getElem?_toArray, List.getElem?_cons_succ, List.getElem?_cons_zero]; rfl) (fun K hK => ?_)
  rw [if_pos (by rfl)]
  go_simp
  refine (HO1.out _).mono ?_
  rintro _ w1 ⟨rfl, rfl⟩
  
  go_wp2_with fail
  refine hK.out _ _ hHeld (fun hHeld => ?_)
  clear hK K
  try simp only [Act.put, List.setIfInBounds_toArray, List.set_cons_zero, List.set_cons_succ]
  refine wpAnyW_held (i := 3) (by kernel_rfl) (by simp only [List.getElem?_toArray, List.getElem?_cons_succ, List.getElem?_cons_zero]; rfl) (fun K hK => ?_)
  rw [if_pos (by rfl)]
  go_simp
  refine (HH.out _).mono ?_
  rintro _ w1 ⟨rfl, hb⟩
  replace hHeld := hHeld.later hb; clear hb
  go_wp2_with fail
  refine hK.out _ _ hHeld (fun hHeld => ?_)
  clear hK K
  try simp only [Act.put, List.setIfInBounds_toArray, List.set_cons_zero, List.set_cons_succ]
  refine wpAnyW_take (i := 4) (v := ?_) (by simp only [List.getElem?_toArray, List.getElem?_cons_succ, List.getElem?_cons_zero]; rfl) (by kernel_rfl) (by kernel_rfl) (by kernel_rfl) (by kernel_rfl) (by kernel_rfl) (fun _ _ _ h => h) (Or.inl ⟨by rfl, ?_⟩) (by assumption) ?_
  rotate_left 1
  · (intro w' hSw; go_simp; try with_reducible rfl)
  try simp only [Act.put, List.setIfInBounds_toArray, List.set_cons_zero, List.set_cons_succ]
  refine wpAnyW_take (i := 5) (v := ?_) (by simp only [List.getElem?_toArray, List.getElem?_cons_succ, List.getElem?_cons_zero]; rfl) (by kernel_rfl) (by kernel_rfl) (by kernel_rfl) (by kernel_rfl) (by kernel_rfl) (fun _ _ _ h => h) (Or.inl ⟨by rfl, ?_⟩) (by assumption) ?_
  rotate_left 1
  · (intro w' hSw; go_simp; try with_reducible rfl)
  try simp only [Act.put, List.setIfInBounds_toArray, List.set_cons_zero, List.set_cons_succ]
  refine wpAnyW_freed (i := 6) (by kernel_rfl) (by kernel_rfl) (by simp only [List.getElem?_toArray, List.getElem?_cons_succ, List.getElem?_cons_zero]; rfl) (fun K hK => ?_)
  rw [if_pos (by rfl)]
  go_simp
  refine hK.out _ _ ?_
  clear hK K
  try simp only [Act.put, List.setIfInBounds_toArray, List.set_cons_zero, List.set_cons_succ]
  refine wpAnyW_done (by kernel_rfl) ?_ _
  refine NoPanic.normal ?_
  go_wp2_with fail
  go_ret
  exact ⟨by rw [HT.out]; rfl, hHeld.below⟩
end Go.Proofs.Ytdlnmmcnpdfbmaa
