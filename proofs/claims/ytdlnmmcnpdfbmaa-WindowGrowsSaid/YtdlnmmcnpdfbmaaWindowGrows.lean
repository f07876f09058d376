/-
  While it begins, a window that is full grows by what came, 1500 at most; later by 1500 for each window of bytes that came; one that is not full does not grow: any window, any number.
-/
import Derived.Test.YtdlnmmcnpdfbmaaLift
import Derived.Test.YtdlnmmcnpdfbmaaShown
import Derived.Test.YtdlnmmcnpdfbmaaArgs
namespace Go.Proofs.Ytdlnmmcnpdfbmaa.windowGrows
open Go.ChangeShapes Go.WideShapes Go.ChangeAt Go.RowKit
set_option linter.unusedVariables false

set_option linter.unusedSimpArgs false
set_option maxHeartbeats 1000000 in
set_option maxRecDepth 100000 in
theorem walk_out (t : Wn) (b : Int) (h : (t.cw < 1500) ∨ (¬ t.cw < 1500 ∧ 1048576 < t.cw) ∨ (¬ t.cw < 1500 ∧ ¬ 1048576 < t.cw ∧ t.ss < 0) ∨ (¬ t.cw < 1500 ∧ ¬ 1048576 < t.cw ∧ ¬ t.ss < 0 ∧ 1048576 < t.ss) ∨ (¬ t.cw < 1500 ∧ ¬ 1048576 < t.cw ∧ ¬ t.ss < 0 ∧ ¬ 1048576 < t.ss ∧ t.pa < 0) ∨ (¬ t.cw < 1500 ∧ ¬ 1048576 < t.cw ∧ ¬ t.ss < 0 ∧ ¬ 1048576 < t.ss ∧ ¬ t.pa < 0 ∧ 1048576 < t.pa) ∨ (¬ t.cw < 1500 ∧ ¬ 1048576 < t.cw ∧ ¬ t.ss < 0 ∧ ¬ 1048576 < t.ss ∧ ¬ t.pa < 0 ∧ ¬ 1048576 < t.pa ∧ b < 0) ∨ (¬ t.cw < 1500 ∧ ¬ 1048576 < t.cw ∧ ¬ t.ss < 0 ∧ ¬ 1048576 < t.ss ∧ ¬ t.pa < 0 ∧ ¬ 1048576 < t.pa ∧ ¬ b < 0 ∧ 1048576 < b)) (w : World) : Calls Try.prog 4 #[.agg (cellsT t), .int .i64 b] w fun e w' => e = .returned (.bool true) ∧ Below w.heap.size w w' := by
  obtain ⟨cw, ss, pa⟩ := t
  have HS := Lib.hid (fun W => shown_any W)
  have HA := Lib.hid (BS.first w 25 (cellsT (⟨cw, ss, pa⟩ : Wn)))
  obtain ⟨g0, hg0⟩ : ∃ g, w.heap.size = g := ⟨_, rfl⟩
  rw [hg0] at HA
  have c0 := HA.out.own.cell 0 (.int .i64 ((⟨cw, ss, pa⟩ : Wn)).cw) rfl
  have c1 := HA.out.own.cell 1 (.int .i64 ((⟨cw, ss, pa⟩ : Wn)).ss) rfl
  have c2 := HA.out.own.cell 2 (.int .i64 ((⟨cw, ss, pa⟩ : Wn)).pa) rfl
  simp only at h
  rcases h with h0 | ⟨h0, h1⟩ | ⟨h0, h1, h2⟩ | ⟨h0, h1, h2, h3⟩ | ⟨h0, h1, h2, h3, h4⟩ | ⟨h0, h1, h2, h3, h4, h5⟩ | ⟨h0, h1, h2, h3, h4, h5, h6⟩ | ⟨h0, h1, h2, h3, h4, h5, h6, h7⟩
  all_goals
    go_enter Try.func4, Try.ntmps4
    go_wp2_with (first
    | (go_at_call 7; (with_reducible refine (HS.out _).mono ?_); rintro e w1 ⟨rfl, hb⟩; clear c0 c1 c2; replace HA := Lib.hid (HA.out.later hb); clear hb; have c0 := HA.out.own.cell 0 (.int .i64 ((⟨cw, ss, pa⟩ : Wn)).cw) rfl; have c1 := HA.out.own.cell 1 (.int .i64 ((⟨cw, ss, pa⟩ : Wn)).ss) rfl; have c2 := HA.out.own.cell 2 (.int .i64 ((⟨cw, ss, pa⟩ : Wn)).pa) rfl))
    go_ret
    exact ⟨rfl, HA.out.below⟩
/-- What the program tells of a window that is small, and of bytes that are few. -/
theorem grows (cw ss pa b : Int) (h1 : 1500 ≤ cw ∧ cw ≤ 1048576) (h2 : 0 ≤ ss ∧ ss ≤ 1048576) (h3 : 0 ≤ pa ∧ pa ≤ 1048576) (h4 : 0 ≤ b ∧ b ≤ 1048576) :
    ∃ m fp s2 p2 : Int, ackedT ⟨cw, ss, pa⟩ b cw true = ⟨cw + m, ss, fp⟩ ∧ ackedT ⟨cw, ss, pa⟩ b (cw - 1) true = ⟨cw, s2, p2⟩ ∧ ackedT ⟨cw, ss, pa⟩ b cw false = ⟨cw, ss, pa⟩ ∧ 0 ≤ m ∧ m ≤ 1500 ∧
      ((slowB ⟨cw, ss, pa⟩ = true ∧ m = min b 1500) ∨ (slowB ⟨cw, ss, pa⟩ = false ∧ cw ≤ pa + b ∧ m = 1500) ∨ (slowB ⟨cw, ss, pa⟩ = false ∧ ¬ cw ≤ pa + b ∧ m = 0)) := by
  have hi : Inb ⟨cw, ss, pa⟩ := ⟨⟨h1.1, by show cw ≤ _; omega⟩, ⟨h2.1, by show ss ≤ _; omega⟩, h3.1, by show pa ≤ _; omega⟩
  have hh := held_in hi
  have kb : keptI b = b := keptI_in h4.1 (by omega)
  have kc : keptI cw = cw := keptI_in (by omega) (by omega)
  have kd : keptI (cw - 1) = cw - 1 := keptI_in (by omega) (by omega)
  unfold ackedT
  rw [hh, kb, kc, kd]
  have held3 : ∀ c s p : Int, 1500 ≤ c → c ≤ 1073741824 → 0 ≤ s → s ≤ 1073741824 → 0 ≤ p → p ≤ 1073741824 → heldT ⟨c, s, p⟩ = ⟨c, s, p⟩ := fun c s p a1 a2 a3 a4 a5 a6 => held_in ⟨⟨a1, a2⟩, ⟨a3, a4⟩, a5, a6⟩
  by_cases hs : slowB ⟨cw, ss, pa⟩ = true
  · refine ⟨min b 1500, 0, ss, 0, ?_, ?_, ?_, by omega, by omega, .inl ⟨hs, rfl⟩⟩
    · simp only [grownT, hs, if_true, fastT, Int.le_refl]
      exact held3 _ _ _ (by omega) (by omega) h2.1 (by omega) (by omega) (by omega)
    · simp only [grownT, hs, if_true, fastT]
      rw [if_neg (by omega)]
      exact held3 _ _ _ (by omega) (by omega) h2.1 (by omega) (by omega) (by omega)
    · exact hh
  · have hs' : slowB ⟨cw, ss, pa⟩ = false := by simpa using hs
    have hsp : ∃ p2 : Int, heldT (grownT ⟨cw, ss, pa⟩ b (cw - 1) true) = ⟨cw, ss, p2⟩ := by
      simp only [grownT, hs', if_true, Bool.false_eq_true, if_false, steadyT, steady1]
      rw [if_neg (by omega : ¬ (cw ≤ pa + b ∧ cw ≤ cw - 1))]
      by_cases e : b = cw - 1
      · rw [if_pos e]
        exact ⟨0, by dsimp only; exact held3 _ _ _ (by omega) (by omega) h2.1 (by omega) (by omega) (by omega)⟩
      · rw [if_neg e]
        exact ⟨pa + b, held3 _ _ _ (by omega) (by omega) h2.1 (by omega) (by omega) (by omega)⟩
    obtain ⟨p2, hp2⟩ := hsp
    by_cases hf : cw ≤ pa + b
    · have hfu : ∃ fp : Int, heldT (grownT ⟨cw, ss, pa⟩ b cw true) = ⟨cw + 1500, ss, fp⟩ := by
        simp only [grownT, hs', if_true, Bool.false_eq_true, if_false, steadyT, steady1]
        rw [if_pos (by omega : (cw ≤ pa + b ∧ cw ≤ cw))]
        by_cases e : b = cw
        · rw [if_pos e]
          exact ⟨0, by dsimp only; exact held3 _ _ _ (by omega) (by omega) h2.1 (by omega) (by omega) (by omega)⟩
        · rw [if_neg e]
          exact ⟨pa + b - cw, held3 _ _ _ (by omega) (by omega) h2.1 (by omega) (by omega) (by omega)⟩
      obtain ⟨fp, hfp⟩ := hfu
      exact ⟨1500, fp, ss, p2, hfp, hp2, hh, by omega, by omega, .inr (.inl ⟨hs', hf, rfl⟩)⟩
    · have hfu : ∃ fp : Int, heldT (grownT ⟨cw, ss, pa⟩ b cw true) = ⟨cw, ss, fp⟩ := by
        simp only [grownT, hs', if_true, Bool.false_eq_true, if_false, steadyT, steady1]
        rw [if_neg (by omega : ¬ (cw ≤ pa + b ∧ cw ≤ cw))]
        by_cases e : b = cw
        · rw [if_pos e]
          exact ⟨0, by dsimp only; exact held3 _ _ _ (by omega) (by omega) h2.1 (by omega) (by omega) (by omega)⟩
        · rw [if_neg e]
          exact ⟨pa + b, held3 _ _ _ (by omega) (by omega) h2.1 (by omega) (by omega) (by omega)⟩
      obtain ⟨fp, hfp⟩ := hfu
      exact ⟨0, fp, ss, p2, by rw [hfp, Int.add_zero], hp2, hh, by omega, by omega, .inr (.inr ⟨hs', hf, rfl⟩)⟩
set_option maxHeartbeats 4000000 in
set_option maxRecDepth 100000 in
theorem walk_in1 (cw ss pa b : Int) (h1 : 1500 ≤ cw ∧ cw ≤ 1048576) (h2 : 0 ≤ ss ∧ ss ≤ 1048576) (h3 : 0 ≤ pa ∧ pa ≤ 1048576) (h4 : 0 ≤ b ∧ b ≤ 1048576) (w : World) : Calls Try.prog 4 #[.agg (cellsT ⟨cw, ss, pa⟩), .int .i64 b] w fun e w' => e = .returned (.bool true) ∧ Below w.heap.size w w' := by
  obtain ⟨m, fp, s2, p2, e1, e2, e3, hm0, hm1, hcase⟩ := grows cw ss pa b h1 h2 h3 h4
  have HL1 := Lib.hid (fun W => acked_any ⟨cw, ss, pa⟩ b cw true W)
  have HL2 := Lib.hid (fun W => acked_any ⟨cw, ss, pa⟩ b (cw - 1) true W)
  have HL3 := Lib.hid (fun W => acked_any ⟨cw, ss, pa⟩ b cw false W)
  rw [e1] at HL1
  rw [e2] at HL2
  rw [e3] at HL3
  clear e1 e2 e3
  have E1 : ∀ W : World, (binOp .eql 25 (.agg #[.int .i64 cw, .int .i64 ss, .int .i64 pa]) (.agg #[.int .i64 cw, .int .i64 ss, .int .i64 pa])).run Try.prog W = .ok (.bool true) W := fun W => eqlW ⟨cw, ss, pa⟩ W
  have HS := Lib.hid (fun W => shown_any W)
  have HA := Lib.hid (BS.first w 25 (cellsT (⟨cw, ss, pa⟩ : Wn)))
  obtain ⟨g0, hg0⟩ : ∃ g, w.heap.size = g := ⟨_, rfl⟩
  have hwg : w.heap.size ≤ g0 := by omega
  rw [hg0] at HA
  have c0 := HA.out.own.cell 0 (.int .i64 ((⟨cw, ss, pa⟩ : Wn)).cw) rfl
  have c1 := HA.out.own.cell 1 (.int .i64 ((⟨cw, ss, pa⟩ : Wn)).ss) rfl
  have c2 := HA.out.own.cell 2 (.int .i64 ((⟨cw, ss, pa⟩ : Wn)).pa) rfl
  have hb0 : ¬ cw < 1500 := by omega
  have hb1 : ¬ 1048576 < cw := by omega
  have hb2 : ¬ ss < 0 := by omega
  have hb3 : ¬ 1048576 < ss := by omega
  have hb4 : ¬ pa < 0 := by omega
  have hb5 : ¬ 1048576 < pa := by omega
  have hb6 : ¬ b < 0 := by omega
  have hb7 : ¬ 1048576 < b := by omega
  have hw1 : IntKind.i64.wrap (cw - 1) = cw - 1 := by rw [IntKind.wrap_i64]; omega
  have hw2 : IntKind.i64.wrap (pa + b) = pa + b := by rw [IntKind.wrap_i64]; omega
  have hw3 : IntKind.i64.wrap (cw + m - cw) = m := by rw [IntKind.wrap_i64]; omega
  obtain ⟨sl, HSL, hcs⟩ : ∃ sl : Bool, Hid (∀ W : World, Calls Try.prog 14 #[.agg #[.int .i64 cw, .int .i64 ss, .int .i64 pa]] W fun e W' => e = .returned (.bool sl) ∧ Below W.heap.size W W') ∧ ((sl = true ∧ (if 1500 < b then 1500 else b) = m) ∨ (sl = false ∧ m = 1500 ∧ decide (cw ≤ pa + b) = true) ∨ (sl = false ∧ m = 0 ∧ decide (cw ≤ pa + b) = false)) := by
    refine ⟨slowB ⟨cw, ss, pa⟩, Lib.hid fun W => slow_any _ W, ?_⟩
    rcases hcase with ⟨a1, a2⟩ | ⟨a1, a2, a3⟩ | ⟨a1, a2, a3⟩
    · exact .inl ⟨a1, by omega⟩
    · exact .inr (.inl ⟨a1, a3, decide_eq_true a2⟩)
    · exact .inr (.inr ⟨a1, a3, decide_eq_false a2⟩)
  clear hcase
  go_enter Try.func4, Try.ntmps4
  go_wp2_with (first
    | (go_at_call 7; (with_reducible refine (HS.out _).mono ?_); rintro e w1 ⟨rfl, hb⟩; clear c0 c1 c2; replace HA := Lib.hid (HA.out.later hb); clear hb; have c0 := HA.out.own.cell 0 (.int .i64 ((⟨cw, ss, pa⟩ : Wn)).cw) rfl; have c1 := HA.out.own.cell 1 (.int .i64 ((⟨cw, ss, pa⟩ : Wn)).ss) rfl; have c2 := HA.out.own.cell 2 (.int .i64 ((⟨cw, ss, pa⟩ : Wn)).pa) rfl)
    | (refine gate9 ?_; refine ldW (.tmp 2) g0 rfl rfl rfl HA.out.own ?_))
  clear hb0 hb1 hb2 hb3 hb4 hb5 hb6 hb7 h1 h2 h3 h4
  refine (HL1.out _).mono ?_
  rintro e w1 ⟨rfl, hb⟩
  replace HA := Lib.hid (HA.out.later hb)
  clear hb c0 c1 c2 hg0; have c0 := HA.out.own.cell 0 (.int .i64 ((⟨cw, ss, pa⟩ : Wn)).cw) rfl; have c1 := HA.out.own.cell 1 (.int .i64 ((⟨cw, ss, pa⟩ : Wn)).ss) rfl; have c2 := HA.out.own.cell 2 (.int .i64 ((⟨cw, ss, pa⟩ : Wn)).pa) rfl
  have HN1 := Lib.hid (BS.made HA.out.below 25 (cellsT zeroT))
  have HF1 := Lib.hid (Bx.fresh w1 25 (cellsT zeroT))
  have hw1 := HA.out.below.size
  have l1HA := HA.out.own.lt
  replace HA := Lib.hid (HA.out.alloc (.cells #[.int .i64 0, .int .i64 0, .int .i64 0] 25))
  obtain ⟨g1, hg1⟩ : ∃ g, w1.heap.size = g := ⟨_, rfl⟩
  rw [hg1] at HN1 HF1 hw1 l1HA
  go_wp2_with (first
    | (refine gate9 ?_; refine stW (.tmp 6) (.tmp 56) g1 ⟨cw + m, ss, fp⟩ rfl rfl rfl rfl HF1.out ?_; intro w2 ht hg; replace HN1 := Lib.hid (HN1.out.set ht hg); replace HA := Lib.hid (HA.out.kept hg hw1 (Nat.ne_of_lt l1HA)); clear ht hg HF1 hw1 hg1 l1HA; clear c0 c1 c2; have c0 := HA.out.own.cell 0 (.int .i64 ((⟨cw, ss, pa⟩ : Wn)).cw) rfl; have c1 := HA.out.own.cell 1 (.int .i64 ((⟨cw, ss, pa⟩ : Wn)).ss) rfl; have c2 := HA.out.own.cell 2 (.int .i64 ((⟨cw, ss, pa⟩ : Wn)).pa) rfl)
    | (refine gate9 ?_; refine ldW (.tmp 2) g0 rfl rfl rfl HA.out.own ?_))
  refine (HL2.out _).mono ?_
  rintro e w1 ⟨rfl, hb⟩
  replace HA := Lib.hid (HA.out.later hb)
  replace HN1 := Lib.hid (HN1.out.later hb)
  clear hb c0 c1 c2; have c0 := HA.out.own.cell 0 (.int .i64 ((⟨cw, ss, pa⟩ : Wn)).cw) rfl; have c1 := HA.out.own.cell 1 (.int .i64 ((⟨cw, ss, pa⟩ : Wn)).ss) rfl; have c2 := HA.out.own.cell 2 (.int .i64 ((⟨cw, ss, pa⟩ : Wn)).pa) rfl
  have HN2 := Lib.hid (BS.made HA.out.below 25 (cellsT zeroT))
  have HF2 := Lib.hid (Bx.fresh w1 25 (cellsT zeroT))
  have hw2 := HA.out.below.size
  have l2HA := HA.out.own.lt
  replace HA := Lib.hid (HA.out.alloc (.cells #[.int .i64 0, .int .i64 0, .int .i64 0] 25))
  have l2HN1 := HN1.out.own.lt
  replace HN1 := Lib.hid (HN1.out.alloc (.cells #[.int .i64 0, .int .i64 0, .int .i64 0] 25))
  obtain ⟨g2, hg2⟩ : ∃ g, w1.heap.size = g := ⟨_, rfl⟩
  rw [hg2] at HN2 HF2 hw2 l2HA l2HN1
  go_wp2_with (first
    | (refine gate9 ?_; refine stW (.tmp 7) (.tmp 62) g2 ⟨cw, s2, p2⟩ rfl rfl rfl rfl HF2.out ?_; intro w2 ht hg; replace HN2 := Lib.hid (HN2.out.set ht hg); replace HA := Lib.hid (HA.out.kept hg hw2 (Nat.ne_of_lt l2HA)); replace HN1 := Lib.hid (HN1.out.kept hg hw2 (Nat.ne_of_lt l2HN1)); clear ht hg HF2 hw2 hg2 l2HA l2HN1; clear c0 c1 c2; have c0 := HA.out.own.cell 0 (.int .i64 ((⟨cw, ss, pa⟩ : Wn)).cw) rfl; have c1 := HA.out.own.cell 1 (.int .i64 ((⟨cw, ss, pa⟩ : Wn)).ss) rfl; have c2 := HA.out.own.cell 2 (.int .i64 ((⟨cw, ss, pa⟩ : Wn)).pa) rfl)
    | (refine gate9 ?_; refine ldW (.tmp 2) g0 rfl rfl rfl HA.out.own ?_))
  refine (HL3.out _).mono ?_
  rintro e w1 ⟨rfl, hb⟩
  replace HA := Lib.hid (HA.out.later hb)
  replace HN1 := Lib.hid (HN1.out.later hb)
  replace HN2 := Lib.hid (HN2.out.later hb)
  clear hb c0 c1 c2; have c0 := HA.out.own.cell 0 (.int .i64 ((⟨cw, ss, pa⟩ : Wn)).cw) rfl; have c1 := HA.out.own.cell 1 (.int .i64 ((⟨cw, ss, pa⟩ : Wn)).ss) rfl; have c2 := HA.out.own.cell 2 (.int .i64 ((⟨cw, ss, pa⟩ : Wn)).pa) rfl
  have HN3 := Lib.hid (BS.made HA.out.below 25 (cellsT zeroT))
  have HF3 := Lib.hid (Bx.fresh w1 25 (cellsT zeroT))
  have hw3 := HA.out.below.size
  have l3HA := HA.out.own.lt
  replace HA := Lib.hid (HA.out.alloc (.cells #[.int .i64 0, .int .i64 0, .int .i64 0] 25))
  have l3HN1 := HN1.out.own.lt
  replace HN1 := Lib.hid (HN1.out.alloc (.cells #[.int .i64 0, .int .i64 0, .int .i64 0] 25))
  have l3HN2 := HN2.out.own.lt
  replace HN2 := Lib.hid (HN2.out.alloc (.cells #[.int .i64 0, .int .i64 0, .int .i64 0] 25))
  obtain ⟨g3, hg3⟩ : ∃ g, w1.heap.size = g := ⟨_, rfl⟩
  rw [hg3] at HN3 HF3 hw3 l3HA l3HN1 l3HN2
  go_wp2_with (refine gate9 ?_; refine stW (.tmp 8) (.tmp 67) g3 ⟨cw, ss, pa⟩ rfl rfl rfl rfl HF3.out ?_; intro w2 ht hg; replace HN3 := Lib.hid (HN3.out.set ht hg); replace HA := Lib.hid (HA.out.kept hg hw3 (Nat.ne_of_lt l3HA)); replace HN1 := Lib.hid (HN1.out.kept hg hw3 (Nat.ne_of_lt l3HN1)); replace HN2 := Lib.hid (HN2.out.kept hg hw3 (Nat.ne_of_lt l3HN2)); clear ht hg HF3 hw3 hg3 l3HA l3HN1 l3HN2; clear c0 c1 c2; have c0 := HA.out.own.cell 0 (.int .i64 ((⟨cw, ss, pa⟩ : Wn)).cw) rfl; have c1 := HA.out.own.cell 1 (.int .i64 ((⟨cw, ss, pa⟩ : Wn)).ss) rfl; have c2 := HA.out.own.cell 2 (.int .i64 ((⟨cw, ss, pa⟩ : Wn)).pa) rfl; have d0 := HN1.out.own.cell 0 (.int .i64 (cw + m)) rfl; have d1 := HN1.out.own.cell 1 (.int .i64 (ss)) rfl; have f0 := HN2.out.own.cell 0 (.int .i64 (cw)) rfl; have k0 := HN3.out.own.cell 0 (.int .i64 (cw)) rfl; have k1 := HN3.out.own.cell 1 (.int .i64 (ss)) rfl; have k2 := HN3.out.own.cell 2 (.int .i64 (pa)) rfl)
  clear hw1 hwg hm0 hm1
  rcases hcs with ⟨rfl, hq⟩ | ⟨rfl, rfl, hq⟩ | ⟨rfl, rfl, hq⟩
  · go_wp2_with (go_at_call 14; (with_reducible refine (HSL.out _).mono ?_); rintro e w1 ⟨rfl, hb⟩; clear c0 c1 c2 d0 d1 f0 k0 k1 k2; replace HA := Lib.hid (HA.out.later hb); replace HN1 := Lib.hid (HN1.out.later hb); replace HN2 := Lib.hid (HN2.out.later hb); replace HN3 := Lib.hid (HN3.out.later hb); clear hb; have c0 := HA.out.own.cell 0 (.int .i64 ((⟨cw, ss, pa⟩ : Wn)).cw) rfl; have c1 := HA.out.own.cell 1 (.int .i64 ((⟨cw, ss, pa⟩ : Wn)).ss) rfl; have c2 := HA.out.own.cell 2 (.int .i64 ((⟨cw, ss, pa⟩ : Wn)).pa) rfl; have d0 := HN1.out.own.cell 0 (.int .i64 (cw + m)) rfl; have d1 := HN1.out.own.cell 1 (.int .i64 (ss)) rfl; have f0 := HN2.out.own.cell 0 (.int .i64 (cw)) rfl; have k0 := HN3.out.own.cell 0 (.int .i64 (cw)) rfl; have k1 := HN3.out.own.cell 1 (.int .i64 (ss)) rfl; have k2 := HN3.out.own.cell 2 (.int .i64 (pa)) rfl)
    go_ret
    exact ⟨rfl, HA.out.below⟩
  · go_wp2_with (go_at_call 14; (with_reducible refine (HSL.out _).mono ?_); rintro e w1 ⟨rfl, hb⟩; clear c0 c1 c2 d0 d1 f0 k0 k1 k2; replace HA := Lib.hid (HA.out.later hb); replace HN1 := Lib.hid (HN1.out.later hb); replace HN2 := Lib.hid (HN2.out.later hb); replace HN3 := Lib.hid (HN3.out.later hb); clear hb; have c0 := HA.out.own.cell 0 (.int .i64 ((⟨cw, ss, pa⟩ : Wn)).cw) rfl; have c1 := HA.out.own.cell 1 (.int .i64 ((⟨cw, ss, pa⟩ : Wn)).ss) rfl; have c2 := HA.out.own.cell 2 (.int .i64 ((⟨cw, ss, pa⟩ : Wn)).pa) rfl; have d0 := HN1.out.own.cell 0 (.int .i64 (cw + 1500)) rfl; have d1 := HN1.out.own.cell 1 (.int .i64 (ss)) rfl; have f0 := HN2.out.own.cell 0 (.int .i64 (cw)) rfl; have k0 := HN3.out.own.cell 0 (.int .i64 (cw)) rfl; have k1 := HN3.out.own.cell 1 (.int .i64 (ss)) rfl; have k2 := HN3.out.own.cell 2 (.int .i64 (pa)) rfl)
    go_ret
    exact ⟨rfl, HA.out.below⟩
  · go_wp2_with (go_at_call 14; (with_reducible refine (HSL.out _).mono ?_); rintro e w1 ⟨rfl, hb⟩; clear c0 c1 c2 d0 d1 f0 k0 k1 k2; replace HA := Lib.hid (HA.out.later hb); replace HN1 := Lib.hid (HN1.out.later hb); replace HN2 := Lib.hid (HN2.out.later hb); replace HN3 := Lib.hid (HN3.out.later hb); clear hb; have c0 := HA.out.own.cell 0 (.int .i64 ((⟨cw, ss, pa⟩ : Wn)).cw) rfl; have c1 := HA.out.own.cell 1 (.int .i64 ((⟨cw, ss, pa⟩ : Wn)).ss) rfl; have c2 := HA.out.own.cell 2 (.int .i64 ((⟨cw, ss, pa⟩ : Wn)).pa) rfl; have d0 := HN1.out.own.cell 0 (.int .i64 (cw + 0)) rfl; have d1 := HN1.out.own.cell 1 (.int .i64 (ss)) rfl; have f0 := HN2.out.own.cell 0 (.int .i64 (cw)) rfl; have k0 := HN3.out.own.cell 0 (.int .i64 (cw)) rfl; have k1 := HN3.out.own.cell 1 (.int .i64 (ss)) rfl; have k2 := HN3.out.own.cell 2 (.int .i64 (pa)) rfl)
    go_ret
    exact ⟨rfl, HA.out.below⟩
theorem walk (t : Wn) (b : Int) (w : World) : Calls Try.prog 4 #[.agg (cellsT t), .int .i64 b] w fun e w' => e = .returned (.bool true) ∧ Below w.heap.size w w' := by
  by_cases h : (t.cw < 1500) ∨ (¬ t.cw < 1500 ∧ 1048576 < t.cw) ∨ (¬ t.cw < 1500 ∧ ¬ 1048576 < t.cw ∧ t.ss < 0) ∨ (¬ t.cw < 1500 ∧ ¬ 1048576 < t.cw ∧ ¬ t.ss < 0 ∧ 1048576 < t.ss) ∨ (¬ t.cw < 1500 ∧ ¬ 1048576 < t.cw ∧ ¬ t.ss < 0 ∧ ¬ 1048576 < t.ss ∧ t.pa < 0) ∨ (¬ t.cw < 1500 ∧ ¬ 1048576 < t.cw ∧ ¬ t.ss < 0 ∧ ¬ 1048576 < t.ss ∧ ¬ t.pa < 0 ∧ 1048576 < t.pa) ∨ (¬ t.cw < 1500 ∧ ¬ 1048576 < t.cw ∧ ¬ t.ss < 0 ∧ ¬ 1048576 < t.ss ∧ ¬ t.pa < 0 ∧ ¬ 1048576 < t.pa ∧ b < 0) ∨ (¬ t.cw < 1500 ∧ ¬ 1048576 < t.cw ∧ ¬ t.ss < 0 ∧ ¬ 1048576 < t.ss ∧ ¬ t.pa < 0 ∧ ¬ 1048576 < t.pa ∧ ¬ b < 0 ∧ 1048576 < b)
  · exact walk_out t b h w
  · obtain ⟨cw, ss, pa⟩ := t
    simp only at h
    exact walk_in1 cw ss pa b (by omega) (by omega) (by omega) (by omega) w

set_option maxRecDepth 100000 in
theorem lifted (os : Os) (started : os.Started) (H : Type) (enc : TypeId × Value → H) :
    ReturnsInHanded {} Try.checked os 4 .any (Rows.windowGrowsSpec.pre6 enc Try.prog Try.f4 Rows.windowGrowsRow.domain false) (Rows.windowGrowsSpec.post enc Try.prog Try.f4 false true false false) := by
  refine returnsInHanded_of_change_sized (C := Try.checked) own started (by kernel_rfl) Try.func4
    (ChangeSpec.witness6 (enc := enc) (C := Try.checked) false ⟨#[], #[.agg #[.int .i64 0, .int .i64 0, .int .i64 0], .int .i64 0], []⟩ 8 (by kernel_rfl) (by kernel_rfl) (by kernel_rfl) (by kernel_rfl)) ?_
  intro W base args ds gs before hval0 hW _ hreach _
  have hval : ∀ (j : Nat) t v, Try.f4.params[j]? = some t → args[j]? = some v → Value.okWide Try.prog W .any base t v := hval0
  obtain ⟨p, q, hA0, _, _, _, _⟩ := id hW
  have hA : DataW.TrodAll enc Try.prog W 0 (fun _ => true) true Try.f4.params.toList args.toList ds p := hA0
  rw [Try.params4] at hA hval
  obtain ⟨v0, vs0, d0, ds0, p0, q0, hargs, rfl, rfl, h0, r0⟩ := trodAll_cons hA
  obtain ⟨v1, vs1, d1, ds1, p1, q1, rfl, rfl, rfl, h1, r1⟩ := trodAll_cons r0
  obtain ⟨rfl, rfl, rfl⟩ := trodAll_nil r1
  obtain rfl : args = #[v0, v1] := by cases args; simp_all
  obtain ⟨s0, rfl, i0⟩ := window_in (hval 0 25 v0 rfl rfl) h0
  obtain ⟨a1, rfl, rfl, rfl, w1⟩ := open_int Try.underlying3 (hval 1 3 v1 rfl rfl) h1
  refine (walk s0 a1 W).mono fun e W' ⟨he, hg⟩ => ?_
  subst he
  exact ⟨_, rfl, law_post laidOut Try.underlying4 (by kernel_rfl) (by kernel_rfl) rfl hW (by simp [Rows.windowGrowsSpec]) hg⟩

theorem proved : Rows.WindowGrowsSaid :=
  OpenClaim.holds_of_wide 4 Try.f4 rfl rfl rfl rfl rfl rfl rfl ⟨rfl, rfl, rfl, rfl, rfl⟩ rfl rfl rfl rfl rfl (by kernel_rfl) Try.func4 (by kernel_rfl)
    (of_decide_eq_true (by kernel_rfl)) (by unfold Func.isWrapper; first | (rw [if_pos (by decide +kernel)]; kernel_rfl) | (rw [if_neg (by decide +kernel)]; exact ⟨rfl, rfl⟩))
    (fun os started H enc _ => lifted os started H enc)
#print axioms proved
end Go.Proofs.Ytdlnmmcnpdfbmaa.windowGrows
