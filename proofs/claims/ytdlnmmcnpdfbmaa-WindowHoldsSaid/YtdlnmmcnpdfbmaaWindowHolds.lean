/-
  Whatever comes, or is lost, a window is never below 1500, and lets something be sent when nothing is under way; what is lost never makes it greater than it was, or 6000: any numbers (more than 200 are not asked of).
-/
import Derived.Test.YtdlnmmcnpdfbmaaLift
import Derived.Test.YtdlnmmcnpdfbmaaShown
import Derived.Test.YtdlnmmcnpdfbmaaArgs
import Derived.Test.YtdlnmmcnpdfbmaaWaits
namespace Go.Proofs.Ytdlnmmcnpdfbmaa.windowHolds
open Go.ChangeShapes Go.WideShapes Go.ChangeAt Go.RowKit
set_option linter.unusedVariables false

set_option linter.unusedSimpArgs false
theorem may_small (t : Wn) {x : Int} (h : x < 1500) : mayB t x = true := by
  have := (held_inb t).cw
  refine decide_eq_true ?_
  unfold keptI
  omega
theorem halved_inb {t : Wn} (h : Inb t) : Inb (halvedT t) := by
  have := halfI_le h
  exact ⟨⟨by show _ ≤ halfI t; omega, by show halfI t ≤ _; omega⟩, ⟨by show _ ≤ halfI t; omega, by show halfI t ≤ _; omega⟩, by show (0:Int) ≤ 0; omega, by show (0:Int) ≤ _; omega⟩
theorem restarted_inb {t : Wn} (h : Inb t) : Inb (restartedT t) := by
  have := halfI_le h
  exact ⟨⟨by show (1500:Int) ≤ 1500; omega, by show (1500:Int) ≤ _; omega⟩, ⟨by show _ ≤ halfI t; omega, by show halfI t ≤ _; omega⟩, by show (0:Int) ≤ 0; omega, by show (0:Int) ≤ _; omega⟩
theorem rested_inb {t : Wn} (h : Inb t) : Inb (restedT t) := by
  have := halfI_le h
  have h1 := h.cw
  exact ⟨⟨by show _ ≤ min t.cw (halfI t); omega, by show min t.cw (halfI t) ≤ _; omega⟩, h.ss, h.pa⟩
theorem halved_near (t : Wn) (h : heldT t = t) : (halvedT (heldT t)).cw ≤ max t.cw 6000 := by
  have h1 : 0 ≤ (heldT t).cw := by have := (held_inb t).cw; omega
  show max ((heldT t).cw / 2) 6000 ≤ _
  rw [h] at *
  omega
theorem restarted_near (t : Wn) (h : heldT t = t) : (restartedT (heldT t)).cw ≤ max t.cw 6000 := by
  show (1500 : Int) ≤ _
  omega
theorem rested_near (t : Wn) (h : heldT t = t) : (restedT (heldT t)).cw ≤ max t.cw 6000 := by
  show min (heldT t).cw (halfI (heldT t)) ≤ _
  rw [h]
  omega
theorem acked_inb (t : Wn) (b o : Int) (m : Bool) : Inb (ackedT t b o m) := held_inb _
theorem acked_near (t : Wn) (b : Int) (h : Inb t) : t.cw ≤ (ackedT t b t.cw true).cw ∧ (ackedT t b t.cw true).cw ≤ t.cw + 1500 := by
  have hc := h.cw
  have hb := keptI_le b
  unfold ackedT
  rw [held_in h, keptI_in (by omega) hc.2]
  generalize keptI b = q at *
  have hm : ∀ g : Wn, (heldT g).cw = max (min (max g.cw 0) 1073741824) 1500 := fun _ => rfl
  rw [hm]
  have : t.cw ≤ (grownT t q t.cw true).cw ∧ (grownT t q t.cw true).cw ≤ t.cw + 1500 := by
    unfold grownT
    simp only [if_true]
    split
    · simp only [fastT, Int.le_refl, if_true]; omega
    · unfold steadyT steady1
      split <;> split <;> (dsimp only; omega)
  omega
theorem walk_long (l : List Int) (v : Value) (w : World) (hv : RowE encI w v l) (hl : 200 < l.length) :
    Calls Try.prog 3 #[v] w fun e w' => e = .returned (.bool true) ∧ Below w.heap.size w w' := by
  obtain ⟨A, cap, rfl, _, _, _⟩ := hv
  have hl' : decide (200 < (l.length : Int)) = true := decide_eq_true (by omega)
  have HS := Lib.hid (fun W => shown_any W)
  go_enter Try.func3, Try.ntmps3
  go_wp2_with (refine (HS.out _).mono ?_; rintro e w1 ⟨rfl, hb⟩; have HB := Lib.hid hb; clear hb)
  go_ret
  exact ⟨rfl, HB.out⟩
set_option maxHeartbeats 4000000 in
set_option maxRecDepth 100000 in
theorem walk_short (l : List Int) (v : Value) (w : World) (hv : RowE encI w v l) (hl : l.length ≤ 200) :
    Calls Try.prog 3 #[v] w fun e w' => e = .returned (.bool true) ∧ Below w.heap.size w w' := by
  obtain ⟨A, cap, rfl, hcap, hmax, hcells⟩ := hv
  have HCELL := Lib.hid hcells
  clear hcells
  have hl' : decide (200 < (l.length : Int)) = false := decide_eq_false (by omega)
  have HS := Lib.hid (fun W => shown_any W)
  have hN : newT 60000 = ⟨4500, 60000, 0⟩ := by decide
  have HN : Hid (∀ W, Calls Try.prog 8 #[.int .i64 60000] W fun e w' => e = .returned (.agg (cellsT ⟨4500, 60000, 0⟩)) ∧ Below W.heap.size W w') := Lib.hid (fun W => hN ▸ new_any 60000 W)
  clear hN
  go_enter Try.func3, Try.ntmps3
  go_wp2_with fail
  refine (HS.out _).mono ?_
  rintro e w1 ⟨rfl, hb⟩
  have HB := Lib.hid hb
  clear hb
  go_wp2_with fail
  refine (HN.out _).mono ?_
  rintro e w2 ⟨rfl, hb⟩
  replace HB := Lib.hid (HB.out.trans (hb.mono HB.out.size))
  clear hb
  have HT := Lib.hid (BS.made HB.out 25 (cellsT zeroT))
  have hwt := HB.out.size
  obtain ⟨g1, hg1⟩ : ∃ g, w2.heap.size = g := ⟨_, rfl⟩
  have HF := Lib.hid (Bx.fresh w2 25 (cellsT zeroT))
  rw [hg1] at HT HF hwt
  clear HB HS HN
  go_wp2_with (refine gate9 ?_; refine stW (.tmp 4) (.tmp 16) g1 ⟨4500, 60000, 0⟩ rfl rfl rfl rfl HF.out ?_; intro w4 ht hg; replace HT := Lib.hid (HT.out.set ht hg); clear ht hg HF)
  go_loopw [5] (fun i wr => ∃ (k : Nat) (T : Wn), k ≤ l.length ∧ i = .int .i64 k ∧ Inb T ∧ BS w g1 25 (cellsT T) wr) (fun i _ => l.length - (intOf i).toNat)
  case atStart => exact ⟨0, ⟨4500, 60000, 0⟩, by omega, rfl, ⟨by decide, by decide, by decide⟩, HT.out⟩
  case round =>
    obtain ⟨k, ⟨y, ts, tp⟩, hk, rfl, hin, ht⟩ := hrel
    have H1 := Lib.hid ht
    clear ht HT
    by_cases hlt : k < l.length
    · obtain ⟨b, off, rfl, hb, hc⟩ := HCELL.out (by omega)
      have hck := hc k hlt
      have HCX : Hid (∀ W : World, Below w.heap.size w W → W.cell? ⟨b, off + k, none⟩ = some (.int .i64 l[k]!)) := Lib.hid fun W hW => (hW.cell (p := ⟨b, off + k, none⟩) hb).trans hck
      clear hc hck HCELL
      generalize l[k]! = x at *
      have q0 := HCX.out _ H1.out.below
      have c0 := H1.out.own.cell 0 (.int .i64 y) rfl
      have i0 : (0 : Int) ≤ (k : Int) := Int.natCast_nonneg _
      have i1 : (k : Int) < (l.length : Int) := by omega
      by_cases e0 : Int.tmod x 5 = 0
      · have HX := Lib.hid (fun W => lost_any ⟨y, ts, tp⟩ W)
        have HWR := Lib.hid (halved_inb (held_inb ⟨y, ts, tp⟩))
        have n1 := halved_near ⟨y, ts, tp⟩ (held_in hin)
        have HM := Lib.hid (fun W => may_any (halvedT (heldT ⟨y, ts, tp⟩)) 0 W)
        rw [may_small (halvedT (heldT ⟨y, ts, tp⟩)) (by omega)] at HM
        generalize halvedT (heldT ⟨y, ts, tp⟩) = R at *
        obtain ⟨z, s, p⟩ := R
        have z0 := HWR.out.cw.1
        have s0 := HWR.out.ss.1
        have p0 := HWR.out.pa.1
        simp only at n1 z0 s0 p0
        have z1 : ¬ z < 1500 := by omega
        have s1 : ¬ s < 0 := by omega
        have p1 : ¬ p < 0 := by omega
        clear z0 s0 p0
        replace HM : Hid (∀ W : World, Calls Try.prog 13 #[.agg #[.int .i64 z, .int .i64 s, .int .i64 p], .int .i64 0] W fun e W' => e = .returned (.bool true) ∧ Below W.heap.size W W') := HM
        obtain ⟨mx, hmx, hn⟩ : ∃ mx, (if y < 6000 then 6000 else y) = mx ∧ ¬ mx < z := ⟨_, rfl, by omega⟩
        clear n1
        go_wp2_with (first
    | (refine gate9 ?_; refine ldW (.tmp 4) g1 rfl rfl rfl H1.out.own ?_)
    | (go_at_call 9; (with_reducible refine (HX.out _).mono ?_); rintro e w8 ⟨rfl, hb⟩; clear c0 q0; replace H1 := Lib.hid (H1.out.later hb); clear hb)
    | (refine gate9 ?_; refine stW (.tmp 4) (.tmp 51) g1 ⟨z, s, p⟩ rfl rfl rfl rfl H1.out.own ?_; intro w9 ht hg; replace H1 := Lib.hid (H1.out.set ht hg); clear ht hg; have c0 := H1.out.own.cell 0 (.int .i64 z) rfl; have c1 := H1.out.own.cell 1 (.int .i64 s) rfl; have c2 := H1.out.own.cell 2 (.int .i64 p) rfl)
    | (go_at_call 13; (with_reducible refine (HM.out _).mono ?_); rintro e w8 ⟨rfl, hb⟩; clear c0 c1 c2; replace H1 := Lib.hid (H1.out.later hb); clear hb; have c0 := H1.out.own.cell 0 (.int .i64 z) rfl; have c1 := H1.out.own.cell 1 (.int .i64 s) rfl; have c2 := H1.out.own.cell 2 (.int .i64 p) rfl))
        go_roundw
        case rel => exact ⟨k + 1, ⟨z, s, p⟩, by omega, rfl, HWR.out, H1.out⟩
        case measure => simp [intOf]; omega
      by_cases e1 : Int.tmod x 5 = 1
      · have HX := Lib.hid (fun W => timeout_any ⟨y, ts, tp⟩ W)
        have HWR := Lib.hid (restarted_inb (held_inb ⟨y, ts, tp⟩))
        have n1 := restarted_near ⟨y, ts, tp⟩ (held_in hin)
        have HM := Lib.hid (fun W => may_any (restartedT (heldT ⟨y, ts, tp⟩)) 0 W)
        rw [may_small (restartedT (heldT ⟨y, ts, tp⟩)) (by omega)] at HM
        generalize restartedT (heldT ⟨y, ts, tp⟩) = R at *
        obtain ⟨z, s, p⟩ := R
        have z0 := HWR.out.cw.1
        have s0 := HWR.out.ss.1
        have p0 := HWR.out.pa.1
        simp only at n1 z0 s0 p0
        have z1 : ¬ z < 1500 := by omega
        have s1 : ¬ s < 0 := by omega
        have p1 : ¬ p < 0 := by omega
        clear z0 s0 p0
        replace HM : Hid (∀ W : World, Calls Try.prog 13 #[.agg #[.int .i64 z, .int .i64 s, .int .i64 p], .int .i64 0] W fun e W' => e = .returned (.bool true) ∧ Below W.heap.size W W') := HM
        obtain ⟨mx, hmx, hn⟩ : ∃ mx, (if y < 6000 then 6000 else y) = mx ∧ ¬ mx < z := ⟨_, rfl, by omega⟩
        clear n1
        go_wp2_with (first
    | (refine gate9 ?_; refine ldW (.tmp 4) g1 rfl rfl rfl H1.out.own ?_)
    | (go_at_call 10; (with_reducible refine (HX.out _).mono ?_); rintro e w8 ⟨rfl, hb⟩; clear c0 q0; replace H1 := Lib.hid (H1.out.later hb); clear hb)
    | (refine gate9 ?_; refine stW (.tmp 4) (.tmp 55) g1 ⟨z, s, p⟩ rfl rfl rfl rfl H1.out.own ?_; intro w9 ht hg; replace H1 := Lib.hid (H1.out.set ht hg); clear ht hg; have c0 := H1.out.own.cell 0 (.int .i64 z) rfl; have c1 := H1.out.own.cell 1 (.int .i64 s) rfl; have c2 := H1.out.own.cell 2 (.int .i64 p) rfl)
    | (go_at_call 13; (with_reducible refine (HM.out _).mono ?_); rintro e w8 ⟨rfl, hb⟩; clear c0 c1 c2; replace H1 := Lib.hid (H1.out.later hb); clear hb; have c0 := H1.out.own.cell 0 (.int .i64 z) rfl; have c1 := H1.out.own.cell 1 (.int .i64 s) rfl; have c2 := H1.out.own.cell 2 (.int .i64 p) rfl))
        go_roundw
        case rel => exact ⟨k + 1, ⟨z, s, p⟩, by omega, rfl, HWR.out, H1.out⟩
        case measure => simp [intOf]; omega
      by_cases e2 : Int.tmod x 5 = 2
      · have HX := Lib.hid (fun W => idle_any ⟨y, ts, tp⟩ W)
        have HWR := Lib.hid (rested_inb (held_inb ⟨y, ts, tp⟩))
        have n1 := rested_near ⟨y, ts, tp⟩ (held_in hin)
        have HM := Lib.hid (fun W => may_any (restedT (heldT ⟨y, ts, tp⟩)) 0 W)
        rw [may_small (restedT (heldT ⟨y, ts, tp⟩)) (by omega)] at HM
        generalize restedT (heldT ⟨y, ts, tp⟩) = R at *
        obtain ⟨z, s, p⟩ := R
        have z0 := HWR.out.cw.1
        have s0 := HWR.out.ss.1
        have p0 := HWR.out.pa.1
        simp only at n1 z0 s0 p0
        have z1 : ¬ z < 1500 := by omega
        have s1 : ¬ s < 0 := by omega
        have p1 : ¬ p < 0 := by omega
        clear z0 s0 p0
        replace HM : Hid (∀ W : World, Calls Try.prog 13 #[.agg #[.int .i64 z, .int .i64 s, .int .i64 p], .int .i64 0] W fun e W' => e = .returned (.bool true) ∧ Below W.heap.size W W') := HM
        obtain ⟨mx, hmx, hn⟩ : ∃ mx, (if y < 6000 then 6000 else y) = mx ∧ ¬ mx < z := ⟨_, rfl, by omega⟩
        clear n1
        go_wp2_with (first
    | (refine gate9 ?_; refine ldW (.tmp 4) g1 rfl rfl rfl H1.out.own ?_)
    | (go_at_call 11; (with_reducible refine (HX.out _).mono ?_); rintro e w8 ⟨rfl, hb⟩; clear c0 q0; replace H1 := Lib.hid (H1.out.later hb); clear hb)
    | (refine gate9 ?_; refine stW (.tmp 4) (.tmp 59) g1 ⟨z, s, p⟩ rfl rfl rfl rfl H1.out.own ?_; intro w9 ht hg; replace H1 := Lib.hid (H1.out.set ht hg); clear ht hg; have c0 := H1.out.own.cell 0 (.int .i64 z) rfl; have c1 := H1.out.own.cell 1 (.int .i64 s) rfl; have c2 := H1.out.own.cell 2 (.int .i64 p) rfl)
    | (go_at_call 13; (with_reducible refine (HM.out _).mono ?_); rintro e w8 ⟨rfl, hb⟩; clear c0 c1 c2; replace H1 := Lib.hid (H1.out.later hb); clear hb; have c0 := H1.out.own.cell 0 (.int .i64 z) rfl; have c1 := H1.out.own.cell 1 (.int .i64 s) rfl; have c2 := H1.out.own.cell 2 (.int .i64 p) rfl))
        go_roundw
        case rel => exact ⟨k + 1, ⟨z, s, p⟩, by omega, rfl, HWR.out, H1.out⟩
        case measure => simp [intOf]; omega
      · have HX := Lib.hid (fun W => acked_any ⟨y, ts, tp⟩ x y true W)
        have HWR := Lib.hid (acked_inb ⟨y, ts, tp⟩ x y true)
        have n1 := acked_near ⟨y, ts, tp⟩ x hin
        have HM := Lib.hid (fun W => may_any (ackedT ⟨y, ts, tp⟩ x y true) 0 W)
        rw [may_small (ackedT ⟨y, ts, tp⟩ x y true) (by omega)] at HM
        generalize ackedT ⟨y, ts, tp⟩ x y true = R at *
        obtain ⟨z, s, p⟩ := R
        have z0 := HWR.out.cw.1
        have s0 := HWR.out.ss.1
        have p0 := HWR.out.pa.1
        simp only at n1 z0 s0 p0
        have z1 : ¬ z < 1500 := by omega
        have s1 : ¬ s < 0 := by omega
        have p1 : ¬ p < 0 := by omega
        clear z0 s0 p0
        replace HM : Hid (∀ W : World, Calls Try.prog 13 #[.agg #[.int .i64 z, .int .i64 s, .int .i64 p], .int .i64 0] W fun e W' => e = .returned (.bool true) ∧ Below W.heap.size W W') := HM
        have ht0 := hin.cw
        simp only at ht0
        have n2 : ¬ z < y := by omega
        have n3 : ¬ y + 1500 < z := by omega
        have n4 : ¬ 1073741824 < z := by have := HWR.out.cw.2; simp only at this; omega
        have n5 : IntKind.i64.wrap (y + 1500) = y + 1500 := by rw [IntKind.wrap_i64]; omega
        clear n1 ht0
        go_wp2_with fail
        clear c0 q0
        refine wp_region_noPanic ?_
        refine wp_region_waits (S := fun W => BS w g1 25 (cellsT ⟨y, ts, tp⟩) W) [7] (by kernel_rfl) H1.out.drew (fun hHeld => ?_)
        clear H1
        refine wpAnyW_take (i := 0) (v := _) (by simp only [List.getElem?_toArray, List.getElem?_cons_zero]; rfl) (by kernel_rfl) (by kernel_rfl) (by kernel_rfl) (by kernel_rfl) (by kernel_rfl) (fun _ _ _ h => h) (yW (by rfl) (.tmp 4) g1 rfl rfl (fun W h => h.own)) (by assumption) ?_
        try simp only [Act.put, List.setIfInBounds_toArray, List.set_cons_zero, List.set_cons_succ]
        refine wpAnyW_take (i := 1) (v := ?_) (by simp only [List.getElem?_toArray, List.getElem?_cons_succ, List.getElem?_cons_zero]; rfl) (by kernel_rfl) (by kernel_rfl) (by kernel_rfl) (by kernel_rfl) (by kernel_rfl) (fun _ _ _ h => h) (Or.inl ⟨by rfl, ?_⟩) (by assumption) ?_
        rotate_left 1
        · (intro w' hSw; have hq := HCX.out _ hSw.below; go_simp; try with_reducible rfl)
        try simp only [Act.put, List.setIfInBounds_toArray, List.set_cons_zero, List.set_cons_succ]
        refine wpAnyW_take (i := 2) (v := ?_) (by simp only [List.getElem?_toArray, List.getElem?_cons_succ, List.getElem?_cons_zero]; rfl) (by kernel_rfl) (by kernel_rfl) (by kernel_rfl) (by kernel_rfl) (by kernel_rfl) (fun _ _ _ h => h) (Or.inl ⟨by rfl, ?_⟩) (by assumption) ?_
        rotate_left 1
        · (intro w' hSw; have hq := HCX.out _ hSw.below; go_simp; try with_reducible rfl)
        try simp only [Act.put, List.setIfInBounds_toArray, List.set_cons_zero, List.set_cons_succ]
        refine wpAnyW_take (i := 3) (v := ?_) (by simp only [List.getElem?_toArray, List.getElem?_cons_succ, List.getElem?_cons_zero]; rfl) (by kernel_rfl) (by kernel_rfl) (by kernel_rfl) (by kernel_rfl) (by kernel_rfl) (fun _ _ _ h => h) (Or.inl ⟨by rfl, ?_⟩) (by assumption) ?_
        rotate_left 1
        · (intro w' hSw; have hq := HCX.out _ hSw.below; go_simp; try with_reducible rfl)
        try simp only [Act.put, List.setIfInBounds_toArray, List.set_cons_zero, List.set_cons_succ]
        refine wpAnyW_take (i := 4) (v := ?_) (by simp only [List.getElem?_toArray, List.getElem?_cons_succ, List.getElem?_cons_zero]; rfl) (by kernel_rfl) (by kernel_rfl) (by kernel_rfl) (by kernel_rfl) (by kernel_rfl) (fun _ _ _ h => h) (Or.inl ⟨by rfl, ?_⟩) (by assumption) ?_
        rotate_left 1
        · (intro w' hSw; have hq := HCX.out _ hSw.below; go_simp; try with_reducible rfl)
        try simp only [Act.put, List.setIfInBounds_toArray, List.set_cons_zero, List.set_cons_succ]
        refine wpAnyW_take (i := 5) (v := ?_) (by simp only [List.getElem?_toArray, List.getElem?_cons_succ, List.getElem?_cons_zero]; rfl) (by kernel_rfl) (by kernel_rfl) (by kernel_rfl) (by kernel_rfl) (by kernel_rfl) (fun _ _ _ h => h) (Or.inl ⟨by rfl, ?_⟩) (by assumption) ?_
        rotate_left 1
        · (intro w' hSw; have hq := HCX.out _ hSw.below; go_simp; try with_reducible rfl)
        try simp only [Act.put, List.setIfInBounds_toArray, List.set_cons_zero, List.set_cons_succ]
        refine wpAnyW_held (i := 6) (by kernel_rfl) (by simp only [List.getElem?_toArray, List.getElem?_cons_succ, List.getElem?_cons_zero]; rfl) (fun K hK => ?_)
        rw [if_pos (by rfl)]
        go_simp
        refine (HX.out _).mono ?_
        rintro _ w8 ⟨rfl, hb⟩
        replace hHeld := hHeld.later hb
        clear hb
        go_wp2_with fail
        refine hK.out _ _ hHeld (fun hHeld => ?_)
        clear hK K
        try simp only [Act.put, List.setIfInBounds_toArray, List.set_cons_zero, List.set_cons_succ]
        refine wpAnyW_freed (i := 7) (by kernel_rfl) (by kernel_rfl) (by simp only [List.getElem?_toArray, List.getElem?_cons_succ, List.getElem?_cons_zero]; rfl) (fun K hK => ?_)
        rw [if_pos (by rfl)]
        refine wstW (.tmp 4) (.tmp 36) g1 ⟨z, s, p⟩ rfl rfl rfl hHeld.own ?_
        intro w9 ht hg
        have H1 := Lib.hid (hHeld.set ht hg)
        clear ht hg hHeld
        refine hK.out _ _ ?_
        clear hK K
        try simp only [Act.put, List.setIfInBounds_toArray, List.set_cons_zero, List.set_cons_succ]
        refine wpAnyW_done (by kernel_rfl) ?_ _
        refine NoPanic.normal ?_
        have c0 := H1.out.own.cell 0 (.int .i64 z) rfl
        have c1 := H1.out.own.cell 1 (.int .i64 s) rfl
        have c2 := H1.out.own.cell 2 (.int .i64 p) rfl
        go_wp2_with (go_at_call 13; (with_reducible refine (HM.out _).mono ?_); rintro e w8 ⟨rfl, hb⟩; clear c0 c1 c2; replace H1 := Lib.hid (H1.out.later hb); clear hb; have c0 := H1.out.own.cell 0 (.int .i64 z) rfl; have c1 := H1.out.own.cell 1 (.int .i64 s) rfl; have c2 := H1.out.own.cell 2 (.int .i64 p) rfl)
        go_roundw
        case rel => exact ⟨k + 1, ⟨z, s, p⟩, by omega, rfl, HWR.out, H1.out⟩
        case measure => simp [intOf]; omega
    · have HBE := Lib.hid H1.out.below
      go_wp2_with fail
      go_ret
      exact ⟨rfl, HBE.out⟩
theorem walk (l : List Int) (v : Value) (w : World) (hv : RowE encI w v l) : Calls Try.prog 3 #[v] w fun e w' => e = .returned (.bool true) ∧ Below w.heap.size w w' := by
  by_cases h : l.length ≤ 200
  · exact walk_short l v w hv h
  · exact walk_long l v w hv (by omega)

set_option maxRecDepth 100000 in
theorem lifted (os : Os) (started : os.Started) (H : Type) (enc : TypeId × Value → H) :
    ReturnsInHanded {} Try.checked os 3 .any (Rows.windowHoldsSpec.pre6 enc Try.prog Try.f3 Rows.windowHoldsRow.domain false) (Rows.windowHoldsSpec.post enc Try.prog Try.f3 false true false false) := by
  refine returnsInHanded_of_change_sized (C := Try.checked) own started (by kernel_rfl) Try.func3
    (ChangeSpec.witness6 (enc := enc) (C := Try.checked) false ⟨#[], #[.slice none 0 0], []⟩ 8 (by kernel_rfl) (by kernel_rfl) (by kernel_rfl) (by kernel_rfl)) ?_
  intro W base args ds gs before hval0 hW _ hreach _
  have hval : ∀ (j : Nat) t v, Try.f3.params[j]? = some t → args[j]? = some v → Value.okWide Try.prog W .any base t v := hval0
  obtain ⟨p, q, hA0, _, _, _, _⟩ := id hW
  have hA : DataW.TrodAll enc Try.prog W 0 (fun _ => true) true Try.f3.params.toList args.toList ds p := hA0
  rw [Try.params3] at hA hval
  obtain ⟨v0, vs0, d0, ds0, p0, q0, hargs, rfl, rfl, h0, r0⟩ := trodAll_cons hA
  obtain ⟨rfl, rfl, rfl⟩ := trodAll_nil r0
  obtain rfl : args = #[v0] := by cases args; simp_all
  obtain ⟨l0, w0, s0⟩ := ints_in (hval 0 22 v0 rfl rfl) h0
  refine (walk l0 v0 W w0).mono fun e W' ⟨he, hg⟩ => ?_
  subst he
  exact ⟨_, rfl, law_post laidOut Try.underlying4 (by kernel_rfl) (by kernel_rfl) rfl hW (by simp [Rows.windowHoldsSpec]) hg⟩

theorem proved : Rows.WindowHoldsSaid :=
  OpenClaim.holds_of_wide 3 Try.f3 rfl rfl rfl rfl rfl rfl rfl ⟨rfl, rfl, rfl, rfl, rfl⟩ rfl rfl rfl rfl rfl (by kernel_rfl) Try.func3 (by kernel_rfl)
    (of_decide_eq_true (by kernel_rfl)) (by unfold Func.isWrapper; first | (rw [if_pos (by decide +kernel)]; kernel_rfl) | (rw [if_neg (by decide +kernel)]; exact ⟨rfl, rfl⟩))
    (fun os started H enc _ => lifted os started H enc)
#print axioms proved
end Go.Proofs.Ytdlnmmcnpdfbmaa.windowHolds
