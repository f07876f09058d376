/-
  What a chunk's type asks for beyond how much there may be, and whether it is right but for its items and its length: contracts.
-/
import Derived.Test.YtfdnphkdpmlbnaaFormed
namespace Go.Proofs.Ytfdnphkdpmlbnaa
open Go.RowKit
set_option linter.unusedVariables false
set_option linter.unusedSimpArgs false
set_option maxRecDepth 100000

set_option maxHeartbeats 4000000 in
theorem meant_any (c : Ck) (hw : WfC c) (hl : c.gaps.length ≤ 100000) (hi : c.type = 4 ∨ c.type = 5 → c.items ≠ []) (g d i : Value) (w : World) (hp : Parts w c g d i) :
    Calls Try.prog 63 #[.agg (cellsC c g d i)] w fun e w' => e = .returned (.bool (meantB c)) ∧ Below w.heap.size w w' := by
  obtain ⟨ty, fl, tsn, tag, win, ppid, st, ssn, outs, ins, gaps, dups, items, text⟩ := c
  obtain ⟨p1, p2, p3⟩ := hp
  obtain ⟨a1, a2, a3, a4, a5, a6, a7, a8, a9, a10⟩ := hw
  dsimp only at p1 p3 a2 a7 a8 a9 hi hl
  have HB := Lib.hid ((Below.refl w.heap.size w).alloc (Nat.le_refl _) (.cells (cellsC ⟨ty, fl, tsn, tag, win, ppid, st, ssn, outs, ins, gaps, dups, items, text⟩ g d i) 44))
  have HA := Lib.hid (apart_any gaps hl a9 g _ (p1.below HB.out))
  dsimp only [cellsC] at HB HA ⊢
  clear a1 a3 a4 a5 a6 a9 a10 p1 p2
  by_cases t1 : ty = 1
  · subst t1
    clear HA
    have e : meantB ⟨1, fl, tsn, tag, win, ppid, st, ssn, outs, ins, gaps, dups, items, text⟩ = (decide (tag ≠ 0) && decide (outs ≠ 0) && decide (ins ≠ 0)) := rfl
    rw [e]
    clear e
    by_cases h1 : tag = 0
    · subst h1
      simp only [ne_eq, not_true_eq_false, decide_false, Bool.false_and]
      go_enter Try.func63, Try.ntmps63
      go_wp2_with fail
      go_ret
      exact ⟨rfl, HB.out⟩
    have k1 : ((tag : Int) != 0) = true := bne_iff_ne.2 (by omega)
    by_cases h2 : outs = 0
    · subst h2
      simp only [ne_eq, not_true_eq_false, decide_false, Bool.false_and, Bool.and_false]
      go_enter Try.func63, Try.ntmps63
      go_wp2_with fail
      go_ret
      exact ⟨rfl, HB.out⟩
    have k2 : ((outs : Int) != 0) = true := bne_iff_ne.2 (by omega)
    by_cases h3 : ins = 0
    · subst h3
      simp only [ne_eq, not_true_eq_false, decide_false, Bool.false_and, Bool.and_false]
      go_enter Try.func63, Try.ntmps63
      go_wp2_with fail
      go_ret
      exact ⟨rfl, HB.out⟩
    have k3 : ((ins : Int) != 0) = true := bne_iff_ne.2 (by omega)
    rw [decide_eq_true h1, decide_eq_true h2, decide_eq_true h3]
    clear h1 h2 h3
    go_enter Try.func63, Try.ntmps63
    go_wp2_with fail
    go_ret
    exact ⟨rfl, HB.out⟩
  by_cases t2 : ty = 2
  · subst t2
    clear HA
    have e : meantB ⟨2, fl, tsn, tag, win, ppid, st, ssn, outs, ins, gaps, dups, items, text⟩ = (decide (tag ≠ 0) && decide (outs ≠ 0) && decide (ins ≠ 0)) := rfl
    rw [e]
    clear e
    by_cases h1 : tag = 0
    · subst h1
      simp only [ne_eq, not_true_eq_false, decide_false, Bool.false_and]
      go_enter Try.func63, Try.ntmps63
      go_wp2_with fail
      go_ret
      exact ⟨rfl, HB.out⟩
    have k1 : ((tag : Int) != 0) = true := bne_iff_ne.2 (by omega)
    by_cases h2 : outs = 0
    · subst h2
      simp only [ne_eq, not_true_eq_false, decide_false, Bool.false_and, Bool.and_false]
      go_enter Try.func63, Try.ntmps63
      go_wp2_with fail
      go_ret
      exact ⟨rfl, HB.out⟩
    have k2 : ((outs : Int) != 0) = true := bne_iff_ne.2 (by omega)
    by_cases h3 : ins = 0
    · subst h3
      simp only [ne_eq, not_true_eq_false, decide_false, Bool.false_and, Bool.and_false]
      go_enter Try.func63, Try.ntmps63
      go_wp2_with fail
      go_ret
      exact ⟨rfl, HB.out⟩
    have k3 : ((ins : Int) != 0) = true := bne_iff_ne.2 (by omega)
    rw [decide_eq_true h1, decide_eq_true h2, decide_eq_true h3]
    clear h1 h2 h3
    go_enter Try.func63, Try.ntmps63
    go_wp2_with fail
    go_ret
    exact ⟨rfl, HB.out⟩
  by_cases t3 : ty = 3
  · subst t3
    have e : meantB ⟨3, fl, tsn, tag, win, ppid, st, ssn, outs, ins, gaps, dups, items, text⟩ = apartB 1 gaps := rfl
    rw [e]
    generalize apartB 1 gaps = q at *
    clear e
    go_enter Try.func63, Try.ntmps63
    go_wp2_with fail
    refine HA.out.mono ?_
    rintro e w1 ⟨rfl, hb1⟩
    replace HB := Lib.hid (HB.out.trans (hb1.mono HB.out.size))
    clear hb1
    go_wp2_with fail
    go_ret
    exact ⟨rfl, HB.out⟩
  by_cases t4 : ty = 4
  · subst t4
    clear HA
    have hne := hi (by omega)
    obtain ⟨⟨x, t⟩, l, rfl⟩ := List.exists_cons_of_ne_nil hne
    have e : meantB ⟨4, fl, tsn, tag, win, ppid, st, ssn, outs, ins, gaps, dups, (x, t) :: l, text⟩ = decide (x = 1) := rfl
    rw [e]
    obtain ⟨A, cap, rfl, hcap, hmax, hcells⟩ := p3
    obtain ⟨b, off, rfl, hb, hc⟩ := hcells (by simp)
    have hc0 := (hc 0 (by simp)).1
    simp only [Nat.zero_mul, Nat.add_zero, List.getElem_cons_zero] at hc0
    have hz : 0 < (((x, t) : Item) :: l).length := by simp
    have hz' : (0 : Int) < ((((x, t) : Item) :: l).length : Int) := by omega
    clear e hc hcells hne hi
    generalize (((x, t) : Item) :: l).length = n at *
    by_cases hx : x = 1
    · subst hx
      rw [decide_eq_true rfl]
      go_enter Try.func63, Try.ntmps63
      go_wp2_with fail
      go_ret
      exact ⟨rfl, HB.out⟩
    · have k1 : (x == 1) = false := beq_eq_false_iff_ne.2 hx
      rw [decide_eq_false hx]
      clear hx
      go_enter Try.func63, Try.ntmps63
      go_wp2_with fail
      go_ret
      exact ⟨rfl, HB.out⟩
  by_cases t5 : ty = 5
  · subst t5
    clear HA
    have hne := hi (by omega)
    obtain ⟨⟨x, t⟩, l, rfl⟩ := List.exists_cons_of_ne_nil hne
    have e : meantB ⟨5, fl, tsn, tag, win, ppid, st, ssn, outs, ins, gaps, dups, (x, t) :: l, text⟩ = decide (x = 1) := rfl
    rw [e]
    obtain ⟨A, cap, rfl, hcap, hmax, hcells⟩ := p3
    obtain ⟨b, off, rfl, hb, hc⟩ := hcells (by simp)
    have hc0 := (hc 0 (by simp)).1
    simp only [Nat.zero_mul, Nat.add_zero, List.getElem_cons_zero] at hc0
    have hz : 0 < (((x, t) : Item) :: l).length := by simp
    have hz' : (0 : Int) < ((((x, t) : Item) :: l).length : Int) := by omega
    clear e hc hcells hne hi
    generalize (((x, t) : Item) :: l).length = n at *
    by_cases hx : x = 1
    · subst hx
      rw [decide_eq_true rfl]
      go_enter Try.func63, Try.ntmps63
      go_wp2_with fail
      go_ret
      exact ⟨rfl, HB.out⟩
    · have k1 : (x == 1) = false := beq_eq_false_iff_ne.2 hx
      rw [decide_eq_false hx]
      clear hx
      go_enter Try.func63, Try.ntmps63
      go_wp2_with fail
      go_ret
      exact ⟨rfl, HB.out⟩
  have e : meantB ⟨ty, fl, tsn, tag, win, ppid, st, ssn, outs, ins, gaps, dups, items, text⟩ = true := by unfold meantB; simp only [t1, t2, t3, t4, t5, or_self, if_false]
  rw [e]
  have n1 : (ty == 1) = false := beq_eq_false_iff_ne.2 t1
  have n2 : (ty == 2) = false := beq_eq_false_iff_ne.2 t2
  have n3 : (ty == 3) = false := beq_eq_false_iff_ne.2 t3
  have n4 : (ty == 4) = false := beq_eq_false_iff_ne.2 t4
  have n5 : (ty == 5) = false := beq_eq_false_iff_ne.2 t5
  clear e HA
  go_enter Try.func63, Try.ntmps63
  go_wp2_with fail
  go_ret
  exact ⟨rfl, HB.out⟩
theorem form_items {k : Int} {n : Nat} (h : withinB (n : Int) (formOf k).2.2.1.1 (formOf k).2.2.1.2 = true) (hk : k = 4 ∨ k = 5) : n = 1 := by
  have := within_true.1 h
  rcases hk with rfl | rfl
  · have e : formOf 4 = (0, (0, 0), (1, 1), 0) := rfl
    rw [e] at this
    dsimp only at this
    omega
  · have e : formOf 5 = (0, (0, 0), (1, 1), 0) := rfl
    rw [e] at this
    dsimp only at this
    omega
set_option maxHeartbeats 8000000 in
theorem formed_any (c : Ck) (hw : WfC c) (hl : c.gaps.length ≤ 100000) (hl2 : c.dups.length ≤ 100000) (hl3 : c.items.length ≤ 100000) (hs : c.text.size ≤ 1000000) (g d i : Value) (w : World) (hp : Parts w c g d i) :
    Calls Try.prog 47 #[.agg (cellsC c g d i)] w fun e w' => e = .returned (.bool (formedB c)) ∧ Below w.heap.size w w' := by
  have HB := Lib.hid ((Below.refl w.heap.size w).alloc (Nat.le_refl _) (.cells (cellsC c g d i) 44))
  have HX0 := Lib.hid (heap_alloc_new w (.cells (cellsC c g d i) 44))
  have HP := Lib.hid hp
  have HF := Lib.hid (fun W => formOf_any c.type W)
  have HM := Lib.hid (fun hi W h => meant_any c hw hl hi g d i W h)
  have HO := Lib.hid (fun W => own_any c hw g d i W)
  have HI := Lib.hid (fun h hk => form_items (k := c.type) (n := c.items.length) h hk)
  have HL := Lib.hid (show c.items.length = 1 → c.items ≠ [] from fun h e => by rw [e] at h; cases h)
  have W1 := Lib.hid (fun W => cwithin_any c.type 0 255 W)
  have W2 := Lib.hid (fun W => cwithin_any c.flags 0 (formOf c.type).1 W)
  have W3 := Lib.hid (fun W => cwithin_any (c.text.size : Int) (formOf c.type).2.1.1 (formOf c.type).2.1.2 W)
  have W4 := Lib.hid (fun W => cwithin_any (c.items.length : Int) (formOf c.type).2.2.1.1 (formOf c.type).2.2.1.2 W)
  unfold formedB
  unfold formA at HF
  obtain ⟨⟨A1, k1, rfl⟩, ⟨A2, k2, rfl⟩, ⟨A3, k3, rfl⟩⟩ := hp.slices
  obtain ⟨ty, fl, tsn, tag, win, ppid, st, ssn, outs, ins, gaps, dups, items, text⟩ := c
  dsimp only [cellsC] at *
  clear hw hp hl3
  generalize formOf ty = F at *
  obtain ⟨mf, ⟨ta, tb⟩, ⟨ia, ib⟩, mr⟩ := F
  dsimp only at *
  generalize withinB ty 0 255 = b1 at *
  generalize withinB fl 0 mf = b2 at *
  generalize withinB (text.size : Int) ta tb = b3 at *
  generalize withinB (items.length : Int) ia ib = b4 at *
  generalize ownB ⟨ty, fl, tsn, tag, win, ppid, st, ssn, outs, ins, gaps, dups, items, text⟩ = b7 at *
  generalize meantB ⟨ty, fl, tsn, tag, win, ppid, st, ssn, outs, ins, gaps, dups, items, text⟩ = b8 at *
  have hl' : (gaps.length : Int) ≤ 100000 := by omega
  have hl2' : (dups.length : Int) ≤ 100000 := by omega
  have hs' : (text.size : Int) ≤ 1000000 := by omega
  cases b1 with
  | false =>
    simp only [Bool.false_and, Bool.true_and, Bool.and_false]
    go_enter Try.func47, Try.ntmps47
    go_wp2_with fail
    refine (HF.out _).mono ?_
    rintro e w1 ⟨rfl, hb1⟩
    have hx := (hb1.block _ (Array.getElem?_eq_some_iff.1 HX0.out).1).trans HX0.out
    replace HP := Lib.hid ((HP.out.below ((Below.refl _ _).alloc (Nat.le_refl _) _)).below hb1)
    replace HB := Lib.hid (HB.out.trans (hb1.mono HB.out.size))
    have c0 : w1.cell? ⟨w.heap.size, 0, none⟩ = some (.int .i64 ty) := by rw [cell_in hx]; rfl
    have c1 : w1.cell? ⟨w.heap.size, 1, none⟩ = some (.int .i64 fl) := by rw [cell_in hx]; rfl
    have c2 : w1.cell? ⟨w.heap.size, 2, none⟩ = some (.int .u32 (tsn : Int)) := by rw [cell_in hx]; rfl
    have c3 : w1.cell? ⟨w.heap.size, 3, none⟩ = some (.int .u32 (tag : Int)) := by rw [cell_in hx]; rfl
    have c4 : w1.cell? ⟨w.heap.size, 4, none⟩ = some (.int .u32 (win : Int)) := by rw [cell_in hx]; rfl
    have c5 : w1.cell? ⟨w.heap.size, 5, none⟩ = some (.int .u32 (ppid : Int)) := by rw [cell_in hx]; rfl
    have c6 : w1.cell? ⟨w.heap.size, 6, none⟩ = some (.int .u16 (st : Int)) := by rw [cell_in hx]; rfl
    have c7 : w1.cell? ⟨w.heap.size, 7, none⟩ = some (.int .u16 (ssn : Int)) := by rw [cell_in hx]; rfl
    have c8 : w1.cell? ⟨w.heap.size, 8, none⟩ = some (.int .u16 (outs : Int)) := by rw [cell_in hx]; rfl
    have c9 : w1.cell? ⟨w.heap.size, 9, none⟩ = some (.int .u16 (ins : Int)) := by rw [cell_in hx]; rfl
    have c10 : w1.cell? ⟨w.heap.size, 10, none⟩ = some (.slice A1 gaps.length k1) := by rw [cell_in hx]; rfl
    have c11 : w1.cell? ⟨w.heap.size, 11, none⟩ = some (.slice A2 dups.length k2) := by rw [cell_in hx]; rfl
    have c12 : w1.cell? ⟨w.heap.size, 12, none⟩ = some (.slice A3 items.length k3) := by rw [cell_in hx]; rfl
    have c13 : w1.cell? ⟨w.heap.size, 13, none⟩ = some (.string text) := by rw [cell_in hx]; rfl
    have hlt : w.heap.size < w1.heap.size := (Array.getElem?_eq_some_iff.1 hx).1
    have HX := Lib.hid hx
    clear hx hb1 HX0
    go_wp2_with (first
      | (go_at_call 61; ((with_reducible refine (W1.out _).mono ?_); rintro e w2 ⟨rfl, rfl⟩)))
    go_ret
    exact ⟨rfl, HB.out.alloc HB.out.size _⟩
  | true =>
    cases b2 with
    | false =>
      simp only [Bool.false_and, Bool.true_and, Bool.and_false]
      go_enter Try.func47, Try.ntmps47
      go_wp2_with fail
      refine (HF.out _).mono ?_
      rintro e w1 ⟨rfl, hb1⟩
      have hx := (hb1.block _ (Array.getElem?_eq_some_iff.1 HX0.out).1).trans HX0.out
      replace HP := Lib.hid ((HP.out.below ((Below.refl _ _).alloc (Nat.le_refl _) _)).below hb1)
      replace HB := Lib.hid (HB.out.trans (hb1.mono HB.out.size))
      have c0 : w1.cell? ⟨w.heap.size, 0, none⟩ = some (.int .i64 ty) := by rw [cell_in hx]; rfl
      have c1 : w1.cell? ⟨w.heap.size, 1, none⟩ = some (.int .i64 fl) := by rw [cell_in hx]; rfl
      have c2 : w1.cell? ⟨w.heap.size, 2, none⟩ = some (.int .u32 (tsn : Int)) := by rw [cell_in hx]; rfl
      have c3 : w1.cell? ⟨w.heap.size, 3, none⟩ = some (.int .u32 (tag : Int)) := by rw [cell_in hx]; rfl
      have c4 : w1.cell? ⟨w.heap.size, 4, none⟩ = some (.int .u32 (win : Int)) := by rw [cell_in hx]; rfl
      have c5 : w1.cell? ⟨w.heap.size, 5, none⟩ = some (.int .u32 (ppid : Int)) := by rw [cell_in hx]; rfl
      have c6 : w1.cell? ⟨w.heap.size, 6, none⟩ = some (.int .u16 (st : Int)) := by rw [cell_in hx]; rfl
      have c7 : w1.cell? ⟨w.heap.size, 7, none⟩ = some (.int .u16 (ssn : Int)) := by rw [cell_in hx]; rfl
      have c8 : w1.cell? ⟨w.heap.size, 8, none⟩ = some (.int .u16 (outs : Int)) := by rw [cell_in hx]; rfl
      have c9 : w1.cell? ⟨w.heap.size, 9, none⟩ = some (.int .u16 (ins : Int)) := by rw [cell_in hx]; rfl
      have c10 : w1.cell? ⟨w.heap.size, 10, none⟩ = some (.slice A1 gaps.length k1) := by rw [cell_in hx]; rfl
      have c11 : w1.cell? ⟨w.heap.size, 11, none⟩ = some (.slice A2 dups.length k2) := by rw [cell_in hx]; rfl
      have c12 : w1.cell? ⟨w.heap.size, 12, none⟩ = some (.slice A3 items.length k3) := by rw [cell_in hx]; rfl
      have c13 : w1.cell? ⟨w.heap.size, 13, none⟩ = some (.string text) := by rw [cell_in hx]; rfl
      have hlt : w.heap.size < w1.heap.size := (Array.getElem?_eq_some_iff.1 hx).1
      have HX := Lib.hid hx
      clear hx hb1 HX0
      go_wp2_with (first
        | (go_at_call 61; ((with_reducible refine (W1.out _).mono ?_); rintro e w2 ⟨rfl, rfl⟩))
        | (go_at_call 61; ((with_reducible refine (W2.out _).mono ?_); rintro e w2 ⟨rfl, rfl⟩)))
      go_ret
      exact ⟨rfl, HB.out.alloc HB.out.size _⟩
    | true =>
      cases b3 with
      | false =>
        simp only [Bool.false_and, Bool.true_and, Bool.and_false]
        go_enter Try.func47, Try.ntmps47
        go_wp2_with fail
        refine (HF.out _).mono ?_
        rintro e w1 ⟨rfl, hb1⟩
        have hx := (hb1.block _ (Array.getElem?_eq_some_iff.1 HX0.out).1).trans HX0.out
        replace HP := Lib.hid ((HP.out.below ((Below.refl _ _).alloc (Nat.le_refl _) _)).below hb1)
        replace HB := Lib.hid (HB.out.trans (hb1.mono HB.out.size))
        have c0 : w1.cell? ⟨w.heap.size, 0, none⟩ = some (.int .i64 ty) := by rw [cell_in hx]; rfl
        have c1 : w1.cell? ⟨w.heap.size, 1, none⟩ = some (.int .i64 fl) := by rw [cell_in hx]; rfl
        have c2 : w1.cell? ⟨w.heap.size, 2, none⟩ = some (.int .u32 (tsn : Int)) := by rw [cell_in hx]; rfl
        have c3 : w1.cell? ⟨w.heap.size, 3, none⟩ = some (.int .u32 (tag : Int)) := by rw [cell_in hx]; rfl
        have c4 : w1.cell? ⟨w.heap.size, 4, none⟩ = some (.int .u32 (win : Int)) := by rw [cell_in hx]; rfl
        have c5 : w1.cell? ⟨w.heap.size, 5, none⟩ = some (.int .u32 (ppid : Int)) := by rw [cell_in hx]; rfl
        have c6 : w1.cell? ⟨w.heap.size, 6, none⟩ = some (.int .u16 (st : Int)) := by rw [cell_in hx]; rfl
        have c7 : w1.cell? ⟨w.heap.size, 7, none⟩ = some (.int .u16 (ssn : Int)) := by rw [cell_in hx]; rfl
        have c8 : w1.cell? ⟨w.heap.size, 8, none⟩ = some (.int .u16 (outs : Int)) := by rw [cell_in hx]; rfl
        have c9 : w1.cell? ⟨w.heap.size, 9, none⟩ = some (.int .u16 (ins : Int)) := by rw [cell_in hx]; rfl
        have c10 : w1.cell? ⟨w.heap.size, 10, none⟩ = some (.slice A1 gaps.length k1) := by rw [cell_in hx]; rfl
        have c11 : w1.cell? ⟨w.heap.size, 11, none⟩ = some (.slice A2 dups.length k2) := by rw [cell_in hx]; rfl
        have c12 : w1.cell? ⟨w.heap.size, 12, none⟩ = some (.slice A3 items.length k3) := by rw [cell_in hx]; rfl
        have c13 : w1.cell? ⟨w.heap.size, 13, none⟩ = some (.string text) := by rw [cell_in hx]; rfl
        have hlt : w.heap.size < w1.heap.size := (Array.getElem?_eq_some_iff.1 hx).1
        have HX := Lib.hid hx
        clear hx hb1 HX0
        go_wp2_with (first
          | (go_at_call 61; ((with_reducible refine (W1.out _).mono ?_); rintro e w2 ⟨rfl, rfl⟩))
          | (go_at_call 61; ((with_reducible refine (W2.out _).mono ?_); rintro e w2 ⟨rfl, rfl⟩))
          | (go_at_call 61; ((with_reducible refine (W3.out _).mono ?_); rintro e w2 ⟨rfl, rfl⟩)))
        go_ret
        exact ⟨rfl, HB.out.alloc HB.out.size _⟩
      | true =>
        cases b4 with
        | false =>
          simp only [Bool.false_and, Bool.true_and, Bool.and_false]
          go_enter Try.func47, Try.ntmps47
          go_wp2_with fail
          refine (HF.out _).mono ?_
          rintro e w1 ⟨rfl, hb1⟩
          have hx := (hb1.block _ (Array.getElem?_eq_some_iff.1 HX0.out).1).trans HX0.out
          replace HP := Lib.hid ((HP.out.below ((Below.refl _ _).alloc (Nat.le_refl _) _)).below hb1)
          replace HB := Lib.hid (HB.out.trans (hb1.mono HB.out.size))
          have c0 : w1.cell? ⟨w.heap.size, 0, none⟩ = some (.int .i64 ty) := by rw [cell_in hx]; rfl
          have c1 : w1.cell? ⟨w.heap.size, 1, none⟩ = some (.int .i64 fl) := by rw [cell_in hx]; rfl
          have c2 : w1.cell? ⟨w.heap.size, 2, none⟩ = some (.int .u32 (tsn : Int)) := by rw [cell_in hx]; rfl
          have c3 : w1.cell? ⟨w.heap.size, 3, none⟩ = some (.int .u32 (tag : Int)) := by rw [cell_in hx]; rfl
          have c4 : w1.cell? ⟨w.heap.size, 4, none⟩ = some (.int .u32 (win : Int)) := by rw [cell_in hx]; rfl
          have c5 : w1.cell? ⟨w.heap.size, 5, none⟩ = some (.int .u32 (ppid : Int)) := by rw [cell_in hx]; rfl
          have c6 : w1.cell? ⟨w.heap.size, 6, none⟩ = some (.int .u16 (st : Int)) := by rw [cell_in hx]; rfl
          have c7 : w1.cell? ⟨w.heap.size, 7, none⟩ = some (.int .u16 (ssn : Int)) := by rw [cell_in hx]; rfl
          have c8 : w1.cell? ⟨w.heap.size, 8, none⟩ = some (.int .u16 (outs : Int)) := by rw [cell_in hx]; rfl
          have c9 : w1.cell? ⟨w.heap.size, 9, none⟩ = some (.int .u16 (ins : Int)) := by rw [cell_in hx]; rfl
          have c10 : w1.cell? ⟨w.heap.size, 10, none⟩ = some (.slice A1 gaps.length k1) := by rw [cell_in hx]; rfl
          have c11 : w1.cell? ⟨w.heap.size, 11, none⟩ = some (.slice A2 dups.length k2) := by rw [cell_in hx]; rfl
          have c12 : w1.cell? ⟨w.heap.size, 12, none⟩ = some (.slice A3 items.length k3) := by rw [cell_in hx]; rfl
          have c13 : w1.cell? ⟨w.heap.size, 13, none⟩ = some (.string text) := by rw [cell_in hx]; rfl
          have hlt : w.heap.size < w1.heap.size := (Array.getElem?_eq_some_iff.1 hx).1
          have HX := Lib.hid hx
          clear hx hb1 HX0
          go_wp2_with (first
            | (go_at_call 61; ((with_reducible refine (W1.out _).mono ?_); rintro e w2 ⟨rfl, rfl⟩))
            | (go_at_call 61; ((with_reducible refine (W2.out _).mono ?_); rintro e w2 ⟨rfl, rfl⟩))
            | (go_at_call 61; ((with_reducible refine (W3.out _).mono ?_); rintro e w2 ⟨rfl, rfl⟩))
            | (go_at_call 61; ((with_reducible refine (W4.out _).mono ?_); rintro e w2 ⟨rfl, rfl⟩)))
          go_ret
          exact ⟨rfl, HB.out.alloc HB.out.size _⟩
        | true =>
          by_cases h5 : (gaps.length : Int) ≤ mr
          case neg =>
            rw [decide_eq_false h5]
            simp only [Bool.false_and, Bool.true_and, Bool.and_false]
            go_enter Try.func47, Try.ntmps47
            go_wp2_with fail
            refine (HF.out _).mono ?_
            rintro e w1 ⟨rfl, hb1⟩
            have hx := (hb1.block _ (Array.getElem?_eq_some_iff.1 HX0.out).1).trans HX0.out
            replace HP := Lib.hid ((HP.out.below ((Below.refl _ _).alloc (Nat.le_refl _) _)).below hb1)
            replace HB := Lib.hid (HB.out.trans (hb1.mono HB.out.size))
            have c0 : w1.cell? ⟨w.heap.size, 0, none⟩ = some (.int .i64 ty) := by rw [cell_in hx]; rfl
            have c1 : w1.cell? ⟨w.heap.size, 1, none⟩ = some (.int .i64 fl) := by rw [cell_in hx]; rfl
            have c2 : w1.cell? ⟨w.heap.size, 2, none⟩ = some (.int .u32 (tsn : Int)) := by rw [cell_in hx]; rfl
            have c3 : w1.cell? ⟨w.heap.size, 3, none⟩ = some (.int .u32 (tag : Int)) := by rw [cell_in hx]; rfl
            have c4 : w1.cell? ⟨w.heap.size, 4, none⟩ = some (.int .u32 (win : Int)) := by rw [cell_in hx]; rfl
            have c5 : w1.cell? ⟨w.heap.size, 5, none⟩ = some (.int .u32 (ppid : Int)) := by rw [cell_in hx]; rfl
            have c6 : w1.cell? ⟨w.heap.size, 6, none⟩ = some (.int .u16 (st : Int)) := by rw [cell_in hx]; rfl
            have c7 : w1.cell? ⟨w.heap.size, 7, none⟩ = some (.int .u16 (ssn : Int)) := by rw [cell_in hx]; rfl
            have c8 : w1.cell? ⟨w.heap.size, 8, none⟩ = some (.int .u16 (outs : Int)) := by rw [cell_in hx]; rfl
            have c9 : w1.cell? ⟨w.heap.size, 9, none⟩ = some (.int .u16 (ins : Int)) := by rw [cell_in hx]; rfl
            have c10 : w1.cell? ⟨w.heap.size, 10, none⟩ = some (.slice A1 gaps.length k1) := by rw [cell_in hx]; rfl
            have c11 : w1.cell? ⟨w.heap.size, 11, none⟩ = some (.slice A2 dups.length k2) := by rw [cell_in hx]; rfl
            have c12 : w1.cell? ⟨w.heap.size, 12, none⟩ = some (.slice A3 items.length k3) := by rw [cell_in hx]; rfl
            have c13 : w1.cell? ⟨w.heap.size, 13, none⟩ = some (.string text) := by rw [cell_in hx]; rfl
            have hlt : w.heap.size < w1.heap.size := (Array.getElem?_eq_some_iff.1 hx).1
            have HX := Lib.hid hx
            clear hx hb1 HX0
            go_wp2_with (first
              | (go_at_call 61; ((with_reducible refine (W1.out _).mono ?_); rintro e w2 ⟨rfl, rfl⟩))
              | (go_at_call 61; ((with_reducible refine (W2.out _).mono ?_); rintro e w2 ⟨rfl, rfl⟩))
              | (go_at_call 61; ((with_reducible refine (W3.out _).mono ?_); rintro e w2 ⟨rfl, rfl⟩))
              | (go_at_call 61; ((with_reducible refine (W4.out _).mono ?_); rintro e w2 ⟨rfl, rfl⟩)))
            go_ret
            exact ⟨rfl, HB.out.alloc HB.out.size _⟩
          rw [decide_eq_true h5]
          by_cases h6 : (dups.length : Int) ≤ mr
          case neg =>
            rw [decide_eq_false h6]
            simp only [Bool.false_and, Bool.true_and, Bool.and_false]
            go_enter Try.func47, Try.ntmps47
            go_wp2_with fail
            refine (HF.out _).mono ?_
            rintro e w1 ⟨rfl, hb1⟩
            have hx := (hb1.block _ (Array.getElem?_eq_some_iff.1 HX0.out).1).trans HX0.out
            replace HP := Lib.hid ((HP.out.below ((Below.refl _ _).alloc (Nat.le_refl _) _)).below hb1)
            replace HB := Lib.hid (HB.out.trans (hb1.mono HB.out.size))
            have c0 : w1.cell? ⟨w.heap.size, 0, none⟩ = some (.int .i64 ty) := by rw [cell_in hx]; rfl
            have c1 : w1.cell? ⟨w.heap.size, 1, none⟩ = some (.int .i64 fl) := by rw [cell_in hx]; rfl
            have c2 : w1.cell? ⟨w.heap.size, 2, none⟩ = some (.int .u32 (tsn : Int)) := by rw [cell_in hx]; rfl
            have c3 : w1.cell? ⟨w.heap.size, 3, none⟩ = some (.int .u32 (tag : Int)) := by rw [cell_in hx]; rfl
            have c4 : w1.cell? ⟨w.heap.size, 4, none⟩ = some (.int .u32 (win : Int)) := by rw [cell_in hx]; rfl
            have c5 : w1.cell? ⟨w.heap.size, 5, none⟩ = some (.int .u32 (ppid : Int)) := by rw [cell_in hx]; rfl
            have c6 : w1.cell? ⟨w.heap.size, 6, none⟩ = some (.int .u16 (st : Int)) := by rw [cell_in hx]; rfl
            have c7 : w1.cell? ⟨w.heap.size, 7, none⟩ = some (.int .u16 (ssn : Int)) := by rw [cell_in hx]; rfl
            have c8 : w1.cell? ⟨w.heap.size, 8, none⟩ = some (.int .u16 (outs : Int)) := by rw [cell_in hx]; rfl
            have c9 : w1.cell? ⟨w.heap.size, 9, none⟩ = some (.int .u16 (ins : Int)) := by rw [cell_in hx]; rfl
            have c10 : w1.cell? ⟨w.heap.size, 10, none⟩ = some (.slice A1 gaps.length k1) := by rw [cell_in hx]; rfl
            have c11 : w1.cell? ⟨w.heap.size, 11, none⟩ = some (.slice A2 dups.length k2) := by rw [cell_in hx]; rfl
            have c12 : w1.cell? ⟨w.heap.size, 12, none⟩ = some (.slice A3 items.length k3) := by rw [cell_in hx]; rfl
            have c13 : w1.cell? ⟨w.heap.size, 13, none⟩ = some (.string text) := by rw [cell_in hx]; rfl
            have hlt : w.heap.size < w1.heap.size := (Array.getElem?_eq_some_iff.1 hx).1
            have HX := Lib.hid hx
            clear hx hb1 HX0
            go_wp2_with (first
              | (go_at_call 61; ((with_reducible refine (W1.out _).mono ?_); rintro e w2 ⟨rfl, rfl⟩))
              | (go_at_call 61; ((with_reducible refine (W2.out _).mono ?_); rintro e w2 ⟨rfl, rfl⟩))
              | (go_at_call 61; ((with_reducible refine (W3.out _).mono ?_); rintro e w2 ⟨rfl, rfl⟩))
              | (go_at_call 61; ((with_reducible refine (W4.out _).mono ?_); rintro e w2 ⟨rfl, rfl⟩)))
            go_ret
            exact ⟨rfl, HB.out.alloc HB.out.size _⟩
          rw [decide_eq_true h6]
          cases b7 with
          | false =>
            simp only [Bool.false_and, Bool.true_and, Bool.and_false]
            go_enter Try.func47, Try.ntmps47
            go_wp2_with fail
            refine (HF.out _).mono ?_
            rintro e w1 ⟨rfl, hb1⟩
            have hx := (hb1.block _ (Array.getElem?_eq_some_iff.1 HX0.out).1).trans HX0.out
            replace HP := Lib.hid ((HP.out.below ((Below.refl _ _).alloc (Nat.le_refl _) _)).below hb1)
            replace HB := Lib.hid (HB.out.trans (hb1.mono HB.out.size))
            have c0 : w1.cell? ⟨w.heap.size, 0, none⟩ = some (.int .i64 ty) := by rw [cell_in hx]; rfl
            have c1 : w1.cell? ⟨w.heap.size, 1, none⟩ = some (.int .i64 fl) := by rw [cell_in hx]; rfl
            have c2 : w1.cell? ⟨w.heap.size, 2, none⟩ = some (.int .u32 (tsn : Int)) := by rw [cell_in hx]; rfl
            have c3 : w1.cell? ⟨w.heap.size, 3, none⟩ = some (.int .u32 (tag : Int)) := by rw [cell_in hx]; rfl
            have c4 : w1.cell? ⟨w.heap.size, 4, none⟩ = some (.int .u32 (win : Int)) := by rw [cell_in hx]; rfl
            have c5 : w1.cell? ⟨w.heap.size, 5, none⟩ = some (.int .u32 (ppid : Int)) := by rw [cell_in hx]; rfl
            have c6 : w1.cell? ⟨w.heap.size, 6, none⟩ = some (.int .u16 (st : Int)) := by rw [cell_in hx]; rfl
            have c7 : w1.cell? ⟨w.heap.size, 7, none⟩ = some (.int .u16 (ssn : Int)) := by rw [cell_in hx]; rfl
            have c8 : w1.cell? ⟨w.heap.size, 8, none⟩ = some (.int .u16 (outs : Int)) := by rw [cell_in hx]; rfl
            have c9 : w1.cell? ⟨w.heap.size, 9, none⟩ = some (.int .u16 (ins : Int)) := by rw [cell_in hx]; rfl
            have c10 : w1.cell? ⟨w.heap.size, 10, none⟩ = some (.slice A1 gaps.length k1) := by rw [cell_in hx]; rfl
            have c11 : w1.cell? ⟨w.heap.size, 11, none⟩ = some (.slice A2 dups.length k2) := by rw [cell_in hx]; rfl
            have c12 : w1.cell? ⟨w.heap.size, 12, none⟩ = some (.slice A3 items.length k3) := by rw [cell_in hx]; rfl
            have c13 : w1.cell? ⟨w.heap.size, 13, none⟩ = some (.string text) := by rw [cell_in hx]; rfl
            have hlt : w.heap.size < w1.heap.size := (Array.getElem?_eq_some_iff.1 hx).1
            have HX := Lib.hid hx
            clear hx hb1 HX0
            go_wp2_with (first
              | (go_at_call 61; ((with_reducible refine (W1.out _).mono ?_); rintro e w2 ⟨rfl, rfl⟩))
              | (go_at_call 61; ((with_reducible refine (W2.out _).mono ?_); rintro e w2 ⟨rfl, rfl⟩))
              | (go_at_call 61; ((with_reducible refine (W3.out _).mono ?_); rintro e w2 ⟨rfl, rfl⟩))
              | (go_at_call 61; ((with_reducible refine (W4.out _).mono ?_); rintro e w2 ⟨rfl, rfl⟩)))
            refine (HO.out _).mono ?_
            rintro e w3 ⟨rfl, hb3⟩
            have hsz : w.heap.size < w3.heap.size := by have := hb3.size; rw [World.size_alloc] at this; omega
            have hx := (hb3.block _ (by rw [World.size_alloc]; omega)).trans ((Below.heap_alloc w1 _ _ hlt).trans HX.out)
            replace HP := Lib.hid ((HP.out.below ((Below.refl _ _).alloc (Nat.le_refl _) _)).below hb3)
            replace HB := Lib.hid ((HB.out.alloc HB.out.size _).trans (hb3.mono (by rw [World.size_alloc]; omega)))
            clear c0 c1 c2 c3 c4 c5 c6 c7 c8 c9 c10 c11 c12 c13 hb3 HX hlt
            have c0 : w3.cell? ⟨w.heap.size, 0, none⟩ = some (.int .i64 ty) := by rw [cell_in hx]; rfl
            have c1 : w3.cell? ⟨w.heap.size, 1, none⟩ = some (.int .i64 fl) := by rw [cell_in hx]; rfl
            have c2 : w3.cell? ⟨w.heap.size, 2, none⟩ = some (.int .u32 (tsn : Int)) := by rw [cell_in hx]; rfl
            have c3 : w3.cell? ⟨w.heap.size, 3, none⟩ = some (.int .u32 (tag : Int)) := by rw [cell_in hx]; rfl
            have c4 : w3.cell? ⟨w.heap.size, 4, none⟩ = some (.int .u32 (win : Int)) := by rw [cell_in hx]; rfl
            have c5 : w3.cell? ⟨w.heap.size, 5, none⟩ = some (.int .u32 (ppid : Int)) := by rw [cell_in hx]; rfl
            have c6 : w3.cell? ⟨w.heap.size, 6, none⟩ = some (.int .u16 (st : Int)) := by rw [cell_in hx]; rfl
            have c7 : w3.cell? ⟨w.heap.size, 7, none⟩ = some (.int .u16 (ssn : Int)) := by rw [cell_in hx]; rfl
            have c8 : w3.cell? ⟨w.heap.size, 8, none⟩ = some (.int .u16 (outs : Int)) := by rw [cell_in hx]; rfl
            have c9 : w3.cell? ⟨w.heap.size, 9, none⟩ = some (.int .u16 (ins : Int)) := by rw [cell_in hx]; rfl
            have c10 : w3.cell? ⟨w.heap.size, 10, none⟩ = some (.slice A1 gaps.length k1) := by rw [cell_in hx]; rfl
            have c11 : w3.cell? ⟨w.heap.size, 11, none⟩ = some (.slice A2 dups.length k2) := by rw [cell_in hx]; rfl
            have c12 : w3.cell? ⟨w.heap.size, 12, none⟩ = some (.slice A3 items.length k3) := by rw [cell_in hx]; rfl
            have c13 : w3.cell? ⟨w.heap.size, 13, none⟩ = some (.string text) := by rw [cell_in hx]; rfl
            clear hx
            go_wp2_with fail
            go_ret
            exact ⟨rfl, HB.out⟩
          | true =>
            simp only [Bool.true_and]
            have HNE := Lib.hid (fun hk => HL.out (HI.out rfl hk))
            go_enter Try.func47, Try.ntmps47
            go_wp2_with fail
            refine (HF.out _).mono ?_
            rintro e w1 ⟨rfl, hb1⟩
            have hx := (hb1.block _ (Array.getElem?_eq_some_iff.1 HX0.out).1).trans HX0.out
            replace HP := Lib.hid ((HP.out.below ((Below.refl _ _).alloc (Nat.le_refl _) _)).below hb1)
            replace HB := Lib.hid (HB.out.trans (hb1.mono HB.out.size))
            have c0 : w1.cell? ⟨w.heap.size, 0, none⟩ = some (.int .i64 ty) := by rw [cell_in hx]; rfl
            have c1 : w1.cell? ⟨w.heap.size, 1, none⟩ = some (.int .i64 fl) := by rw [cell_in hx]; rfl
            have c2 : w1.cell? ⟨w.heap.size, 2, none⟩ = some (.int .u32 (tsn : Int)) := by rw [cell_in hx]; rfl
            have c3 : w1.cell? ⟨w.heap.size, 3, none⟩ = some (.int .u32 (tag : Int)) := by rw [cell_in hx]; rfl
            have c4 : w1.cell? ⟨w.heap.size, 4, none⟩ = some (.int .u32 (win : Int)) := by rw [cell_in hx]; rfl
            have c5 : w1.cell? ⟨w.heap.size, 5, none⟩ = some (.int .u32 (ppid : Int)) := by rw [cell_in hx]; rfl
            have c6 : w1.cell? ⟨w.heap.size, 6, none⟩ = some (.int .u16 (st : Int)) := by rw [cell_in hx]; rfl
            have c7 : w1.cell? ⟨w.heap.size, 7, none⟩ = some (.int .u16 (ssn : Int)) := by rw [cell_in hx]; rfl
            have c8 : w1.cell? ⟨w.heap.size, 8, none⟩ = some (.int .u16 (outs : Int)) := by rw [cell_in hx]; rfl
            have c9 : w1.cell? ⟨w.heap.size, 9, none⟩ = some (.int .u16 (ins : Int)) := by rw [cell_in hx]; rfl
            have c10 : w1.cell? ⟨w.heap.size, 10, none⟩ = some (.slice A1 gaps.length k1) := by rw [cell_in hx]; rfl
            have c11 : w1.cell? ⟨w.heap.size, 11, none⟩ = some (.slice A2 dups.length k2) := by rw [cell_in hx]; rfl
            have c12 : w1.cell? ⟨w.heap.size, 12, none⟩ = some (.slice A3 items.length k3) := by rw [cell_in hx]; rfl
            have c13 : w1.cell? ⟨w.heap.size, 13, none⟩ = some (.string text) := by rw [cell_in hx]; rfl
            have hlt : w.heap.size < w1.heap.size := (Array.getElem?_eq_some_iff.1 hx).1
            have HX := Lib.hid hx
            clear hx hb1 HX0
            go_wp2_with (first
              | (go_at_call 61; ((with_reducible refine (W1.out _).mono ?_); rintro e w2 ⟨rfl, rfl⟩))
              | (go_at_call 61; ((with_reducible refine (W2.out _).mono ?_); rintro e w2 ⟨rfl, rfl⟩))
              | (go_at_call 61; ((with_reducible refine (W3.out _).mono ?_); rintro e w2 ⟨rfl, rfl⟩))
              | (go_at_call 61; ((with_reducible refine (W4.out _).mono ?_); rintro e w2 ⟨rfl, rfl⟩)))
            refine (HO.out _).mono ?_
            rintro e w3 ⟨rfl, hb3⟩
            have hsz : w.heap.size < w3.heap.size := by have := hb3.size; rw [World.size_alloc] at this; omega
            have hx := (hb3.block _ (by rw [World.size_alloc]; omega)).trans ((Below.heap_alloc w1 _ _ hlt).trans HX.out)
            replace HP := Lib.hid ((HP.out.below ((Below.refl _ _).alloc (Nat.le_refl _) _)).below hb3)
            replace HB := Lib.hid ((HB.out.alloc HB.out.size _).trans (hb3.mono (by rw [World.size_alloc]; omega)))
            clear c0 c1 c2 c3 c4 c5 c6 c7 c8 c9 c10 c11 c12 c13 hb3 HX hlt
            have c0 : w3.cell? ⟨w.heap.size, 0, none⟩ = some (.int .i64 ty) := by rw [cell_in hx]; rfl
            have c1 : w3.cell? ⟨w.heap.size, 1, none⟩ = some (.int .i64 fl) := by rw [cell_in hx]; rfl
            have c2 : w3.cell? ⟨w.heap.size, 2, none⟩ = some (.int .u32 (tsn : Int)) := by rw [cell_in hx]; rfl
            have c3 : w3.cell? ⟨w.heap.size, 3, none⟩ = some (.int .u32 (tag : Int)) := by rw [cell_in hx]; rfl
            have c4 : w3.cell? ⟨w.heap.size, 4, none⟩ = some (.int .u32 (win : Int)) := by rw [cell_in hx]; rfl
            have c5 : w3.cell? ⟨w.heap.size, 5, none⟩ = some (.int .u32 (ppid : Int)) := by rw [cell_in hx]; rfl
            have c6 : w3.cell? ⟨w.heap.size, 6, none⟩ = some (.int .u16 (st : Int)) := by rw [cell_in hx]; rfl
            have c7 : w3.cell? ⟨w.heap.size, 7, none⟩ = some (.int .u16 (ssn : Int)) := by rw [cell_in hx]; rfl
            have c8 : w3.cell? ⟨w.heap.size, 8, none⟩ = some (.int .u16 (outs : Int)) := by rw [cell_in hx]; rfl
            have c9 : w3.cell? ⟨w.heap.size, 9, none⟩ = some (.int .u16 (ins : Int)) := by rw [cell_in hx]; rfl
            have c10 : w3.cell? ⟨w.heap.size, 10, none⟩ = some (.slice A1 gaps.length k1) := by rw [cell_in hx]; rfl
            have c11 : w3.cell? ⟨w.heap.size, 11, none⟩ = some (.slice A2 dups.length k2) := by rw [cell_in hx]; rfl
            have c12 : w3.cell? ⟨w.heap.size, 12, none⟩ = some (.slice A3 items.length k3) := by rw [cell_in hx]; rfl
            have c13 : w3.cell? ⟨w.heap.size, 13, none⟩ = some (.string text) := by rw [cell_in hx]; rfl
            clear hx
            go_wp2_with fail
            refine (HM.out HNE.out _ HP.out).mono ?_
            rintro e w4 ⟨rfl, hb4⟩
            replace HB := Lib.hid (HB.out.trans (hb4.mono HB.out.size))
            clear hb4 c0 c1 c2 c3 c4 c5 c6 c7 c8 c9 c10 c11 c12 c13
            go_wp2_with fail
            go_ret
            exact ⟨rfl, HB.out⟩
end Go.Proofs.Ytfdnphkdpmlbnaa
