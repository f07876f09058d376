/-
  Statement ChunkAgain (chapter 7): what is parsed is right, and built and parsed again the same.
-/
import Derived.Test.YtjdnlolhcjalmaaLift
import Derived.Test.YtjdnlolhcjalmaaCkShown
import Derived.Test.YtjdnlolhcjalmaaCkLaw
import Derived.BigQuiet
namespace Go.Proofs.Ytjdnlolhcjalmaa.chunkAgain
open Go.ChangeShapes Go.WideShapes Go.ChangeAt Go.RowKit
set_option linter.unusedVariables false

set_option linter.unusedSimpArgs false
set_option maxRecDepth 100000
set_option maxHeartbeats 8000000 in
theorem walk (s : ByteArray) (w : World) : Calls Try.prog 5 #[.string s] w fun e w' => e = .returned (.bool true) ∧ Below w.heap.size w w' := by
  have HCS := Lib.hid ckSize
  by_cases hs : 3000 < s.size
  case pos =>
    have hs' : (3000 : Int) < (s.size : Int) := by omega
    clear hs
    go_enter Try.func5, Try.ntmps5
    go_wp2_with fail
    refine (shown_any _).mono ?_
    rintro _ w1 ⟨rfl, hb1⟩
    have HB := Lib.hid hb1
    clear hb1
    go_wp2_with fail
    go_ret
    exact ⟨rfl, HB.out⟩
  have hs' : (s.size : Int) ≤ 3000 := by omega
  by_cases he : (parseC s).2.2 = 0
  case neg =>
    have H1 := Lib.hid (fun W => read_bad (s := s) (by omega) he W)
    have hn : (((parseC s).2.2 : Nat) : Int) ≠ 0 := by omega
    have HONE := Lib.hid none_cells
    generalize (parseC s).2.2 = e0 at *
    clear hs he
    go_enter Try.func5, Try.ntmps5
    go_wp2_with fail
    refine (shown_any _).mono ?_
    rintro _ w1 ⟨rfl, hb1⟩
    have HB := Lib.hid hb1
    clear hb1
    go_wp2_with fail
    refine (H1.out _).mono ?_
    rintro _ w2 ⟨A1, k1, A2, k2, A3, k3, rfl, hp, hb⟩
    have HP := Lib.hid hp
    replace HB := Lib.hid (HB.out.trans (hb.mono HB.out.size))
    clear hp hb
    have HX := Lib.hid (heap_alloc_new w2 (.cells #[.int .i64 0, .int .i64 0, .int .u32 0, .int .u32 0, .int .u32 0, .int .u32 0, .int .u16 0, .int .u16 0, .int .u16 0, .int .u16 0, .slice A1 0 k1, .slice A2 0 k2, .slice A3 0 k3, .string ⟨#[]⟩] 28))
    replace HP := Lib.hid (HP.out.below ((Below.refl _ w2).alloc (Nat.le_refl _) (.cells #[.int .i64 0, .int .i64 0, .int .u32 0, .int .u32 0, .int .u32 0, .int .u32 0, .int .u16 0, .int .u16 0, .int .u16 0, .int .u16 0, .slice A1 0 k1, .slice A2 0 k2, .slice A3 0 k3, .string ⟨#[]⟩] 28)))
    replace HB := Lib.hid (HB.out.alloc HB.out.size (.cells #[.int .i64 0, .int .i64 0, .int .u32 0, .int .u32 0, .int .u32 0, .int .u32 0, .int .u16 0, .int .u16 0, .int .u16 0, .int .u16 0, .slice A1 0 k1, .slice A2 0 k2, .slice A3 0 k3, .string ⟨#[]⟩] 28))
    go_wp2_with fail
    refine (same_none _ _ _ _ _ _ _ HP.out).mono ?_
    rintro _ w3 ⟨rfl, hb⟩
    replace HB := Lib.hid (HB.out.trans (hb.mono HB.out.size))
    clear hb
    go_wp2_with fail
    go_ret
    exact ⟨rfl, HB.out⟩
  obtain ⟨hw, hb0, q1, q2, q3, q4, q5, q6⟩ := chunk_again he
  have H1 := Lib.hid (fun W => ckparse_any s (by omega) W)
  have H5 := Lib.hid (fun W => read_bad (s := s.extract 0 (lenC s - 1)) (by rw [ByteArray.size_extract]; omega) (by rw [short_err q2 q1]; decide) W)
  rw [short_err q2 q1] at H5
  rw [he] at H1
  have z2 : 2 < s.size := by omega
  have z3 : 3 < s.size := by omega
  have e2 := at_byte s 2 z2
  have e3 := at_byte s 3 z3
  have hlen : byteAt s.data.toList 2 * 256 + byteAt s.data.toList 3 = lenC s := rfl
  have hx := byteAt_lt s.data.toList 2
  have hy := byteAt_lt s.data.toList 3
  obtain ⟨r1, r2, r3⟩ := built_size hb0
  generalize byteAt s.data.toList 2 = x at *
  generalize byteAt s.data.toList 3 = y at *
  generalize (parseC s).2.1 = m at *
  generalize (parseC s).1 = c at *
  have H2 := Lib.hid (fun g d it W hp => built_any hw hb0 g d it W hp)
  have H3 := Lib.hid (fun W => reread_one hw hb0 W)
  have H6 := Lib.hid (fun g d it W hp => right_any hw hb0 g d it W hp)
  have H7 := Lib.hid (fun g d it g' d' it' W hp hp' => same_self hb0 g d it g' d' it' W hp hp')
  generalize (buildC c).1 = b at *
  generalize lenC s = n at *
  have z2' : (2 : Int) < (s.size : Int) := by omega
  have z3' : (3 : Int) < (s.size : Int) := by omega
  have v2 : IntKind.i64.wrap (x : Int) = (x : Int) := by rw [IntKind.wrap_i64]; omega
  have v3 : IntKind.i64.wrap (y : Int) = (y : Int) := by rw [IntKind.wrap_i64]; omega
  have v4 : IntKind.i64.wrap ((x : Int) * 256) = ((x * 256 : Nat) : Int) := by rw [IntKind.wrap_i64]; omega
  have v5 : IntKind.i64.wrap (((x * 256 : Nat) : Int) + (y : Int)) = (n : Int) := by rw [IntKind.wrap_i64]; omega
  have v6 : IntKind.i64.wrap ((n : Int) - 1) = ((n - 1 : Nat) : Int) := by rw [IntKind.wrap_i64]; omega
  have v7 : IntKind.i64.wrap ((n : Int) + 4) = ((n + 4 : Nat) : Int) := by rw [IntKind.wrap_i64]; omega
  have z4 : (0 : Int) ≤ ((n - 1 : Nat) : Int) := by omega
  have z5 : ((n - 1 : Nat) : Int) ≤ (s.size : Int) := by omega
  have t1 : decide (n ≤ m) = true := decide_eq_true (by omega)
  have t2 : decide (m ≤ s.size) = true := decide_eq_true (by omega)
  have t3 : decide (m < n + 4) = true := decide_eq_true (by omega)
  have t4 : decide ((n : Int) ≤ (m : Int)) = true := decide_eq_true (by omega)
  have t5 : decide ((m : Int) ≤ (s.size : Int)) = true := decide_eq_true (by omega)
  have t6 : decide ((m : Int) < ((n + 4 : Nat) : Int)) = true := decide_eq_true (by omega)
  generalize n - 1 = n1 at *
  generalize n + 4 = n4 at *
  generalize x * 256 = x2 at *
  clear hs he hb0 q1 q2 q3 q4 q5 q6 r1 r2 r3 hlen hx hy hw
  go_enter Try.func5, Try.ntmps5
  go_wp2_with fail
  refine (shown_any _).mono ?_
  rintro _ w1 ⟨rfl, hb1⟩
  have HB := Lib.hid hb1
  clear hb1
  go_wp2_with fail
  refine (H1.out _).mono ?_
  rintro _ w2 ⟨g, d, it, rfl, hp, hb⟩
  have hone := hp.one
  obtain ⟨⟨A1, k1, rfl⟩, ⟨A2, k2, rfl⟩, ⟨A3, k3, rfl⟩⟩ := hp.slices
  have HP := Lib.hid hp
  have HONE := Lib.hid hone
  replace HB := Lib.hid (HB.out.trans (hb.mono HB.out.size))
  obtain ⟨ty, fl, tsn, tag, win, ppid, st, ssn, outs, ins, gaps, dups, items, text⟩ := c
  clear hp hb hone
  dsimp only [cellsC] at *
  have HX := Lib.hid (heap_alloc_new w2 (.cells #[.int .i64 ty, .int .i64 fl, .int .u32 (tsn : Int), .int .u32 (tag : Int), .int .u32 (win : Int), .int .u32 (ppid : Int), .int .u16 (st : Int), .int .u16 (ssn : Int), .int .u16 (outs : Int), .int .u16 (ins : Int), .slice A1 gaps.length k1, .slice A2 dups.length k2, .slice A3 items.length k3, .string text] 28))
  replace HP := Lib.hid (HP.out.below ((Below.refl _ w2).alloc (Nat.le_refl _) (.cells #[.int .i64 ty, .int .i64 fl, .int .u32 (tsn : Int), .int .u32 (tag : Int), .int .u32 (win : Int), .int .u32 (ppid : Int), .int .u16 (st : Int), .int .u16 (ssn : Int), .int .u16 (outs : Int), .int .u16 (ins : Int), .slice A1 gaps.length k1, .slice A2 dups.length k2, .slice A3 items.length k3, .string text] 28)))
  replace HB := Lib.hid (HB.out.alloc HB.out.size (.cells #[.int .i64 ty, .int .i64 fl, .int .u32 (tsn : Int), .int .u32 (tag : Int), .int .u32 (win : Int), .int .u32 (ppid : Int), .int .u16 (st : Int), .int .u16 (ssn : Int), .int .u16 (outs : Int), .int .u16 (ins : Int), .slice A1 gaps.length k1, .slice A2 dups.length k2, .slice A3 items.length k3, .string text] 28))
  go_wp2_with fail
  refine (H2.out _ _ _ _ HP.out).mono ?_
  rintro _ w3 ⟨rfl, hb⟩
  replace HX := Lib.hid ((hb.block _ (Array.getElem?_eq_some_iff.1 HX.out).1).trans HX.out)
  replace HB := Lib.hid (HB.out.trans (hb.mono HB.out.size))
  replace HP := Lib.hid (HP.out.below hb)
  clear hb
  go_wp2_with fail
  refine (H3.out _).mono ?_
  rintro _ w4 ⟨g, d, it, rfl, hp, hb⟩
  have hone := hp.one
  obtain ⟨⟨B1, l1, rfl⟩, ⟨B2, l2, rfl⟩, ⟨B3, l3, rfl⟩⟩ := hp.slices
  have HPb := Lib.hid hp
  have HONEb := Lib.hid hone
  replace HX := Lib.hid ((hb.block _ (Array.getElem?_eq_some_iff.1 HX.out).1).trans HX.out)
  replace HB := Lib.hid (HB.out.trans (hb.mono HB.out.size))
  replace HP := Lib.hid (HP.out.below hb)
  clear hp hb hone
  dsimp only [cellsC] at *
  have HXb := Lib.hid (heap_alloc_new w4 (.cells #[.int .i64 ty, .int .i64 fl, .int .u32 (tsn : Int), .int .u32 (tag : Int), .int .u32 (win : Int), .int .u32 (ppid : Int), .int .u16 (st : Int), .int .u16 (ssn : Int), .int .u16 (outs : Int), .int .u16 (ins : Int), .slice B1 gaps.length l1, .slice B2 dups.length l2, .slice B3 items.length l3, .string text] 28))
  replace HX := Lib.hid ((Below.heap_alloc w4 (.cells #[.int .i64 ty, .int .i64 fl, .int .u32 (tsn : Int), .int .u32 (tag : Int), .int .u32 (win : Int), .int .u32 (ppid : Int), .int .u16 (st : Int), .int .u16 (ssn : Int), .int .u16 (outs : Int), .int .u16 (ins : Int), .slice B1 gaps.length l1, .slice B2 dups.length l2, .slice B3 items.length l3, .string text] 28) _ (Array.getElem?_eq_some_iff.1 HX.out).1).trans HX.out)
  replace HP := Lib.hid (HP.out.below ((Below.refl _ w4).alloc (Nat.le_refl _) (.cells #[.int .i64 ty, .int .i64 fl, .int .u32 (tsn : Int), .int .u32 (tag : Int), .int .u32 (win : Int), .int .u32 (ppid : Int), .int .u16 (st : Int), .int .u16 (ssn : Int), .int .u16 (outs : Int), .int .u16 (ins : Int), .slice B1 gaps.length l1, .slice B2 dups.length l2, .slice B3 items.length l3, .string text] 28)))
  replace HPb := Lib.hid (HPb.out.below ((Below.refl _ w4).alloc (Nat.le_refl _) (.cells #[.int .i64 ty, .int .i64 fl, .int .u32 (tsn : Int), .int .u32 (tag : Int), .int .u32 (win : Int), .int .u32 (ppid : Int), .int .u16 (st : Int), .int .u16 (ssn : Int), .int .u16 (outs : Int), .int .u16 (ins : Int), .slice B1 gaps.length l1, .slice B2 dups.length l2, .slice B3 items.length l3, .string text] 28)))
  replace HB := Lib.hid (HB.out.alloc HB.out.size (.cells #[.int .i64 ty, .int .i64 fl, .int .u32 (tsn : Int), .int .u32 (tag : Int), .int .u32 (win : Int), .int .u32 (ppid : Int), .int .u16 (st : Int), .int .u16 (ssn : Int), .int .u16 (outs : Int), .int .u16 (ins : Int), .slice B1 gaps.length l1, .slice B2 dups.length l2, .slice B3 items.length l3, .string text] 28))
  go_wp2_with fail
  refine wp_region_noPanic ?_
  refine wp_region_held_drew (S := (fun _ => True)) (by kernel_rfl) ?_ (fun hHeld => ?_)
  · trivial
  refine wpAnyH_take (i := 0) (v := ?_) (by simp only [List.getElem?_toArray, List.getElem?_cons_zero]; rfl) (by kernel_rfl) (by kernel_rfl) (by kernel_rfl) (fun _ _ _ h => h) (Or.inl ⟨by rfl, ?_⟩) (by assumption) ?_
  rotate_left 1
  · (intro w' hSw; (try dsimp only at hSw); go_simp; try with_reducible rfl)
  try simp only [Act.put, List.setIfInBounds_toArray, List.set_cons_zero, List.set_cons_succ]
  refine wpAnyH_take (i := 1) (v := ?_) (by simp only [List.getElem?_toArray, List.getElem?_cons_succ, List.getElem?_cons_zero]; rfl) (by kernel_rfl) (by kernel_rfl) (by kernel_rfl) (fun _ _ _ h => h) (Or.inl ⟨by rfl, ?_⟩) (by assumption) ?_
  rotate_left 1
  · (intro w' hSw; (try dsimp only at hSw); go_simp; try with_reducible rfl)
  try simp only [Act.put, List.setIfInBounds_toArray, List.set_cons_zero, List.set_cons_succ]
  refine wpAnyH_take (i := 2) (v := ?_) (by simp only [List.getElem?_toArray, List.getElem?_cons_succ, List.getElem?_cons_zero]; rfl) (by kernel_rfl) (by kernel_rfl) (by kernel_rfl) (fun _ _ _ h => h) (Or.inl ⟨by rfl, ?_⟩) (by assumption) ?_
  rotate_left 1
  · (intro w' hSw; (try dsimp only at hSw); go_simp; try with_reducible rfl)
  try simp only [Act.put, List.setIfInBounds_toArray, List.set_cons_zero, List.set_cons_succ]
  refine wpAnyH_take (i := 3) (v := ?_) (by simp only [List.getElem?_toArray, List.getElem?_cons_succ, List.getElem?_cons_zero]; rfl) (by kernel_rfl) (by kernel_rfl) (by kernel_rfl) (fun _ _ _ h => h) (Or.inl ⟨by rfl, ?_⟩) (by assumption) ?_
  rotate_left 1
  · (intro w' hSw; (try dsimp only at hSw); go_simp; try with_reducible rfl)
  try simp only [Act.put, List.setIfInBounds_toArray, List.set_cons_zero, List.set_cons_succ]
  refine wpAnyH_take (i := 4) (v := ?_) (by simp only [List.getElem?_toArray, List.getElem?_cons_succ, List.getElem?_cons_zero]; rfl) (by kernel_rfl) (by kernel_rfl) (by kernel_rfl) (fun _ _ _ h => h) (Or.inl ⟨by rfl, ?_⟩) (by assumption) ?_
  rotate_left 1
  · (intro w' hSw; (try dsimp only at hSw); go_simp; try with_reducible rfl)
  try simp only [Act.put, List.setIfInBounds_toArray, List.set_cons_zero, List.set_cons_succ]
  refine wpAnyH_take (i := 5) (v := ?_) (by simp only [List.getElem?_toArray, List.getElem?_cons_succ, List.getElem?_cons_zero]; rfl) (by kernel_rfl) (by kernel_rfl) (by kernel_rfl) (fun _ _ _ h => h) (Or.inl ⟨by rfl, ?_⟩) (by assumption) ?_
  rotate_left 1
  · (intro w' hSw; (try dsimp only at hSw); go_simp; try with_reducible rfl)
  try simp only [Act.put, List.setIfInBounds_toArray, List.set_cons_zero, List.set_cons_succ]
  refine wpAnyH_take (i := 6) (v := ?_) (by simp only [List.getElem?_toArray, List.getElem?_cons_succ, List.getElem?_cons_zero]; rfl) (by kernel_rfl) (by kernel_rfl) (by kernel_rfl) (fun _ _ _ h => h) (Or.inl ⟨by rfl, ?_⟩) (by assumption) ?_
  rotate_left 1
  · (intro w' hSw; (try dsimp only at hSw); go_simp; try with_reducible rfl)
  try simp only [Act.put, List.setIfInBounds_toArray, List.set_cons_zero, List.set_cons_succ]
  refine wpAnyH_take (i := 7) (v := ?_) (by simp only [List.getElem?_toArray, List.getElem?_cons_succ, List.getElem?_cons_zero]; rfl) (by kernel_rfl) (by kernel_rfl) (by kernel_rfl) (fun _ _ _ h => h) (Or.inl ⟨by rfl, ?_⟩) (by assumption) ?_
  rotate_left 1
  · (intro w' hSw; (try dsimp only at hSw); go_simp; try with_reducible rfl)
  try simp only [Act.put, List.setIfInBounds_toArray, List.set_cons_zero, List.set_cons_succ]
  refine wpAnyH_take (i := 8) (v := ?_) (by simp only [List.getElem?_toArray, List.getElem?_cons_succ, List.getElem?_cons_zero]; rfl) (by kernel_rfl) (by kernel_rfl) (by kernel_rfl) (fun _ _ _ h => h) (Or.inl ⟨by rfl, ?_⟩) (by assumption) ?_
  rotate_left 1
  · (intro w' hSw; (try dsimp only at hSw); go_simp; try with_reducible rfl)
  try simp only [Act.put, List.setIfInBounds_toArray, List.set_cons_zero, List.set_cons_succ]
  refine wpAnyH_done (by kernel_rfl) ?_ _
  refine NoPanic.normal ?_
  clear hHeld
  have hlt : w2.heap.size < w4.heap.size + 1 := by have := (Array.getElem?_eq_some_iff.1 HX.out).1; rw [World.size_alloc] at this; exact this
  go_wp2_with fail
  refine (H5.out _).mono ?_
  rintro _ w5 ⟨D1, m1, D2, m2, D3, m3, rfl, _, hb⟩
  replace HX := Lib.hid ((hb.block _ (Array.getElem?_eq_some_iff.1 HX.out).1).trans HX.out)
  replace HXb := Lib.hid ((hb.block _ (Array.getElem?_eq_some_iff.1 HXb.out).1).trans HXb.out)
  replace HB := Lib.hid (HB.out.drew.trans (hb.mono HB.out.size))
  replace HP := Lib.hid ((HP.out.below (Below.refl _ _).drew).below hb)
  replace HPb := Lib.hid ((HPb.out.below (Below.refl _ _).drew).below hb)
  have hlt1 : w2.heap.size < w5.heap.size := (Array.getElem?_eq_some_iff.1 HX.out).1
  have hlt2 : w4.heap.size < w5.heap.size := (Array.getElem?_eq_some_iff.1 HXb.out).1
  clear hb hlt
  have c0 : w5.cell? ⟨w2.heap.size, 0, none⟩ = some (.int .i64 ty) := by rw [cell_in HX.out]; rfl
  have c1 : w5.cell? ⟨w2.heap.size, 1, none⟩ = some (.int .i64 fl) := by rw [cell_in HX.out]; rfl
  have c2 : w5.cell? ⟨w2.heap.size, 2, none⟩ = some (.int .u32 (tsn : Int)) := by rw [cell_in HX.out]; rfl
  have c3 : w5.cell? ⟨w2.heap.size, 3, none⟩ = some (.int .u32 (tag : Int)) := by rw [cell_in HX.out]; rfl
  have c4 : w5.cell? ⟨w2.heap.size, 4, none⟩ = some (.int .u32 (win : Int)) := by rw [cell_in HX.out]; rfl
  have c5 : w5.cell? ⟨w2.heap.size, 5, none⟩ = some (.int .u32 (ppid : Int)) := by rw [cell_in HX.out]; rfl
  have c6 : w5.cell? ⟨w2.heap.size, 6, none⟩ = some (.int .u16 (st : Int)) := by rw [cell_in HX.out]; rfl
  have c7 : w5.cell? ⟨w2.heap.size, 7, none⟩ = some (.int .u16 (ssn : Int)) := by rw [cell_in HX.out]; rfl
  have c8 : w5.cell? ⟨w2.heap.size, 8, none⟩ = some (.int .u16 (outs : Int)) := by rw [cell_in HX.out]; rfl
  have c9 : w5.cell? ⟨w2.heap.size, 9, none⟩ = some (.int .u16 (ins : Int)) := by rw [cell_in HX.out]; rfl
  have c10 : w5.cell? ⟨w2.heap.size, 10, none⟩ = some (.slice A1 gaps.length k1) := by rw [cell_in HX.out]; rfl
  have c11 : w5.cell? ⟨w2.heap.size, 11, none⟩ = some (.slice A2 dups.length k2) := by rw [cell_in HX.out]; rfl
  have c12 : w5.cell? ⟨w2.heap.size, 12, none⟩ = some (.slice A3 items.length k3) := by rw [cell_in HX.out]; rfl
  have c13 : w5.cell? ⟨w2.heap.size, 13, none⟩ = some (.string text) := by rw [cell_in HX.out]; rfl
  have HONE0 := Lib.hid (none_cells D1 D2 D3 m1 m2 m3)
  have HXc := Lib.hid (heap_alloc_new w5 (.cells #[.int .i64 0, .int .i64 0, .int .u32 0, .int .u32 0, .int .u32 0, .int .u32 0, .int .u16 0, .int .u16 0, .int .u16 0, .int .u16 0, .slice D1 0 m1, .slice D2 0 m2, .slice D3 0 m3, .string ⟨#[]⟩] 28))
  replace HX := Lib.hid ((Below.heap_alloc w5 (.cells #[.int .i64 0, .int .i64 0, .int .u32 0, .int .u32 0, .int .u32 0, .int .u32 0, .int .u16 0, .int .u16 0, .int .u16 0, .int .u16 0, .slice D1 0 m1, .slice D2 0 m2, .slice D3 0 m3, .string ⟨#[]⟩] 28) _ (Array.getElem?_eq_some_iff.1 HX.out).1).trans HX.out)
  replace HXb := Lib.hid ((Below.heap_alloc w5 (.cells #[.int .i64 0, .int .i64 0, .int .u32 0, .int .u32 0, .int .u32 0, .int .u32 0, .int .u16 0, .int .u16 0, .int .u16 0, .int .u16 0, .slice D1 0 m1, .slice D2 0 m2, .slice D3 0 m3, .string ⟨#[]⟩] 28) _ (Array.getElem?_eq_some_iff.1 HXb.out).1).trans HXb.out)
  replace HP := Lib.hid (HP.out.below ((Below.refl _ w5).alloc (Nat.le_refl _) (.cells #[.int .i64 0, .int .i64 0, .int .u32 0, .int .u32 0, .int .u32 0, .int .u32 0, .int .u16 0, .int .u16 0, .int .u16 0, .int .u16 0, .slice D1 0 m1, .slice D2 0 m2, .slice D3 0 m3, .string ⟨#[]⟩] 28)))
  replace HPb := Lib.hid (HPb.out.below ((Below.refl _ w5).alloc (Nat.le_refl _) (.cells #[.int .i64 0, .int .i64 0, .int .u32 0, .int .u32 0, .int .u32 0, .int .u32 0, .int .u16 0, .int .u16 0, .int .u16 0, .int .u16 0, .slice D1 0 m1, .slice D2 0 m2, .slice D3 0 m3, .string ⟨#[]⟩] 28)))
  replace HB := Lib.hid (HB.out.alloc HB.out.size (.cells #[.int .i64 0, .int .i64 0, .int .u32 0, .int .u32 0, .int .u32 0, .int .u32 0, .int .u16 0, .int .u16 0, .int .u16 0, .int .u16 0, .slice D1 0 m1, .slice D2 0 m2, .slice D3 0 m3, .string ⟨#[]⟩] 28))
  go_wp2_with fail
  refine (H6.out _ _ _ _ HP.out).mono ?_
  rintro _ w6 ⟨rfl, hb⟩
  replace HX := Lib.hid ((hb.block _ (Array.getElem?_eq_some_iff.1 HX.out).1).trans HX.out)
  replace HXb := Lib.hid ((hb.block _ (Array.getElem?_eq_some_iff.1 HXb.out).1).trans HXb.out)
  replace HB := Lib.hid (HB.out.trans (hb.mono HB.out.size))
  replace HP := Lib.hid (HP.out.below hb)
  replace HPb := Lib.hid (HPb.out.below hb)
  clear c0 c1 c2 c3 c4 c5 c6 c7 c8 c9 c10 c11 c12 c13
  clear hb hlt1 hlt2
  have c0 : w6.cell? ⟨w2.heap.size, 0, none⟩ = some (.int .i64 ty) := by rw [cell_in HX.out]; rfl
  have c1 : w6.cell? ⟨w2.heap.size, 1, none⟩ = some (.int .i64 fl) := by rw [cell_in HX.out]; rfl
  have c2 : w6.cell? ⟨w2.heap.size, 2, none⟩ = some (.int .u32 (tsn : Int)) := by rw [cell_in HX.out]; rfl
  have c3 : w6.cell? ⟨w2.heap.size, 3, none⟩ = some (.int .u32 (tag : Int)) := by rw [cell_in HX.out]; rfl
  have c4 : w6.cell? ⟨w2.heap.size, 4, none⟩ = some (.int .u32 (win : Int)) := by rw [cell_in HX.out]; rfl
  have c5 : w6.cell? ⟨w2.heap.size, 5, none⟩ = some (.int .u32 (ppid : Int)) := by rw [cell_in HX.out]; rfl
  have c6 : w6.cell? ⟨w2.heap.size, 6, none⟩ = some (.int .u16 (st : Int)) := by rw [cell_in HX.out]; rfl
  have c7 : w6.cell? ⟨w2.heap.size, 7, none⟩ = some (.int .u16 (ssn : Int)) := by rw [cell_in HX.out]; rfl
  have c8 : w6.cell? ⟨w2.heap.size, 8, none⟩ = some (.int .u16 (outs : Int)) := by rw [cell_in HX.out]; rfl
  have c9 : w6.cell? ⟨w2.heap.size, 9, none⟩ = some (.int .u16 (ins : Int)) := by rw [cell_in HX.out]; rfl
  have c10 : w6.cell? ⟨w2.heap.size, 10, none⟩ = some (.slice A1 gaps.length k1) := by rw [cell_in HX.out]; rfl
  have c11 : w6.cell? ⟨w2.heap.size, 11, none⟩ = some (.slice A2 dups.length k2) := by rw [cell_in HX.out]; rfl
  have c12 : w6.cell? ⟨w2.heap.size, 12, none⟩ = some (.slice A3 items.length k3) := by rw [cell_in HX.out]; rfl
  have c13 : w6.cell? ⟨w2.heap.size, 13, none⟩ = some (.string text) := by rw [cell_in HX.out]; rfl
  have d0 : w6.cell? ⟨w4.heap.size, 0, none⟩ = some (.int .i64 ty) := by rw [cell_in HXb.out]; rfl
  have d1 : w6.cell? ⟨w4.heap.size, 1, none⟩ = some (.int .i64 fl) := by rw [cell_in HXb.out]; rfl
  have d2 : w6.cell? ⟨w4.heap.size, 2, none⟩ = some (.int .u32 (tsn : Int)) := by rw [cell_in HXb.out]; rfl
  have d3 : w6.cell? ⟨w4.heap.size, 3, none⟩ = some (.int .u32 (tag : Int)) := by rw [cell_in HXb.out]; rfl
  have d4 : w6.cell? ⟨w4.heap.size, 4, none⟩ = some (.int .u32 (win : Int)) := by rw [cell_in HXb.out]; rfl
  have d5 : w6.cell? ⟨w4.heap.size, 5, none⟩ = some (.int .u32 (ppid : Int)) := by rw [cell_in HXb.out]; rfl
  have d6 : w6.cell? ⟨w4.heap.size, 6, none⟩ = some (.int .u16 (st : Int)) := by rw [cell_in HXb.out]; rfl
  have d7 : w6.cell? ⟨w4.heap.size, 7, none⟩ = some (.int .u16 (ssn : Int)) := by rw [cell_in HXb.out]; rfl
  have d8 : w6.cell? ⟨w4.heap.size, 8, none⟩ = some (.int .u16 (outs : Int)) := by rw [cell_in HXb.out]; rfl
  have d9 : w6.cell? ⟨w4.heap.size, 9, none⟩ = some (.int .u16 (ins : Int)) := by rw [cell_in HXb.out]; rfl
  have d10 : w6.cell? ⟨w4.heap.size, 10, none⟩ = some (.slice B1 gaps.length l1) := by rw [cell_in HXb.out]; rfl
  have d11 : w6.cell? ⟨w4.heap.size, 11, none⟩ = some (.slice B2 dups.length l2) := by rw [cell_in HXb.out]; rfl
  have d12 : w6.cell? ⟨w4.heap.size, 12, none⟩ = some (.slice B3 items.length l3) := by rw [cell_in HXb.out]; rfl
  have d13 : w6.cell? ⟨w4.heap.size, 13, none⟩ = some (.string text) := by rw [cell_in HXb.out]; rfl
  go_wp2_with fail
  refine (H7.out _ _ _ _ _ _ _ HP.out HPb.out).mono ?_
  rintro _ w7 ⟨rfl, hb⟩
  replace HB := Lib.hid (HB.out.trans (hb.mono HB.out.size))
  clear hb
  clear c0 c1 c2 c3 c4 c5 c6 c7 c8 c9 c10 c11 c12 c13
  clear d0 d1 d2 d3 d4 d5 d6 d7 d8 d9 d10 d11 d12 d13
  go_wp2_with fail
  go_ret
  exact ⟨rfl, HB.out⟩

set_option maxRecDepth 100000 in
theorem lifted (os : Os) (started : os.Started) (H : Type) (enc : TypeId × Value → H) :
    ReturnsInHanded {} Try.checked os 5 .any (Rows.chunkAgainSpec.pre6 enc Try.prog Try.f5 Rows.chunkAgainRow.domain false) (Rows.chunkAgainSpec.post enc Try.prog Try.f5 false true false false) := by
  refine returnsInHanded_of_change_sized (C := Try.checked) own started (by kernel_rfl) Try.func5
    (ChangeSpec.witness6 (enc := enc) (C := Try.checked) false ⟨#[], #[.string ⟨#[]⟩], []⟩ 8 (by kernel_rfl) (by kernel_rfl) (by kernel_rfl) (by kernel_rfl)) ?_
  intro W base args ds gs before hval0 hW _ hreach _
  have hval : ∀ (j : Nat) t v, Try.f5.params[j]? = some t → args[j]? = some v → Value.okWide Try.prog W .any base t v := hval0
  obtain ⟨p, q, hA0, _, _, _, _⟩ := id hW
  have hA : DataW.TrodAll enc Try.prog W 0 (fun _ => true) true Try.f5.params.toList args.toList ds p := hA0
  rw [Try.params5] at hA hval
  obtain ⟨v0, vs0, d0, ds0, p0, q0, hargs, rfl, rfl, h0, r0⟩ := trodAll_cons hA
  obtain ⟨rfl, rfl, rfl⟩ := trodAll_nil r0
  obtain rfl : args = #[v0] := by cases args; simp_all
  obtain ⟨a0, rfl, rfl, rfl, w0⟩ := Go.ChangeMaps.open_string Try.underlying9 (hval 0 9 v0 rfl rfl) h0
  refine (walk a0 W).mono fun e W' ⟨he, hg⟩ => ?_
  subst he
  exact ⟨_, rfl, law_post laidOut Try.underlying4 (by kernel_rfl) (by kernel_rfl) rfl hW (by simp [Rows.chunkAgainSpec]) hg⟩

theorem proved : Rows.ChunkAgainSaid :=
  OpenClaim.holds_of_wide 5 Try.f5 rfl rfl rfl rfl rfl rfl rfl ⟨rfl, rfl, rfl, rfl, rfl⟩ rfl rfl rfl rfl rfl (by kernel_rfl) Try.func5 (by kernel_rfl)
    (of_decide_eq_true (by kernel_rfl)) (by unfold Func.isWrapper; first | (rw [if_pos (by decide +kernel)]; kernel_rfl) | (rw [if_neg (by decide +kernel)]; exact ⟨rfl, rfl⟩))
    (fun os started H enc _ => lifted os started H enc)
#print axioms proved
end Go.Proofs.Ytjdnlolhcjalmaa.chunkAgain
