/-
  Statement ChunkBuilds (chapter 7): the bytes of a chunk, whether it is right, how many there are: as the document says.
-/
import Derived.Test.YtjdnlolhcjalmaaLift
import Derived.Test.YtjdnlolhcjalmaaCkShown
import Derived.Test.YtjdnlolhcjalmaaRkB
import Derived.Test.YtjdnlolhcjalmaaCkLaw
import Derived.BigQuiet
namespace Go.Proofs.Ytjdnlolhcjalmaa.chunkBuilds
open Go.ChangeShapes Go.WideShapes Go.ChangeAt Go.RowKit
set_option linter.unusedVariables false

set_option linter.unusedSimpArgs false
set_option maxRecDepth 100000
/-- A chunk lies in the block that is laid first, else all is as it was. -/
def LwS (w : World) (CS : Array Value) (W : World) : Prop := W.heap[w.heap.size]? = some (.cells CS 28 (0, 0)) ∧ Below w.heap.size w W
theorem LwS.drew {w W : World} {CS : Array Value} (h : LwS w CS W) : LwS w CS W.drew := ⟨h.1, h.2.drew⟩
theorem LwS.later {w W W' : World} {CS : Array Value} (h : LwS w CS W) (hb : Below W.heap.size W W') : LwS w CS W' := ⟨(hb.block _ (Array.getElem?_eq_some_iff.1 h.1).1).trans h.1, h.2.trans (hb.mono h.2.size)⟩
theorem LwS.range {w W : World} {CS : Array Value} (h : LwS w CS W) : W.rangeAt w.heap.size 0 CS.toList := by
  intro j v hj
  rw [Nat.zero_add, cell_in h.1]
  simpa using hj
set_option maxHeartbeats 8000000 in
theorem walk (c : Ck) (g d it : Value) (w : World) (hi : InC w c g d it) : Calls Try.prog 3 #[.agg (cellsC c g d it)] w fun e w' => e = .returned (.bool true) ∧ Below w.heap.size w w' := by
  have HCS := Lib.hid ckSize
  have hp := hi.parts
  have HM := Lib.hid (fun W hq => small_any c g d it W hi.il hi.gl hi.dl hi.tl hq)
  by_cases hs : smallB c = true
  case neg =>
    rw [Bool.not_eq_true] at hs
    rw [hs] at HM
    have HP := Lib.hid hp
    clear hs
    obtain ⟨⟨A1, k1, rfl⟩, ⟨A2, k2, rfl⟩, ⟨A3, k3, rfl⟩⟩ := hp.slices
    have HONE := Lib.hid hp.one
    obtain ⟨ty, fl, tsn, tag, win, ppid, st, ssn, outs, ins, gaps, dups, items, text⟩ := c
    clear hp hi
    dsimp only [cellsC] at *
    go_enter Try.func3, Try.ntmps3
    go_wp2_with fail
    refine (shown_any _).mono ?_
    rintro _ w1 ⟨rfl, hb1⟩
    have HX := Lib.hid ((hb1.block _ (by rw [World.size_alloc]; omega)).trans (heap_alloc_new w (.cells #[.int .i64 ty, .int .i64 fl, .int .u32 (tsn : Int), .int .u32 (tag : Int), .int .u32 (win : Int), .int .u32 (ppid : Int), .int .u16 (st : Int), .int .u16 (ssn : Int), .int .u16 (outs : Int), .int .u16 (ins : Int), .slice A1 gaps.length k1, .slice A2 dups.length k2, .slice A3 items.length k3, .string text] 28)))
    have HB := Lib.hid (((Below.refl _ w).alloc (Nat.le_refl _) (.cells #[.int .i64 ty, .int .i64 fl, .int .u32 (tsn : Int), .int .u32 (tag : Int), .int .u32 (win : Int), .int .u32 (ppid : Int), .int .u16 (st : Int), .int .u16 (ssn : Int), .int .u16 (outs : Int), .int .u16 (ins : Int), .slice A1 gaps.length k1, .slice A2 dups.length k2, .slice A3 items.length k3, .string text] 28)).trans (hb1.mono (by rw [World.size_alloc]; omega)))
    clear hb1
    have c0 : w1.cell? ⟨w.heap.size, 0, none⟩ = some (.int .i64 ty) := by rw [cell_in HX.out]; rfl
    have c1 : w1.cell? ⟨w.heap.size, 1, none⟩ = some (.int .i64 fl) := by rw [cell_in HX.out]; rfl
    have c2 : w1.cell? ⟨w.heap.size, 2, none⟩ = some (.int .u32 (tsn : Int)) := by rw [cell_in HX.out]; rfl
    have c3 : w1.cell? ⟨w.heap.size, 3, none⟩ = some (.int .u32 (tag : Int)) := by rw [cell_in HX.out]; rfl
    have c4 : w1.cell? ⟨w.heap.size, 4, none⟩ = some (.int .u32 (win : Int)) := by rw [cell_in HX.out]; rfl
    have c5 : w1.cell? ⟨w.heap.size, 5, none⟩ = some (.int .u32 (ppid : Int)) := by rw [cell_in HX.out]; rfl
    have c6 : w1.cell? ⟨w.heap.size, 6, none⟩ = some (.int .u16 (st : Int)) := by rw [cell_in HX.out]; rfl
    have c7 : w1.cell? ⟨w.heap.size, 7, none⟩ = some (.int .u16 (ssn : Int)) := by rw [cell_in HX.out]; rfl
    have c8 : w1.cell? ⟨w.heap.size, 8, none⟩ = some (.int .u16 (outs : Int)) := by rw [cell_in HX.out]; rfl
    have c9 : w1.cell? ⟨w.heap.size, 9, none⟩ = some (.int .u16 (ins : Int)) := by rw [cell_in HX.out]; rfl
    have c10 : w1.cell? ⟨w.heap.size, 10, none⟩ = some (.slice A1 gaps.length k1) := by rw [cell_in HX.out]; rfl
    have c11 : w1.cell? ⟨w.heap.size, 11, none⟩ = some (.slice A2 dups.length k2) := by rw [cell_in HX.out]; rfl
    have c12 : w1.cell? ⟨w.heap.size, 12, none⟩ = some (.slice A3 items.length k3) := by rw [cell_in HX.out]; rfl
    have c13 : w1.cell? ⟨w.heap.size, 13, none⟩ = some (.string text) := by rw [cell_in HX.out]; rfl
    go_wp2_with fail
    refine (HM.out _ (HP.out.below HB.out)).mono ?_
    rintro _ w2 ⟨rfl, hb⟩
    clear c0 c1 c2 c3 c4 c5 c6 c7 c8 c9 c10 c11 c12 c13
    replace HX := Lib.hid ((hb.block _ (Array.getElem?_eq_some_iff.1 HX.out).1).trans HX.out)
    replace HB := Lib.hid (HB.out.trans (hb.mono HB.out.size))
    clear hb
    have c0 : w2.cell? ⟨w.heap.size, 0, none⟩ = some (.int .i64 ty) := by rw [cell_in HX.out]; rfl
    have c1 : w2.cell? ⟨w.heap.size, 1, none⟩ = some (.int .i64 fl) := by rw [cell_in HX.out]; rfl
    have c2 : w2.cell? ⟨w.heap.size, 2, none⟩ = some (.int .u32 (tsn : Int)) := by rw [cell_in HX.out]; rfl
    have c3 : w2.cell? ⟨w.heap.size, 3, none⟩ = some (.int .u32 (tag : Int)) := by rw [cell_in HX.out]; rfl
    have c4 : w2.cell? ⟨w.heap.size, 4, none⟩ = some (.int .u32 (win : Int)) := by rw [cell_in HX.out]; rfl
    have c5 : w2.cell? ⟨w.heap.size, 5, none⟩ = some (.int .u32 (ppid : Int)) := by rw [cell_in HX.out]; rfl
    have c6 : w2.cell? ⟨w.heap.size, 6, none⟩ = some (.int .u16 (st : Int)) := by rw [cell_in HX.out]; rfl
    have c7 : w2.cell? ⟨w.heap.size, 7, none⟩ = some (.int .u16 (ssn : Int)) := by rw [cell_in HX.out]; rfl
    have c8 : w2.cell? ⟨w.heap.size, 8, none⟩ = some (.int .u16 (outs : Int)) := by rw [cell_in HX.out]; rfl
    have c9 : w2.cell? ⟨w.heap.size, 9, none⟩ = some (.int .u16 (ins : Int)) := by rw [cell_in HX.out]; rfl
    have c10 : w2.cell? ⟨w.heap.size, 10, none⟩ = some (.slice A1 gaps.length k1) := by rw [cell_in HX.out]; rfl
    have c11 : w2.cell? ⟨w.heap.size, 11, none⟩ = some (.slice A2 dups.length k2) := by rw [cell_in HX.out]; rfl
    have c12 : w2.cell? ⟨w.heap.size, 12, none⟩ = some (.slice A3 items.length k3) := by rw [cell_in HX.out]; rfl
    have c13 : w2.cell? ⟨w.heap.size, 13, none⟩ = some (.string text) := by rw [cell_in HX.out]; rfl
    go_wp2_with fail
    go_ret
    exact ⟨rfl, HB.out⟩
  rw [hs] at HM
  obtain ⟨s1, s2, s3, s4, s5⟩ := small_gives hs
  have s5' : ∀ x ∈ c.items, x.2.size ≤ 1000000 := fun x hx => by have := s5 x hx; omega
  have HU := Lib.hid (fun W hq => ckbuild_any c hi.wf (by omega) (by omega) (by omega) s5' (by omega) g d it W hq)
  have HR := Lib.hid (fun W hq => ckright_any c hi.wf (by omega) (by omega) (by omega) s5' (by omega) g d it W hq)
  have HZ := Lib.hid (fun W hq => cksize_any c hi.wf (by omega) (by omega) (by omega) s5' (by omega) g d it W hq)
  have HA := Lib.hid (fun W hq => as_any c (by omega) g d it W hq)
  have HU7 := Lib.hid (fun g d it W hq => rkbuild_any c hi.wf (by omega) (by omega) (by omega) s5' g d it W hq)
  have HR7 := Lib.hid (fun g d it W hq => rkright_any c hi.wf (by omega) (by omega) (by omega) s5' g d it W hq)
  have HZ7 := Lib.hid (fun g d it W hq => rksize_any c hi.wf (by omega) (by omega) (by omega) s5' g d it W hq)
  generalize decide ((buildC c).2 = 0) = q at *
  generalize (buildC c).2 = e0 at *
  generalize (buildC c).1 = b at *
  have HP := Lib.hid hp
  clear hs s1 s2 s3 s4 s5 s5'
  obtain ⟨⟨A1, k1, rfl⟩, ⟨A2, k2, rfl⟩, ⟨A3, k3, rfl⟩⟩ := hp.slices
  have HONE := Lib.hid hp.one
  obtain ⟨ty, fl, tsn, tag, win, ppid, st, ssn, outs, ins, gaps, dups, items, text⟩ := c
  clear hp hi
  dsimp only [cellsC] at *
  go_enter Try.func3, Try.ntmps3
  go_wp2_with fail
  refine (shown_any _).mono ?_
  rintro _ w1 ⟨rfl, hb1⟩
  have HX := Lib.hid ((hb1.block _ (by rw [World.size_alloc]; omega)).trans (heap_alloc_new w (.cells #[.int .i64 ty, .int .i64 fl, .int .u32 (tsn : Int), .int .u32 (tag : Int), .int .u32 (win : Int), .int .u32 (ppid : Int), .int .u16 (st : Int), .int .u16 (ssn : Int), .int .u16 (outs : Int), .int .u16 (ins : Int), .slice A1 gaps.length k1, .slice A2 dups.length k2, .slice A3 items.length k3, .string text] 28)))
  have HB := Lib.hid (((Below.refl _ w).alloc (Nat.le_refl _) (.cells #[.int .i64 ty, .int .i64 fl, .int .u32 (tsn : Int), .int .u32 (tag : Int), .int .u32 (win : Int), .int .u32 (ppid : Int), .int .u16 (st : Int), .int .u16 (ssn : Int), .int .u16 (outs : Int), .int .u16 (ins : Int), .slice A1 gaps.length k1, .slice A2 dups.length k2, .slice A3 items.length k3, .string text] 28)).trans (hb1.mono (by rw [World.size_alloc]; omega)))
  clear hb1
  have c0 : w1.cell? ⟨w.heap.size, 0, none⟩ = some (.int .i64 ty) := by rw [cell_in HX.out]; rfl
  have c1 : w1.cell? ⟨w.heap.size, 1, none⟩ = some (.int .i64 fl) := by rw [cell_in HX.out]; rfl
  have c2 : w1.cell? ⟨w.heap.size, 2, none⟩ = some (.int .u32 (tsn : Int)) := by rw [cell_in HX.out]; rfl
  have c3 : w1.cell? ⟨w.heap.size, 3, none⟩ = some (.int .u32 (tag : Int)) := by rw [cell_in HX.out]; rfl
  have c4 : w1.cell? ⟨w.heap.size, 4, none⟩ = some (.int .u32 (win : Int)) := by rw [cell_in HX.out]; rfl
  have c5 : w1.cell? ⟨w.heap.size, 5, none⟩ = some (.int .u32 (ppid : Int)) := by rw [cell_in HX.out]; rfl
  have c6 : w1.cell? ⟨w.heap.size, 6, none⟩ = some (.int .u16 (st : Int)) := by rw [cell_in HX.out]; rfl
  have c7 : w1.cell? ⟨w.heap.size, 7, none⟩ = some (.int .u16 (ssn : Int)) := by rw [cell_in HX.out]; rfl
  have c8 : w1.cell? ⟨w.heap.size, 8, none⟩ = some (.int .u16 (outs : Int)) := by rw [cell_in HX.out]; rfl
  have c9 : w1.cell? ⟨w.heap.size, 9, none⟩ = some (.int .u16 (ins : Int)) := by rw [cell_in HX.out]; rfl
  have c10 : w1.cell? ⟨w.heap.size, 10, none⟩ = some (.slice A1 gaps.length k1) := by rw [cell_in HX.out]; rfl
  have c11 : w1.cell? ⟨w.heap.size, 11, none⟩ = some (.slice A2 dups.length k2) := by rw [cell_in HX.out]; rfl
  have c12 : w1.cell? ⟨w.heap.size, 12, none⟩ = some (.slice A3 items.length k3) := by rw [cell_in HX.out]; rfl
  have c13 : w1.cell? ⟨w.heap.size, 13, none⟩ = some (.string text) := by rw [cell_in HX.out]; rfl
  go_wp2_with fail
  refine (HM.out _ (HP.out.below HB.out)).mono ?_
  rintro _ w2 ⟨rfl, hb⟩
  clear c0 c1 c2 c3 c4 c5 c6 c7 c8 c9 c10 c11 c12 c13
  replace HX := Lib.hid ((hb.block _ (Array.getElem?_eq_some_iff.1 HX.out).1).trans HX.out)
  replace HB := Lib.hid (HB.out.trans (hb.mono HB.out.size))
  clear hb
  have c0 : w2.cell? ⟨w.heap.size, 0, none⟩ = some (.int .i64 ty) := by rw [cell_in HX.out]; rfl
  have c1 : w2.cell? ⟨w.heap.size, 1, none⟩ = some (.int .i64 fl) := by rw [cell_in HX.out]; rfl
  have c2 : w2.cell? ⟨w.heap.size, 2, none⟩ = some (.int .u32 (tsn : Int)) := by rw [cell_in HX.out]; rfl
  have c3 : w2.cell? ⟨w.heap.size, 3, none⟩ = some (.int .u32 (tag : Int)) := by rw [cell_in HX.out]; rfl
  have c4 : w2.cell? ⟨w.heap.size, 4, none⟩ = some (.int .u32 (win : Int)) := by rw [cell_in HX.out]; rfl
  have c5 : w2.cell? ⟨w.heap.size, 5, none⟩ = some (.int .u32 (ppid : Int)) := by rw [cell_in HX.out]; rfl
  have c6 : w2.cell? ⟨w.heap.size, 6, none⟩ = some (.int .u16 (st : Int)) := by rw [cell_in HX.out]; rfl
  have c7 : w2.cell? ⟨w.heap.size, 7, none⟩ = some (.int .u16 (ssn : Int)) := by rw [cell_in HX.out]; rfl
  have c8 : w2.cell? ⟨w.heap.size, 8, none⟩ = some (.int .u16 (outs : Int)) := by rw [cell_in HX.out]; rfl
  have c9 : w2.cell? ⟨w.heap.size, 9, none⟩ = some (.int .u16 (ins : Int)) := by rw [cell_in HX.out]; rfl
  have c10 : w2.cell? ⟨w.heap.size, 10, none⟩ = some (.slice A1 gaps.length k1) := by rw [cell_in HX.out]; rfl
  have c11 : w2.cell? ⟨w.heap.size, 11, none⟩ = some (.slice A2 dups.length k2) := by rw [cell_in HX.out]; rfl
  have c12 : w2.cell? ⟨w.heap.size, 12, none⟩ = some (.slice A3 items.length k3) := by rw [cell_in HX.out]; rfl
  have c13 : w2.cell? ⟨w.heap.size, 13, none⟩ = some (.string text) := by rw [cell_in HX.out]; rfl
  go_wp2_with fail
  refine (HU.out _ (HP.out.below HB.out)).mono ?_
  rintro _ w3 ⟨rfl, hb⟩
  clear c0 c1 c2 c3 c4 c5 c6 c7 c8 c9 c10 c11 c12 c13
  replace HX := Lib.hid ((hb.block _ (Array.getElem?_eq_some_iff.1 HX.out).1).trans HX.out)
  replace HB := Lib.hid (HB.out.trans (hb.mono HB.out.size))
  clear hb
  have c0 : w3.cell? ⟨w.heap.size, 0, none⟩ = some (.int .i64 ty) := by rw [cell_in HX.out]; rfl
  have c1 : w3.cell? ⟨w.heap.size, 1, none⟩ = some (.int .i64 fl) := by rw [cell_in HX.out]; rfl
  have c2 : w3.cell? ⟨w.heap.size, 2, none⟩ = some (.int .u32 (tsn : Int)) := by rw [cell_in HX.out]; rfl
  have c3 : w3.cell? ⟨w.heap.size, 3, none⟩ = some (.int .u32 (tag : Int)) := by rw [cell_in HX.out]; rfl
  have c4 : w3.cell? ⟨w.heap.size, 4, none⟩ = some (.int .u32 (win : Int)) := by rw [cell_in HX.out]; rfl
  have c5 : w3.cell? ⟨w.heap.size, 5, none⟩ = some (.int .u32 (ppid : Int)) := by rw [cell_in HX.out]; rfl
  have c6 : w3.cell? ⟨w.heap.size, 6, none⟩ = some (.int .u16 (st : Int)) := by rw [cell_in HX.out]; rfl
  have c7 : w3.cell? ⟨w.heap.size, 7, none⟩ = some (.int .u16 (ssn : Int)) := by rw [cell_in HX.out]; rfl
  have c8 : w3.cell? ⟨w.heap.size, 8, none⟩ = some (.int .u16 (outs : Int)) := by rw [cell_in HX.out]; rfl
  have c9 : w3.cell? ⟨w.heap.size, 9, none⟩ = some (.int .u16 (ins : Int)) := by rw [cell_in HX.out]; rfl
  have c10 : w3.cell? ⟨w.heap.size, 10, none⟩ = some (.slice A1 gaps.length k1) := by rw [cell_in HX.out]; rfl
  have c11 : w3.cell? ⟨w.heap.size, 11, none⟩ = some (.slice A2 dups.length k2) := by rw [cell_in HX.out]; rfl
  have c12 : w3.cell? ⟨w.heap.size, 12, none⟩ = some (.slice A3 items.length k3) := by rw [cell_in HX.out]; rfl
  have c13 : w3.cell? ⟨w.heap.size, 13, none⟩ = some (.string text) := by rw [cell_in HX.out]; rfl
  go_wp2_with fail
  refine (HA.out _ (HP.out.below HB.out)).mono ?_
  rintro _ w4 ⟨g7, d7, it7, rfl, hp7, hb⟩
  clear c0 c1 c2 c3 c4 c5 c6 c7 c8 c9 c10 c11 c12 c13
  replace HX := Lib.hid ((hb.block _ (Array.getElem?_eq_some_iff.1 HX.out).1).trans HX.out)
  replace HB := Lib.hid (HB.out.trans (hb.mono HB.out.size))
  have HP7 := Lib.hid hp7
  clear hp7
  clear hb
  have c0 : w4.cell? ⟨w.heap.size, 0, none⟩ = some (.int .i64 ty) := by rw [cell_in HX.out]; rfl
  have c1 : w4.cell? ⟨w.heap.size, 1, none⟩ = some (.int .i64 fl) := by rw [cell_in HX.out]; rfl
  have c2 : w4.cell? ⟨w.heap.size, 2, none⟩ = some (.int .u32 (tsn : Int)) := by rw [cell_in HX.out]; rfl
  have c3 : w4.cell? ⟨w.heap.size, 3, none⟩ = some (.int .u32 (tag : Int)) := by rw [cell_in HX.out]; rfl
  have c4 : w4.cell? ⟨w.heap.size, 4, none⟩ = some (.int .u32 (win : Int)) := by rw [cell_in HX.out]; rfl
  have c5 : w4.cell? ⟨w.heap.size, 5, none⟩ = some (.int .u32 (ppid : Int)) := by rw [cell_in HX.out]; rfl
  have c6 : w4.cell? ⟨w.heap.size, 6, none⟩ = some (.int .u16 (st : Int)) := by rw [cell_in HX.out]; rfl
  have c7 : w4.cell? ⟨w.heap.size, 7, none⟩ = some (.int .u16 (ssn : Int)) := by rw [cell_in HX.out]; rfl
  have c8 : w4.cell? ⟨w.heap.size, 8, none⟩ = some (.int .u16 (outs : Int)) := by rw [cell_in HX.out]; rfl
  have c9 : w4.cell? ⟨w.heap.size, 9, none⟩ = some (.int .u16 (ins : Int)) := by rw [cell_in HX.out]; rfl
  have c10 : w4.cell? ⟨w.heap.size, 10, none⟩ = some (.slice A1 gaps.length k1) := by rw [cell_in HX.out]; rfl
  have c11 : w4.cell? ⟨w.heap.size, 11, none⟩ = some (.slice A2 dups.length k2) := by rw [cell_in HX.out]; rfl
  have c12 : w4.cell? ⟨w.heap.size, 12, none⟩ = some (.slice A3 items.length k3) := by rw [cell_in HX.out]; rfl
  have c13 : w4.cell? ⟨w.heap.size, 13, none⟩ = some (.string text) := by rw [cell_in HX.out]; rfl
  dsimp only [cellsC] at *
  go_wp2_with fail
  refine (HU7.out _ _ _ _ HP7.out).mono ?_
  rintro _ w5 ⟨rfl, hb⟩
  clear c0 c1 c2 c3 c4 c5 c6 c7 c8 c9 c10 c11 c12 c13
  replace HX := Lib.hid ((hb.block _ (Array.getElem?_eq_some_iff.1 HX.out).1).trans HX.out)
  replace HB := Lib.hid (HB.out.trans (hb.mono HB.out.size))
  clear hb HP7 HU HU7 HM
  have HVS := Lib.hid (show LwS w #[.int .i64 ty, .int .i64 fl, .int .u32 (tsn : Int), .int .u32 (tag : Int), .int .u32 (win : Int), .int .u32 (ppid : Int), .int .u16 (st : Int), .int .u16 (ssn : Int), .int .u16 (outs : Int), .int .u16 (ins : Int), .slice A1 gaps.length k1, .slice A2 dups.length k2, .slice A3 items.length k3, .string text] w5 from ⟨HX.out, HB.out⟩)
  clear HX HB
  go_wp2_with fail
  replace HVS := Lib.hid HVS.out.drew
  refine wp_region_noPanic ?_
  refine wp_region_held_drew (S := LwS w #[.int .i64 ty, .int .i64 fl, .int .u32 (tsn : Int), .int .u32 (tag : Int), .int .u32 (win : Int), .int .u32 (ppid : Int), .int .u16 (st : Int), .int .u16 (ssn : Int), .int .u16 (outs : Int), .int .u16 (ins : Int), .slice A1 gaps.length k1, .slice A2 dups.length k2, .slice A3 items.length k3, .string text]) (by kernel_rfl) ?_ (fun hHeld => ?_)
  · exact HVS.out
  refine wpAnyH_take (i := 0) (v := ?_) (by simp only [List.getElem?_toArray, List.getElem?_cons_zero]; rfl) (by kernel_rfl) (by kernel_rfl) (by kernel_rfl) (fun _ _ _ h => h) (Or.inl ⟨by rfl, ?_⟩) (by assumption) ?_
  rotate_left 1
  · (intro w' hSw; (try dsimp only at hSw); go_simp; try with_reducible rfl)
  try simp only [Act.put, List.setIfInBounds_toArray, List.set_cons_zero, List.set_cons_succ]
  refine wpAnyH_take (i := 1) (v := ?_) (by simp only [List.getElem?_toArray, List.getElem?_cons_succ, List.getElem?_cons_zero]; rfl) (by kernel_rfl) (by kernel_rfl) (by kernel_rfl) (fun _ _ _ h => h) (Or.inl ⟨by rfl, ?_⟩) (by assumption) ?_
  rotate_left 1
  · (intro w' hSw; (try dsimp only at hSw); go_simp; try with_reducible rfl)
  try simp only [Act.put, List.setIfInBounds_toArray, List.set_cons_zero, List.set_cons_succ]
  refine wpAnyH_take (i := 2) (v := ?_) (by simp only [List.getElem?_toArray, List.getElem?_cons_succ, List.getElem?_cons_zero]; rfl) (by kernel_rfl) (by kernel_rfl) (by kernel_rfl) (fun _ _ _ h => h) (Or.inl ⟨by rfl, ?_⟩) (by assumption) ?_
  rotate_left 1
  · (intro w' hSw; (try dsimp only at hSw); go_simp; try with_reducible rfl)
  try simp only [Act.put, List.setIfInBounds_toArray, List.set_cons_zero, List.set_cons_succ]
  refine wpAnyH_take (i := 3) (v := ?_) (by simp only [List.getElem?_toArray, List.getElem?_cons_succ, List.getElem?_cons_zero]; rfl) (by kernel_rfl) (by kernel_rfl) (by kernel_rfl) (fun _ _ _ h => h) (Or.inl ⟨by rfl, ?_⟩) (by assumption) ?_
  rotate_left 1
  · (intro w' hSw; (try dsimp only at hSw); go_simp; try with_reducible rfl)
  try simp only [Act.put, List.setIfInBounds_toArray, List.set_cons_zero, List.set_cons_succ]
  refine wpAnyH_take (i := 4) (v := ?_) (by simp only [List.getElem?_toArray, List.getElem?_cons_succ, List.getElem?_cons_zero]; rfl) (by kernel_rfl) (by kernel_rfl) (by kernel_rfl) (fun _ _ _ h => h) (Or.inl ⟨by rfl, ?_⟩) (by assumption) ?_
  rotate_left 1
  · (intro w' hSw; (try dsimp only at hSw); go_simp; try with_reducible rfl)
  try simp only [Act.put, List.setIfInBounds_toArray, List.set_cons_zero, List.set_cons_succ]
  refine wpAnyH_take (i := 5) (v := ?_) (by simp only [List.getElem?_toArray, List.getElem?_cons_succ, List.getElem?_cons_zero]; rfl) (by kernel_rfl) (by kernel_rfl) (by kernel_rfl) (fun _ _ _ h => h) (Or.inl ⟨by rfl, ?_⟩) (by assumption) ?_
  rotate_left 1
  · (intro w' hSw; (try dsimp only at hSw); go_simp; try with_reducible rfl)
  try simp only [Act.put, List.setIfInBounds_toArray, List.set_cons_zero, List.set_cons_succ]
  refine wpAnyH_take (i := 6) (v := ?_) (by simp only [List.getElem?_toArray, List.getElem?_cons_succ, List.getElem?_cons_zero]; rfl) (by kernel_rfl) (by kernel_rfl) (by kernel_rfl) (fun _ _ _ h => h) (Or.inl ⟨by rfl, ?_⟩) (by assumption) ?_
  rotate_left 1
  · (intro w' hSw; (try dsimp only at hSw); go_simp; try with_reducible rfl)
  try simp only [Act.put, List.setIfInBounds_toArray, List.set_cons_zero, List.set_cons_succ]
  refine wpAnyH_take (i := 7) (v := ?_) (by simp only [List.getElem?_toArray, List.getElem?_cons_succ, List.getElem?_cons_zero]; rfl) (by kernel_rfl) (by kernel_rfl) (by kernel_rfl) (fun _ _ _ h => h) (Or.inl ⟨by rfl, ?_⟩) (by assumption) ?_
  rotate_left 1
  · (intro w' hSw; (try dsimp only at hSw); go_simp; try with_reducible rfl)
  try simp only [Act.put, List.setIfInBounds_toArray, List.set_cons_zero, List.set_cons_succ]
  refine wpAnyH_take (i := 8) (v := ?_) (by simp only [List.getElem?_toArray, List.getElem?_cons_succ, List.getElem?_cons_zero]; rfl) (by kernel_rfl) (by kernel_rfl) (by kernel_rfl) (fun _ _ _ h => h) (Or.inl ⟨by rfl, ?_⟩) (by assumption) ?_
  rotate_left 1
  · (intro w' hSw; (try dsimp only at hSw); go_simp; try with_reducible rfl)
  try simp only [Act.put, List.setIfInBounds_toArray, List.set_cons_zero, List.set_cons_succ]
  refine wpAnyH_take (i := 9) (v := _) (by simp only [List.getElem?_toArray, List.getElem?_cons_succ, List.getElem?_cons_zero]; rfl) (by kernel_rfl) (by kernel_rfl) (by kernel_rfl) (fun _ _ _ h => h) (yieldsIf_load_mid (by rfl) 28 (.tmp 1) rfl _ 0 (by rfl) _ _ (fun W h => LwS.range h) Try.underlying28 rfl HCS.out) (by assumption) ?_
  try simp only [Act.put, List.setIfInBounds_toArray, List.set_cons_zero, List.set_cons_succ]
  refine wpAnyH_take (i := 11) (v := _) (by simp only [List.getElem?_toArray, List.getElem?_cons_succ, List.getElem?_cons_zero]; rfl) (by kernel_rfl) (by kernel_rfl) (by kernel_rfl) (fun _ _ _ h => h) (yieldsIf_load_mid (by rfl) 28 (.tmp 1) rfl _ 0 (by rfl) _ _ (fun W h => LwS.range h) Try.underlying28 rfl HCS.out) (by assumption) ?_
  try simp only [Act.put, List.setIfInBounds_toArray, List.set_cons_zero, List.set_cons_succ]
  refine wpAnyH_ready (rs := [10]) (by kernel_rfl) (by simp) ?_
  refine AllReadyH.cons (by simp only [List.getElem?_toArray, List.getElem?_cons_succ, List.getElem?_cons_zero]; rfl) (fun K hK => ?_) AllReadyH.nil
  go_simp
  refine (HR.out _ (HP.out.below HVS.out.2)).mono ?_
  rintro _ w6 ⟨rfl, hb6⟩
  replace HVS := Lib.hid (HVS.out.later hb6)
  clear hb6
  go_wp2_with fail
  refine hK.out _ _ ?_ (fun hHeld => ?_)
  · exact HVS.out
  clear hK K
  try simp only [Act.put, List.setIfInBounds_toArray, List.set_cons_zero, List.set_cons_succ]
  refine wpAnyH_ready (rs := [12]) (by kernel_rfl) (by simp) ?_
  refine AllReadyH.cons (by simp only [List.getElem?_toArray, List.getElem?_cons_succ, List.getElem?_cons_zero]; rfl) (fun K hK => ?_) AllReadyH.nil
  go_simp
  refine (HA.out _ (HP.out.below HVS.out.2)).mono ?_
  rintro _ w7 ⟨g8, d8, it8, rfl, hp8, hb7⟩
  have HP8 := Lib.hid hp8
  clear hp8
  replace HVS := Lib.hid (HVS.out.later hb7)
  clear hb7
  go_wp2_with fail
  refine hK.out _ _ ?_ (fun hHeld => ?_)
  · exact HVS.out
  clear hK K
  try simp only [Act.put, List.setIfInBounds_toArray, List.set_cons_zero, List.set_cons_succ]
  refine wpAnyH_ready (rs := [13]) (by kernel_rfl) (by simp) ?_
  refine AllReadyH.cons (by simp only [List.getElem?_toArray, List.getElem?_cons_succ, List.getElem?_cons_zero]; rfl) (fun K hK => ?_) AllReadyH.nil
  go_simp
  refine (HR7.out _ _ _ _ HP8.out).mono ?_
  rintro _ w8 ⟨rfl, hb8⟩
  clear HP8
  replace HVS := Lib.hid (HVS.out.later hb8)
  clear hb8
  go_wp2_with fail
  refine hK.out _ _ ?_ (fun hHeld => ?_)
  · exact HVS.out
  clear hK K
  try simp only [Act.put, List.setIfInBounds_toArray, List.set_cons_zero, List.set_cons_succ]
  refine wpAnyH_take (i := 14) (v := ?_) (by simp only [List.getElem?_toArray, List.getElem?_cons_succ, List.getElem?_cons_zero]; rfl) (by kernel_rfl) (by kernel_rfl) (by kernel_rfl) (fun _ _ _ h => h) (Or.inl ⟨by rfl, ?_⟩) (by assumption) ?_
  rotate_left 1
  · (intro w' hSw; (try dsimp only at hSw); go_simp; try with_reducible rfl)
  try simp only [Act.put, List.setIfInBounds_toArray, List.set_cons_zero, List.set_cons_succ]
  refine wpAnyH_take (i := 15) (v := ?_) (by simp only [List.getElem?_toArray, List.getElem?_cons_succ, List.getElem?_cons_zero]; rfl) (by kernel_rfl) (by kernel_rfl) (by kernel_rfl) (fun _ _ _ h => h) (Or.inl ⟨by rfl, ?_⟩) (by assumption) ?_
  rotate_left 1
  · (intro w' hSw; (try dsimp only at hSw); go_simp; try with_reducible rfl)
  try simp only [Act.put, List.setIfInBounds_toArray, List.set_cons_zero, List.set_cons_succ]
  refine wpAnyH_take (i := 16) (v := ?_) (by simp only [List.getElem?_toArray, List.getElem?_cons_succ, List.getElem?_cons_zero]; rfl) (by kernel_rfl) (by kernel_rfl) (by kernel_rfl) (fun _ _ _ h => h) (Or.inl ⟨by rfl, ?_⟩) (by assumption) ?_
  rotate_left 1
  · (intro w' hSw; (try dsimp only at hSw); go_simp; try with_reducible rfl)
  try simp only [Act.put, List.setIfInBounds_toArray, List.set_cons_zero, List.set_cons_succ]
  refine wpAnyH_take (i := 17) (v := _) (by simp only [List.getElem?_toArray, List.getElem?_cons_succ, List.getElem?_cons_zero]; rfl) (by kernel_rfl) (by kernel_rfl) (by kernel_rfl) (fun _ _ _ h => h) (yieldsIf_load_mid (by rfl) 28 (.tmp 1) rfl _ 0 (by rfl) _ _ (fun W h => LwS.range h) Try.underlying28 rfl HCS.out) (by assumption) ?_
  try simp only [Act.put, List.setIfInBounds_toArray, List.set_cons_zero, List.set_cons_succ]
  refine wpAnyH_take (i := 19) (v := _) (by simp only [List.getElem?_toArray, List.getElem?_cons_succ, List.getElem?_cons_zero]; rfl) (by kernel_rfl) (by kernel_rfl) (by kernel_rfl) (fun _ _ _ h => h) (yieldsIf_load_mid (by rfl) 28 (.tmp 1) rfl _ 0 (by rfl) _ _ (fun W h => LwS.range h) Try.underlying28 rfl HCS.out) (by assumption) ?_
  try simp only [Act.put, List.setIfInBounds_toArray, List.set_cons_zero, List.set_cons_succ]
  refine wpAnyH_ready (rs := [18]) (by kernel_rfl) (by simp) ?_
  refine AllReadyH.cons (by simp only [List.getElem?_toArray, List.getElem?_cons_succ, List.getElem?_cons_zero]; rfl) (fun K hK => ?_) AllReadyH.nil
  go_simp
  refine (HZ.out _ (HP.out.below HVS.out.2)).mono ?_
  rintro _ w9 ⟨rfl, hb9⟩
  replace HVS := Lib.hid (HVS.out.later hb9)
  clear hb9
  go_wp2_with fail
  refine hK.out _ _ ?_ (fun hHeld => ?_)
  · exact HVS.out
  clear hK K
  try simp only [Act.put, List.setIfInBounds_toArray, List.set_cons_zero, List.set_cons_succ]
  refine wpAnyH_ready (rs := [20]) (by kernel_rfl) (by simp) ?_
  refine AllReadyH.cons (by simp only [List.getElem?_toArray, List.getElem?_cons_succ, List.getElem?_cons_zero]; rfl) (fun K hK => ?_) AllReadyH.nil
  go_simp
  refine (HA.out _ (HP.out.below HVS.out.2)).mono ?_
  rintro _ wa ⟨ga, da, ita, rfl, hpa, hba⟩
  have HPa := Lib.hid hpa
  clear hpa
  replace HVS := Lib.hid (HVS.out.later hba)
  clear hba
  go_wp2_with fail
  refine hK.out _ _ ?_ (fun hHeld => ?_)
  · exact HVS.out
  clear hK K
  try simp only [Act.put, List.setIfInBounds_toArray, List.set_cons_zero, List.set_cons_succ]
  refine wpAnyH_ready (rs := [21]) (by kernel_rfl) (by simp) ?_
  refine AllReadyH.cons (by simp only [List.getElem?_toArray, List.getElem?_cons_succ, List.getElem?_cons_zero]; rfl) (fun K hK => ?_) AllReadyH.nil
  go_simp
  refine (HZ7.out _ _ _ _ HPa.out).mono ?_
  rintro _ wb ⟨rfl, hbb⟩
  clear HPa
  replace HVS := Lib.hid (HVS.out.later hbb)
  clear hbb
  go_wp2_with fail
  refine hK.out _ _ ?_ (fun hHeld => ?_)
  · exact HVS.out
  clear hK K
  try simp only [Act.put, List.setIfInBounds_toArray, List.set_cons_zero, List.set_cons_succ]
  refine wpAnyH_take (i := 22) (v := ?_) (by simp only [List.getElem?_toArray, List.getElem?_cons_succ, List.getElem?_cons_zero]; rfl) (by kernel_rfl) (by kernel_rfl) (by kernel_rfl) (fun _ _ _ h => h) (Or.inl ⟨by rfl, ?_⟩) (by assumption) ?_
  rotate_left 1
  · (intro w' hSw; (try dsimp only at hSw); go_simp; try with_reducible rfl)
  try simp only [Act.put, List.setIfInBounds_toArray, List.set_cons_zero, List.set_cons_succ]
  refine wpAnyH_take (i := 23) (v := ?_) (by simp only [List.getElem?_toArray, List.getElem?_cons_succ, List.getElem?_cons_zero]; rfl) (by kernel_rfl) (by kernel_rfl) (by kernel_rfl) (fun _ _ _ h => h) (Or.inl ⟨by rfl, ?_⟩) (by assumption) ?_
  rotate_left 1
  · (intro w' hSw; (try dsimp only at hSw); go_simp; try with_reducible rfl)
  try simp only [Act.put, List.setIfInBounds_toArray, List.set_cons_zero, List.set_cons_succ]
  refine wpAnyH_take (i := 24) (v := ?_) (by simp only [List.getElem?_toArray, List.getElem?_cons_succ, List.getElem?_cons_zero]; rfl) (by kernel_rfl) (by kernel_rfl) (by kernel_rfl) (fun _ _ _ h => h) (Or.inl ⟨by rfl, ?_⟩) (by assumption) ?_
  rotate_left 1
  · (intro w' hSw; (try dsimp only at hSw); go_simp; try with_reducible rfl)
  try simp only [Act.put, List.setIfInBounds_toArray, List.set_cons_zero, List.set_cons_succ]
  refine wpAnyH_done (by kernel_rfl) ?_ _
  refine NoPanic.normal ?_
  clear hHeld
  go_wp2_with fail
  go_ret
  exact ⟨rfl, HVS.out.2⟩

set_option maxRecDepth 100000 in
theorem lifted (os : Os) (started : os.Started) (H : Type) (enc : TypeId × Value → H) :
    ReturnsInHanded {} Try.checked os 3 .any (Rows.chunkBuildsSpec.pre6 enc Try.prog Try.f3 Rows.chunkBuildsRow.domain false) (Rows.chunkBuildsSpec.post enc Try.prog Try.f3 false true false false) := by
  refine returnsInHanded_of_change_sized (C := Try.checked) own started (by kernel_rfl) Try.func3
    (ChangeSpec.witness6 (enc := enc) (C := Try.checked) false ⟨#[], #[.agg #[.int .i64 0, .int .i64 0, .int .u32 0, .int .u32 0, .int .u32 0, .int .u32 0, .int .u16 0, .int .u16 0, .int .u16 0, .int .u16 0, .slice none 0 0, .slice none 0 0, .slice none 0 0, .string ⟨#[]⟩]], []⟩ 8 (by kernel_rfl) (by kernel_rfl) (by kernel_rfl) (by kernel_rfl)) ?_
  intro W base args ds gs before hval0 hW _ hreach _
  have hval : ∀ (j : Nat) t v, Try.f3.params[j]? = some t → args[j]? = some v → Value.okWide Try.prog W .any base t v := hval0
  obtain ⟨p, q, hA0, _, _, _, _⟩ := id hW
  have hA : DataW.TrodAll enc Try.prog W 0 (fun _ => true) true Try.f3.params.toList args.toList ds p := hA0
  rw [Try.params3] at hA hval
  obtain ⟨v0, vs0, d0, ds0, p0, q0, hargs, rfl, rfl, h0, r0⟩ := trodAll_cons hA
  obtain ⟨rfl, rfl, rfl⟩ := trodAll_nil r0
  obtain rfl : args = #[v0] := by cases args; simp_all
  obtain ⟨c0, g0, e0, t0, rfl, n0⟩ := chunk_in (hval 0 28 v0 rfl rfl) h0
  refine (walk (hi := n0) c0 g0 e0 t0 W).mono fun e W' ⟨he, hg⟩ => ?_
  subst he
  exact ⟨_, rfl, law_post laidOut Try.underlying4 (by kernel_rfl) (by kernel_rfl) rfl hW (by simp [Rows.chunkBuildsSpec]) hg⟩

theorem proved : Rows.ChunkBuildsSaid :=
  OpenClaim.holds_of_wide 3 Try.f3 rfl rfl rfl rfl rfl rfl rfl ⟨rfl, rfl, rfl, rfl, rfl⟩ rfl rfl rfl rfl rfl (by kernel_rfl) Try.func3 (by kernel_rfl)
    (of_decide_eq_true (by kernel_rfl)) (by unfold Func.isWrapper; first | (rw [if_pos (by decide +kernel)]; kernel_rfl) | (rw [if_neg (by decide +kernel)]; exact ⟨rfl, rfl⟩))
    (fun os started H enc _ => lifted os started H enc)
#print axioms proved
end Go.Proofs.Ytjdnlolhcjalmaa.chunkBuilds
