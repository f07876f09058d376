/-
  Statement ChunkBack (chapter 7): what is built is parsed as what was handed in.
-/
import Derived.Test.YtjdnlolhcjalmaaLift
import Derived.Test.YtjdnlolhcjalmaaCkShown
import Derived.Test.YtjdnlolhcjalmaaCkLaw
import Derived.BigQuiet
namespace Go.Proofs.Ytjdnlolhcjalmaa.chunkBack
open Go.ChangeShapes Go.WideShapes Go.ChangeAt Go.RowKit
set_option linter.unusedVariables false

set_option linter.unusedSimpArgs false
set_option maxRecDepth 100000
set_option maxHeartbeats 8000000 in
theorem walk (c : Ck) (g d it : Value) (more : ByteArray) (w : World) (hi : InC w c g d it) : Calls Try.prog 4 #[.agg (cellsC c g d it), .string more] w fun e w' => e = .returned (.bool true) ∧ Below w.heap.size w w' := by
  have HCS := Lib.hid ckSize
  have hp := hi.parts
  have HM := Lib.hid (fun W hq => small_any c g d it W hi.il hi.gl hi.dl hi.tl hq)
  by_cases hs : smallB c = true
  case neg =>
    rw [Bool.not_eq_true] at hs
    rw [hs] at HM
    have HP := Lib.hid hp
    clear hs
    obtain ⟨⟨A1, k1, rfl⟩, ⟨A2, k2, rfl⟩, ⟨A3, k3, rfl⟩⟩ := hp.slices
    have HONE := Lib.hid hp.one
    obtain ⟨ty, fl, tsn, tag, win, ppid, st, ssn, outs, ins, gaps, dups, items, text⟩ := c
    clear hp hi
    dsimp only [cellsC] at *
    go_enter Try.func4, Try.ntmps4
    go_wp2_with fail
    refine (shown_any _).mono ?_
    rintro _ w1 ⟨rfl, hb1⟩
    have HX := Lib.hid ((hb1.block _ (by rw [World.size_alloc]; omega)).trans (heap_alloc_new w (.cells #[.int .i64 ty, .int .i64 fl, .int .u32 (tsn : Int), .int .u32 (tag : Int), .int .u32 (win : Int), .int .u32 (ppid : Int), .int .u16 (st : Int), .int .u16 (ssn : Int), .int .u16 (outs : Int), .int .u16 (ins : Int), .slice A1 gaps.length k1, .slice A2 dups.length k2, .slice A3 items.length k3, .string text] 28)))
    have HB := Lib.hid (((Below.refl _ w).alloc (Nat.le_refl _) (.cells #[.int .i64 ty, .int .i64 fl, .int .u32 (tsn : Int), .int .u32 (tag : Int), .int .u32 (win : Int), .int .u32 (ppid : Int), .int .u16 (st : Int), .int .u16 (ssn : Int), .int .u16 (outs : Int), .int .u16 (ins : Int), .slice A1 gaps.length k1, .slice A2 dups.length k2, .slice A3 items.length k3, .string text] 28)).trans (hb1.mono (by rw [World.size_alloc]; omega)))
    clear hb1
    have c0 : w1.cell? ⟨w.heap.size, 0, none⟩ = some (.int .i64 ty) := by rw [cell_in HX.out]; rfl
    have c1 : w1.cell? ⟨w.heap.size, 1, none⟩ = some (.int .i64 fl) := by rw [cell_in HX.out]; rfl
    have c2 : w1.cell? ⟨w.heap.size, 2, none⟩ = some (.int .u32 (tsn : Int)) := by rw [cell_in HX.out]; rfl
    have c3 : w1.cell? ⟨w.heap.size, 3, none⟩ = some (.int .u32 (tag : Int)) := by rw [cell_in HX.out]; rfl
    have c4 : w1.cell? ⟨w.heap.size, 4, none⟩ = some (.int .u32 (win : Int)) := by rw [cell_in HX.out]; rfl
    have c5 : w1.cell? ⟨w.heap.size, 5, none⟩ = some (.int .u32 (ppid : Int)) := by rw [cell_in HX.out]; rfl
    have c6 : w1.cell? ⟨w.heap.size, 6, none⟩ = some (.int .u16 (st : Int)) := by rw [cell_in HX.out]; rfl
    have c7 : w1.cell? ⟨w.heap.size, 7, none⟩ = some (.int .u16 (ssn : Int)) := by rw [cell_in HX.out]; rfl
    have c8 : w1.cell? ⟨w.heap.size, 8, none⟩ = some (.int .u16 (outs : Int)) := by rw [cell_in HX.out]; rfl
    have c9 : w1.cell? ⟨w.heap.size, 9, none⟩ = some (.int .u16 (ins : Int)) := by rw [cell_in HX.out]; rfl
    have c10 : w1.cell? ⟨w.heap.size, 10, none⟩ = some (.slice A1 gaps.length k1) := by rw [cell_in HX.out]; rfl
    have c11 : w1.cell? ⟨w.heap.size, 11, none⟩ = some (.slice A2 dups.length k2) := by rw [cell_in HX.out]; rfl
    have c12 : w1.cell? ⟨w.heap.size, 12, none⟩ = some (.slice A3 items.length k3) := by rw [cell_in HX.out]; rfl
    have c13 : w1.cell? ⟨w.heap.size, 13, none⟩ = some (.string text) := by rw [cell_in HX.out]; rfl
    go_wp2_with fail
    refine (HM.out _ (HP.out.below HB.out)).mono ?_
    rintro _ w2 ⟨rfl, hb⟩
    clear c0 c1 c2 c3 c4 c5 c6 c7 c8 c9 c10 c11 c12 c13
    replace HX := Lib.hid ((hb.block _ (Array.getElem?_eq_some_iff.1 HX.out).1).trans HX.out)
    replace HB := Lib.hid (HB.out.trans (hb.mono HB.out.size))
    clear hb
    have c0 : w2.cell? ⟨w.heap.size, 0, none⟩ = some (.int .i64 ty) := by rw [cell_in HX.out]; rfl
    have c1 : w2.cell? ⟨w.heap.size, 1, none⟩ = some (.int .i64 fl) := by rw [cell_in HX.out]; rfl
    have c2 : w2.cell? ⟨w.heap.size, 2, none⟩ = some (.int .u32 (tsn : Int)) := by rw [cell_in HX.out]; rfl
    have c3 : w2.cell? ⟨w.heap.size, 3, none⟩ = some (.int .u32 (tag : Int)) := by rw [cell_in HX.out]; rfl
    have c4 : w2.cell? ⟨w.heap.size, 4, none⟩ = some (.int .u32 (win : Int)) := by rw [cell_in HX.out]; rfl
    have c5 : w2.cell? ⟨w.heap.size, 5, none⟩ = some (.int .u32 (ppid : Int)) := by rw [cell_in HX.out]; rfl
    have c6 : w2.cell? ⟨w.heap.size, 6, none⟩ = some (.int .u16 (st : Int)) := by rw [cell_in HX.out]; rfl
    have c7 : w2.cell? ⟨w.heap.size, 7, none⟩ = some (.int .u16 (ssn : Int)) := by rw [cell_in HX.out]; rfl
    have c8 : w2.cell? ⟨w.heap.size, 8, none⟩ = some (.int .u16 (outs : Int)) := by rw [cell_in HX.out]; rfl
    have c9 : w2.cell? ⟨w.heap.size, 9, none⟩ = some (.int .u16 (ins : Int)) := by rw [cell_in HX.out]; rfl
    have c10 : w2.cell? ⟨w.heap.size, 10, none⟩ = some (.slice A1 gaps.length k1) := by rw [cell_in HX.out]; rfl
    have c11 : w2.cell? ⟨w.heap.size, 11, none⟩ = some (.slice A2 dups.length k2) := by rw [cell_in HX.out]; rfl
    have c12 : w2.cell? ⟨w.heap.size, 12, none⟩ = some (.slice A3 items.length k3) := by rw [cell_in HX.out]; rfl
    have c13 : w2.cell? ⟨w.heap.size, 13, none⟩ = some (.string text) := by rw [cell_in HX.out]; rfl
    go_wp2_with fail
    go_ret
    exact ⟨rfl, HB.out⟩
  rw [hs] at HM
  obtain ⟨s1, s2, s3, s4, s5⟩ := small_gives hs
  by_cases hm : 2000 < more.size
  case pos =>
    have hm' : (2000 : Int) < (more.size : Int) := by omega
    have HP := Lib.hid hp
    clear hs hm s1 s2 s3 s4 s5
    obtain ⟨⟨A1, k1, rfl⟩, ⟨A2, k2, rfl⟩, ⟨A3, k3, rfl⟩⟩ := hp.slices
    have HONE := Lib.hid hp.one
    obtain ⟨ty, fl, tsn, tag, win, ppid, st, ssn, outs, ins, gaps, dups, items, text⟩ := c
    clear hp hi
    dsimp only [cellsC] at *
    go_enter Try.func4, Try.ntmps4
    go_wp2_with fail
    refine (shown_any _).mono ?_
    rintro _ w1 ⟨rfl, hb1⟩
    have HX := Lib.hid ((hb1.block _ (by rw [World.size_alloc]; omega)).trans (heap_alloc_new w (.cells #[.int .i64 ty, .int .i64 fl, .int .u32 (tsn : Int), .int .u32 (tag : Int), .int .u32 (win : Int), .int .u32 (ppid : Int), .int .u16 (st : Int), .int .u16 (ssn : Int), .int .u16 (outs : Int), .int .u16 (ins : Int), .slice A1 gaps.length k1, .slice A2 dups.length k2, .slice A3 items.length k3, .string text] 28)))
    have HB := Lib.hid (((Below.refl _ w).alloc (Nat.le_refl _) (.cells #[.int .i64 ty, .int .i64 fl, .int .u32 (tsn : Int), .int .u32 (tag : Int), .int .u32 (win : Int), .int .u32 (ppid : Int), .int .u16 (st : Int), .int .u16 (ssn : Int), .int .u16 (outs : Int), .int .u16 (ins : Int), .slice A1 gaps.length k1, .slice A2 dups.length k2, .slice A3 items.length k3, .string text] 28)).trans (hb1.mono (by rw [World.size_alloc]; omega)))
    clear hb1
    have c0 : w1.cell? ⟨w.heap.size, 0, none⟩ = some (.int .i64 ty) := by rw [cell_in HX.out]; rfl
    have c1 : w1.cell? ⟨w.heap.size, 1, none⟩ = some (.int .i64 fl) := by rw [cell_in HX.out]; rfl
    have c2 : w1.cell? ⟨w.heap.size, 2, none⟩ = some (.int .u32 (tsn : Int)) := by rw [cell_in HX.out]; rfl
    have c3 : w1.cell? ⟨w.heap.size, 3, none⟩ = some (.int .u32 (tag : Int)) := by rw [cell_in HX.out]; rfl
    have c4 : w1.cell? ⟨w.heap.size, 4, none⟩ = some (.int .u32 (win : Int)) := by rw [cell_in HX.out]; rfl
    have c5 : w1.cell? ⟨w.heap.size, 5, none⟩ = some (.int .u32 (ppid : Int)) := by rw [cell_in HX.out]; rfl
    have c6 : w1.cell? ⟨w.heap.size, 6, none⟩ = some (.int .u16 (st : Int)) := by rw [cell_in HX.out]; rfl
    have c7 : w1.cell? ⟨w.heap.size, 7, none⟩ = some (.int .u16 (ssn : Int)) := by rw [cell_in HX.out]; rfl
    have c8 : w1.cell? ⟨w.heap.size, 8, none⟩ = some (.int .u16 (outs : Int)) := by rw [cell_in HX.out]; rfl
    have c9 : w1.cell? ⟨w.heap.size, 9, none⟩ = some (.int .u16 (ins : Int)) := by rw [cell_in HX.out]; rfl
    have c10 : w1.cell? ⟨w.heap.size, 10, none⟩ = some (.slice A1 gaps.length k1) := by rw [cell_in HX.out]; rfl
    have c11 : w1.cell? ⟨w.heap.size, 11, none⟩ = some (.slice A2 dups.length k2) := by rw [cell_in HX.out]; rfl
    have c12 : w1.cell? ⟨w.heap.size, 12, none⟩ = some (.slice A3 items.length k3) := by rw [cell_in HX.out]; rfl
    have c13 : w1.cell? ⟨w.heap.size, 13, none⟩ = some (.string text) := by rw [cell_in HX.out]; rfl
    go_wp2_with fail
    refine (HM.out _ (HP.out.below HB.out)).mono ?_
    rintro _ w2 ⟨rfl, hb⟩
    clear c0 c1 c2 c3 c4 c5 c6 c7 c8 c9 c10 c11 c12 c13
    replace HX := Lib.hid ((hb.block _ (Array.getElem?_eq_some_iff.1 HX.out).1).trans HX.out)
    replace HB := Lib.hid (HB.out.trans (hb.mono HB.out.size))
    clear hb
    have c0 : w2.cell? ⟨w.heap.size, 0, none⟩ = some (.int .i64 ty) := by rw [cell_in HX.out]; rfl
    have c1 : w2.cell? ⟨w.heap.size, 1, none⟩ = some (.int .i64 fl) := by rw [cell_in HX.out]; rfl
    have c2 : w2.cell? ⟨w.heap.size, 2, none⟩ = some (.int .u32 (tsn : Int)) := by rw [cell_in HX.out]; rfl
    have c3 : w2.cell? ⟨w.heap.size, 3, none⟩ = some (.int .u32 (tag : Int)) := by rw [cell_in HX.out]; rfl
    have c4 : w2.cell? ⟨w.heap.size, 4, none⟩ = some (.int .u32 (win : Int)) := by rw [cell_in HX.out]; rfl
    have c5 : w2.cell? ⟨w.heap.size, 5, none⟩ = some (.int .u32 (ppid : Int)) := by rw [cell_in HX.out]; rfl
    have c6 : w2.cell? ⟨w.heap.size, 6, none⟩ = some (.int .u16 (st : Int)) := by rw [cell_in HX.out]; rfl
    have c7 : w2.cell? ⟨w.heap.size, 7, none⟩ = some (.int .u16 (ssn : Int)) := by rw [cell_in HX.out]; rfl
    have c8 : w2.cell? ⟨w.heap.size, 8, none⟩ = some (.int .u16 (outs : Int)) := by rw [cell_in HX.out]; rfl
    have c9 : w2.cell? ⟨w.heap.size, 9, none⟩ = some (.int .u16 (ins : Int)) := by rw [cell_in HX.out]; rfl
    have c10 : w2.cell? ⟨w.heap.size, 10, none⟩ = some (.slice A1 gaps.length k1) := by rw [cell_in HX.out]; rfl
    have c11 : w2.cell? ⟨w.heap.size, 11, none⟩ = some (.slice A2 dups.length k2) := by rw [cell_in HX.out]; rfl
    have c12 : w2.cell? ⟨w.heap.size, 12, none⟩ = some (.slice A3 items.length k3) := by rw [cell_in HX.out]; rfl
    have c13 : w2.cell? ⟨w.heap.size, 13, none⟩ = some (.string text) := by rw [cell_in HX.out]; rfl
    go_wp2_with fail
    go_ret
    exact ⟨rfl, HB.out⟩
  have hm' : (more.size : Int) ≤ 2000 := by omega
  have HU := Lib.hid (fun W hq => ckbuild_any c hi.wf (by omega) (by omega) (by omega) (fun x hx => by have := s5 x hx; omega) (by omega) g d it W hq)
  by_cases hb0 : (buildC c).2 = 0
  case neg =>
    have HR := Lib.hid (fun W hq => ckright_any c hi.wf (by omega) (by omega) (by omega) (fun x hx => by have := s5 x hx; omega) (by omega) g d it W hq)
    have HZ := Lib.hid (fun W hq => cksize_any c hi.wf (by omega) (by omega) (by omega) (fun x hx => by have := s5 x hx; omega) (by omega) g d it W hq)
    rw [decide_eq_false hb0] at HR
    rw [buildC_none hb0] at HZ HU
    have hn : (((buildC c).2 : Nat) : Int) ≠ 0 := by omega
    have hz : noB.size = 0 := rfl
    have hnb : noB = ⟨#[]⟩ := rfl
    rw [hz] at HZ
    rw [hnb] at HU
    generalize (buildC c).2 = e0 at *
    have HP := Lib.hid hp
    clear hs hb0 s1 s2 s3 s4 s5 hm hz hnb
    obtain ⟨⟨A1, k1, rfl⟩, ⟨A2, k2, rfl⟩, ⟨A3, k3, rfl⟩⟩ := hp.slices
    have HONE := Lib.hid hp.one
    obtain ⟨ty, fl, tsn, tag, win, ppid, st, ssn, outs, ins, gaps, dups, items, text⟩ := c
    clear hp hi
    dsimp only [cellsC] at *
    go_enter Try.func4, Try.ntmps4
    go_wp2_with fail
    refine (shown_any _).mono ?_
    rintro _ w1 ⟨rfl, hb1⟩
    have HX := Lib.hid ((hb1.block _ (by rw [World.size_alloc]; omega)).trans (heap_alloc_new w (.cells #[.int .i64 ty, .int .i64 fl, .int .u32 (tsn : Int), .int .u32 (tag : Int), .int .u32 (win : Int), .int .u32 (ppid : Int), .int .u16 (st : Int), .int .u16 (ssn : Int), .int .u16 (outs : Int), .int .u16 (ins : Int), .slice A1 gaps.length k1, .slice A2 dups.length k2, .slice A3 items.length k3, .string text] 28)))
    have HB := Lib.hid (((Below.refl _ w).alloc (Nat.le_refl _) (.cells #[.int .i64 ty, .int .i64 fl, .int .u32 (tsn : Int), .int .u32 (tag : Int), .int .u32 (win : Int), .int .u32 (ppid : Int), .int .u16 (st : Int), .int .u16 (ssn : Int), .int .u16 (outs : Int), .int .u16 (ins : Int), .slice A1 gaps.length k1, .slice A2 dups.length k2, .slice A3 items.length k3, .string text] 28)).trans (hb1.mono (by rw [World.size_alloc]; omega)))
    clear hb1
    have c0 : w1.cell? ⟨w.heap.size, 0, none⟩ = some (.int .i64 ty) := by rw [cell_in HX.out]; rfl
    have c1 : w1.cell? ⟨w.heap.size, 1, none⟩ = some (.int .i64 fl) := by rw [cell_in HX.out]; rfl
    have c2 : w1.cell? ⟨w.heap.size, 2, none⟩ = some (.int .u32 (tsn : Int)) := by rw [cell_in HX.out]; rfl
    have c3 : w1.cell? ⟨w.heap.size, 3, none⟩ = some (.int .u32 (tag : Int)) := by rw [cell_in HX.out]; rfl
    have c4 : w1.cell? ⟨w.heap.size, 4, none⟩ = some (.int .u32 (win : Int)) := by rw [cell_in HX.out]; rfl
    have c5 : w1.cell? ⟨w.heap.size, 5, none⟩ = some (.int .u32 (ppid : Int)) := by rw [cell_in HX.out]; rfl
    have c6 : w1.cell? ⟨w.heap.size, 6, none⟩ = some (.int .u16 (st : Int)) := by rw [cell_in HX.out]; rfl
    have c7 : w1.cell? ⟨w.heap.size, 7, none⟩ = some (.int .u16 (ssn : Int)) := by rw [cell_in HX.out]; rfl
    have c8 : w1.cell? ⟨w.heap.size, 8, none⟩ = some (.int .u16 (outs : Int)) := by rw [cell_in HX.out]; rfl
    have c9 : w1.cell? ⟨w.heap.size, 9, none⟩ = some (.int .u16 (ins : Int)) := by rw [cell_in HX.out]; rfl
    have c10 : w1.cell? ⟨w.heap.size, 10, none⟩ = some (.slice A1 gaps.length k1) := by rw [cell_in HX.out]; rfl
    have c11 : w1.cell? ⟨w.heap.size, 11, none⟩ = some (.slice A2 dups.length k2) := by rw [cell_in HX.out]; rfl
    have c12 : w1.cell? ⟨w.heap.size, 12, none⟩ = some (.slice A3 items.length k3) := by rw [cell_in HX.out]; rfl
    have c13 : w1.cell? ⟨w.heap.size, 13, none⟩ = some (.string text) := by rw [cell_in HX.out]; rfl
    go_wp2_with fail
    refine (HM.out _ (HP.out.below HB.out)).mono ?_
    rintro _ w2 ⟨rfl, hb⟩
    clear c0 c1 c2 c3 c4 c5 c6 c7 c8 c9 c10 c11 c12 c13
    replace HX := Lib.hid ((hb.block _ (Array.getElem?_eq_some_iff.1 HX.out).1).trans HX.out)
    replace HB := Lib.hid (HB.out.trans (hb.mono HB.out.size))
    clear hb
    have c0 : w2.cell? ⟨w.heap.size, 0, none⟩ = some (.int .i64 ty) := by rw [cell_in HX.out]; rfl
    have c1 : w2.cell? ⟨w.heap.size, 1, none⟩ = some (.int .i64 fl) := by rw [cell_in HX.out]; rfl
    have c2 : w2.cell? ⟨w.heap.size, 2, none⟩ = some (.int .u32 (tsn : Int)) := by rw [cell_in HX.out]; rfl
    have c3 : w2.cell? ⟨w.heap.size, 3, none⟩ = some (.int .u32 (tag : Int)) := by rw [cell_in HX.out]; rfl
    have c4 : w2.cell? ⟨w.heap.size, 4, none⟩ = some (.int .u32 (win : Int)) := by rw [cell_in HX.out]; rfl
    have c5 : w2.cell? ⟨w.heap.size, 5, none⟩ = some (.int .u32 (ppid : Int)) := by rw [cell_in HX.out]; rfl
    have c6 : w2.cell? ⟨w.heap.size, 6, none⟩ = some (.int .u16 (st : Int)) := by rw [cell_in HX.out]; rfl
    have c7 : w2.cell? ⟨w.heap.size, 7, none⟩ = some (.int .u16 (ssn : Int)) := by rw [cell_in HX.out]; rfl
    have c8 : w2.cell? ⟨w.heap.size, 8, none⟩ = some (.int .u16 (outs : Int)) := by rw [cell_in HX.out]; rfl
    have c9 : w2.cell? ⟨w.heap.size, 9, none⟩ = some (.int .u16 (ins : Int)) := by rw [cell_in HX.out]; rfl
    have c10 : w2.cell? ⟨w.heap.size, 10, none⟩ = some (.slice A1 gaps.length k1) := by rw [cell_in HX.out]; rfl
    have c11 : w2.cell? ⟨w.heap.size, 11, none⟩ = some (.slice A2 dups.length k2) := by rw [cell_in HX.out]; rfl
    have c12 : w2.cell? ⟨w.heap.size, 12, none⟩ = some (.slice A3 items.length k3) := by rw [cell_in HX.out]; rfl
    have c13 : w2.cell? ⟨w.heap.size, 13, none⟩ = some (.string text) := by rw [cell_in HX.out]; rfl
    go_wp2_with fail
    refine (HU.out _ (HP.out.below HB.out)).mono ?_
    rintro _ w3 ⟨rfl, hb⟩
    clear c0 c1 c2 c3 c4 c5 c6 c7 c8 c9 c10 c11 c12 c13
    replace HX := Lib.hid ((hb.block _ (Array.getElem?_eq_some_iff.1 HX.out).1).trans HX.out)
    replace HB := Lib.hid (HB.out.trans (hb.mono HB.out.size))
    clear hb
    have c0 : w3.cell? ⟨w.heap.size, 0, none⟩ = some (.int .i64 ty) := by rw [cell_in HX.out]; rfl
    have c1 : w3.cell? ⟨w.heap.size, 1, none⟩ = some (.int .i64 fl) := by rw [cell_in HX.out]; rfl
    have c2 : w3.cell? ⟨w.heap.size, 2, none⟩ = some (.int .u32 (tsn : Int)) := by rw [cell_in HX.out]; rfl
    have c3 : w3.cell? ⟨w.heap.size, 3, none⟩ = some (.int .u32 (tag : Int)) := by rw [cell_in HX.out]; rfl
    have c4 : w3.cell? ⟨w.heap.size, 4, none⟩ = some (.int .u32 (win : Int)) := by rw [cell_in HX.out]; rfl
    have c5 : w3.cell? ⟨w.heap.size, 5, none⟩ = some (.int .u32 (ppid : Int)) := by rw [cell_in HX.out]; rfl
    have c6 : w3.cell? ⟨w.heap.size, 6, none⟩ = some (.int .u16 (st : Int)) := by rw [cell_in HX.out]; rfl
    have c7 : w3.cell? ⟨w.heap.size, 7, none⟩ = some (.int .u16 (ssn : Int)) := by rw [cell_in HX.out]; rfl
    have c8 : w3.cell? ⟨w.heap.size, 8, none⟩ = some (.int .u16 (outs : Int)) := by rw [cell_in HX.out]; rfl
    have c9 : w3.cell? ⟨w.heap.size, 9, none⟩ = some (.int .u16 (ins : Int)) := by rw [cell_in HX.out]; rfl
    have c10 : w3.cell? ⟨w.heap.size, 10, none⟩ = some (.slice A1 gaps.length k1) := by rw [cell_in HX.out]; rfl
    have c11 : w3.cell? ⟨w.heap.size, 11, none⟩ = some (.slice A2 dups.length k2) := by rw [cell_in HX.out]; rfl
    have c12 : w3.cell? ⟨w.heap.size, 12, none⟩ = some (.slice A3 items.length k3) := by rw [cell_in HX.out]; rfl
    have c13 : w3.cell? ⟨w.heap.size, 13, none⟩ = some (.string text) := by rw [cell_in HX.out]; rfl
    go_wp2_with fail
    refine (HR.out _ (HP.out.below HB.out)).mono ?_
    rintro _ w4 ⟨rfl, hb⟩
    clear c0 c1 c2 c3 c4 c5 c6 c7 c8 c9 c10 c11 c12 c13
    replace HX := Lib.hid ((hb.block _ (Array.getElem?_eq_some_iff.1 HX.out).1).trans HX.out)
    replace HB := Lib.hid (HB.out.trans (hb.mono HB.out.size))
    clear hb
    have c0 : w4.cell? ⟨w.heap.size, 0, none⟩ = some (.int .i64 ty) := by rw [cell_in HX.out]; rfl
    have c1 : w4.cell? ⟨w.heap.size, 1, none⟩ = some (.int .i64 fl) := by rw [cell_in HX.out]; rfl
    have c2 : w4.cell? ⟨w.heap.size, 2, none⟩ = some (.int .u32 (tsn : Int)) := by rw [cell_in HX.out]; rfl
    have c3 : w4.cell? ⟨w.heap.size, 3, none⟩ = some (.int .u32 (tag : Int)) := by rw [cell_in HX.out]; rfl
    have c4 : w4.cell? ⟨w.heap.size, 4, none⟩ = some (.int .u32 (win : Int)) := by rw [cell_in HX.out]; rfl
    have c5 : w4.cell? ⟨w.heap.size, 5, none⟩ = some (.int .u32 (ppid : Int)) := by rw [cell_in HX.out]; rfl
    have c6 : w4.cell? ⟨w.heap.size, 6, none⟩ = some (.int .u16 (st : Int)) := by rw [cell_in HX.out]; rfl
    have c7 : w4.cell? ⟨w.heap.size, 7, none⟩ = some (.int .u16 (ssn : Int)) := by rw [cell_in HX.out]; rfl
    have c8 : w4.cell? ⟨w.heap.size, 8, none⟩ = some (.int .u16 (outs : Int)) := by rw [cell_in HX.out]; rfl
    have c9 : w4.cell? ⟨w.heap.size, 9, none⟩ = some (.int .u16 (ins : Int)) := by rw [cell_in HX.out]; rfl
    have c10 : w4.cell? ⟨w.heap.size, 10, none⟩ = some (.slice A1 gaps.length k1) := by rw [cell_in HX.out]; rfl
    have c11 : w4.cell? ⟨w.heap.size, 11, none⟩ = some (.slice A2 dups.length k2) := by rw [cell_in HX.out]; rfl
    have c12 : w4.cell? ⟨w.heap.size, 12, none⟩ = some (.slice A3 items.length k3) := by rw [cell_in HX.out]; rfl
    have c13 : w4.cell? ⟨w.heap.size, 13, none⟩ = some (.string text) := by rw [cell_in HX.out]; rfl
    go_wp2_with fail
    refine (HZ.out _ (HP.out.below HB.out)).mono ?_
    rintro _ w5 ⟨rfl, hb⟩
    clear c0 c1 c2 c3 c4 c5 c6 c7 c8 c9 c10 c11 c12 c13
    replace HX := Lib.hid ((hb.block _ (Array.getElem?_eq_some_iff.1 HX.out).1).trans HX.out)
    replace HB := Lib.hid (HB.out.trans (hb.mono HB.out.size))
    clear hb
    have c0 : w5.cell? ⟨w.heap.size, 0, none⟩ = some (.int .i64 ty) := by rw [cell_in HX.out]; rfl
    have c1 : w5.cell? ⟨w.heap.size, 1, none⟩ = some (.int .i64 fl) := by rw [cell_in HX.out]; rfl
    have c2 : w5.cell? ⟨w.heap.size, 2, none⟩ = some (.int .u32 (tsn : Int)) := by rw [cell_in HX.out]; rfl
    have c3 : w5.cell? ⟨w.heap.size, 3, none⟩ = some (.int .u32 (tag : Int)) := by rw [cell_in HX.out]; rfl
    have c4 : w5.cell? ⟨w.heap.size, 4, none⟩ = some (.int .u32 (win : Int)) := by rw [cell_in HX.out]; rfl
    have c5 : w5.cell? ⟨w.heap.size, 5, none⟩ = some (.int .u32 (ppid : Int)) := by rw [cell_in HX.out]; rfl
    have c6 : w5.cell? ⟨w.heap.size, 6, none⟩ = some (.int .u16 (st : Int)) := by rw [cell_in HX.out]; rfl
    have c7 : w5.cell? ⟨w.heap.size, 7, none⟩ = some (.int .u16 (ssn : Int)) := by rw [cell_in HX.out]; rfl
    have c8 : w5.cell? ⟨w.heap.size, 8, none⟩ = some (.int .u16 (outs : Int)) := by rw [cell_in HX.out]; rfl
    have c9 : w5.cell? ⟨w.heap.size, 9, none⟩ = some (.int .u16 (ins : Int)) := by rw [cell_in HX.out]; rfl
    have c10 : w5.cell? ⟨w.heap.size, 10, none⟩ = some (.slice A1 gaps.length k1) := by rw [cell_in HX.out]; rfl
    have c11 : w5.cell? ⟨w.heap.size, 11, none⟩ = some (.slice A2 dups.length k2) := by rw [cell_in HX.out]; rfl
    have c12 : w5.cell? ⟨w.heap.size, 12, none⟩ = some (.slice A3 items.length k3) := by rw [cell_in HX.out]; rfl
    have c13 : w5.cell? ⟨w.heap.size, 13, none⟩ = some (.string text) := by rw [cell_in HX.out]; rfl
    go_wp2_with fail
    go_ret
    exact ⟨rfl, HB.out⟩
  have H3 := Lib.hid (fun W => reread_one hi.wf hb0 W)
  have H4 := Lib.hid (fun W => reread_any hi.wf hb0 more (by omega) W)
  have H7 := Lib.hid (fun g d it g' d' it' W hp hp' => same_self hb0 g d it g' d' it' W hp hp')
  have HZ := Lib.hid (fun W hq => sized_any hi.wf hb0 g d it W hq)
  obtain ⟨r1, r2, r3⟩ := built_size hb0
  rw [hb0] at HU
  generalize (buildC c).1 = b at *
  have HP := Lib.hid hp
  clear hs hb0 s1 s2 s3 s4 s5 hm
  obtain ⟨⟨A1, k1, rfl⟩, ⟨A2, k2, rfl⟩, ⟨A3, k3, rfl⟩⟩ := hp.slices
  have HONE := Lib.hid hp.one
  obtain ⟨ty, fl, tsn, tag, win, ppid, st, ssn, outs, ins, gaps, dups, items, text⟩ := c
  clear hp hi
  dsimp only [cellsC] at *
  go_enter Try.func4, Try.ntmps4
  go_wp2_with fail
  refine (shown_any _).mono ?_
  rintro _ w1 ⟨rfl, hb1⟩
  have HX := Lib.hid ((hb1.block _ (by rw [World.size_alloc]; omega)).trans (heap_alloc_new w (.cells #[.int .i64 ty, .int .i64 fl, .int .u32 (tsn : Int), .int .u32 (tag : Int), .int .u32 (win : Int), .int .u32 (ppid : Int), .int .u16 (st : Int), .int .u16 (ssn : Int), .int .u16 (outs : Int), .int .u16 (ins : Int), .slice A1 gaps.length k1, .slice A2 dups.length k2, .slice A3 items.length k3, .string text] 28)))
  have HB := Lib.hid (((Below.refl _ w).alloc (Nat.le_refl _) (.cells #[.int .i64 ty, .int .i64 fl, .int .u32 (tsn : Int), .int .u32 (tag : Int), .int .u32 (win : Int), .int .u32 (ppid : Int), .int .u16 (st : Int), .int .u16 (ssn : Int), .int .u16 (outs : Int), .int .u16 (ins : Int), .slice A1 gaps.length k1, .slice A2 dups.length k2, .slice A3 items.length k3, .string text] 28)).trans (hb1.mono (by rw [World.size_alloc]; omega)))
  clear hb1
  have c0 : w1.cell? ⟨w.heap.size, 0, none⟩ = some (.int .i64 ty) := by rw [cell_in HX.out]; rfl
  have c1 : w1.cell? ⟨w.heap.size, 1, none⟩ = some (.int .i64 fl) := by rw [cell_in HX.out]; rfl
  have c2 : w1.cell? ⟨w.heap.size, 2, none⟩ = some (.int .u32 (tsn : Int)) := by rw [cell_in HX.out]; rfl
  have c3 : w1.cell? ⟨w.heap.size, 3, none⟩ = some (.int .u32 (tag : Int)) := by rw [cell_in HX.out]; rfl
  have c4 : w1.cell? ⟨w.heap.size, 4, none⟩ = some (.int .u32 (win : Int)) := by rw [cell_in HX.out]; rfl
  have c5 : w1.cell? ⟨w.heap.size, 5, none⟩ = some (.int .u32 (ppid : Int)) := by rw [cell_in HX.out]; rfl
  have c6 : w1.cell? ⟨w.heap.size, 6, none⟩ = some (.int .u16 (st : Int)) := by rw [cell_in HX.out]; rfl
  have c7 : w1.cell? ⟨w.heap.size, 7, none⟩ = some (.int .u16 (ssn : Int)) := by rw [cell_in HX.out]; rfl
  have c8 : w1.cell? ⟨w.heap.size, 8, none⟩ = some (.int .u16 (outs : Int)) := by rw [cell_in HX.out]; rfl
  have c9 : w1.cell? ⟨w.heap.size, 9, none⟩ = some (.int .u16 (ins : Int)) := by rw [cell_in HX.out]; rfl
  have c10 : w1.cell? ⟨w.heap.size, 10, none⟩ = some (.slice A1 gaps.length k1) := by rw [cell_in HX.out]; rfl
  have c11 : w1.cell? ⟨w.heap.size, 11, none⟩ = some (.slice A2 dups.length k2) := by rw [cell_in HX.out]; rfl
  have c12 : w1.cell? ⟨w.heap.size, 12, none⟩ = some (.slice A3 items.length k3) := by rw [cell_in HX.out]; rfl
  have c13 : w1.cell? ⟨w.heap.size, 13, none⟩ = some (.string text) := by rw [cell_in HX.out]; rfl
  go_wp2_with fail
  refine (HM.out _ (HP.out.below HB.out)).mono ?_
  rintro _ w2 ⟨rfl, hb⟩
  clear c0 c1 c2 c3 c4 c5 c6 c7 c8 c9 c10 c11 c12 c13
  replace HX := Lib.hid ((hb.block _ (Array.getElem?_eq_some_iff.1 HX.out).1).trans HX.out)
  replace HB := Lib.hid (HB.out.trans (hb.mono HB.out.size))
  clear hb
  have c0 : w2.cell? ⟨w.heap.size, 0, none⟩ = some (.int .i64 ty) := by rw [cell_in HX.out]; rfl
  have c1 : w2.cell? ⟨w.heap.size, 1, none⟩ = some (.int .i64 fl) := by rw [cell_in HX.out]; rfl
  have c2 : w2.cell? ⟨w.heap.size, 2, none⟩ = some (.int .u32 (tsn : Int)) := by rw [cell_in HX.out]; rfl
  have c3 : w2.cell? ⟨w.heap.size, 3, none⟩ = some (.int .u32 (tag : Int)) := by rw [cell_in HX.out]; rfl
  have c4 : w2.cell? ⟨w.heap.size, 4, none⟩ = some (.int .u32 (win : Int)) := by rw [cell_in HX.out]; rfl
  have c5 : w2.cell? ⟨w.heap.size, 5, none⟩ = some (.int .u32 (ppid : Int)) := by rw [cell_in HX.out]; rfl
  have c6 : w2.cell? ⟨w.heap.size, 6, none⟩ = some (.int .u16 (st : Int)) := by rw [cell_in HX.out]; rfl
  have c7 : w2.cell? ⟨w.heap.size, 7, none⟩ = some (.int .u16 (ssn : Int)) := by rw [cell_in HX.out]; rfl
  have c8 : w2.cell? ⟨w.heap.size, 8, none⟩ = some (.int .u16 (outs : Int)) := by rw [cell_in HX.out]; rfl
  have c9 : w2.cell? ⟨w.heap.size, 9, none⟩ = some (.int .u16 (ins : Int)) := by rw [cell_in HX.out]; rfl
  have c10 : w2.cell? ⟨w.heap.size, 10, none⟩ = some (.slice A1 gaps.length k1) := by rw [cell_in HX.out]; rfl
  have c11 : w2.cell? ⟨w.heap.size, 11, none⟩ = some (.slice A2 dups.length k2) := by rw [cell_in HX.out]; rfl
  have c12 : w2.cell? ⟨w.heap.size, 12, none⟩ = some (.slice A3 items.length k3) := by rw [cell_in HX.out]; rfl
  have c13 : w2.cell? ⟨w.heap.size, 13, none⟩ = some (.string text) := by rw [cell_in HX.out]; rfl
  go_wp2_with fail
  refine (HU.out _ (HP.out.below HB.out)).mono ?_
  rintro _ w3 ⟨rfl, hb⟩
  clear c0 c1 c2 c3 c4 c5 c6 c7 c8 c9 c10 c11 c12 c13
  replace HX := Lib.hid ((hb.block _ (Array.getElem?_eq_some_iff.1 HX.out).1).trans HX.out)
  replace HB := Lib.hid (HB.out.trans (hb.mono HB.out.size))
  clear hb
  have c0 : w3.cell? ⟨w.heap.size, 0, none⟩ = some (.int .i64 ty) := by rw [cell_in HX.out]; rfl
  have c1 : w3.cell? ⟨w.heap.size, 1, none⟩ = some (.int .i64 fl) := by rw [cell_in HX.out]; rfl
  have c2 : w3.cell? ⟨w.heap.size, 2, none⟩ = some (.int .u32 (tsn : Int)) := by rw [cell_in HX.out]; rfl
  have c3 : w3.cell? ⟨w.heap.size, 3, none⟩ = some (.int .u32 (tag : Int)) := by rw [cell_in HX.out]; rfl
  have c4 : w3.cell? ⟨w.heap.size, 4, none⟩ = some (.int .u32 (win : Int)) := by rw [cell_in HX.out]; rfl
  have c5 : w3.cell? ⟨w.heap.size, 5, none⟩ = some (.int .u32 (ppid : Int)) := by rw [cell_in HX.out]; rfl
  have c6 : w3.cell? ⟨w.heap.size, 6, none⟩ = some (.int .u16 (st : Int)) := by rw [cell_in HX.out]; rfl
  have c7 : w3.cell? ⟨w.heap.size, 7, none⟩ = some (.int .u16 (ssn : Int)) := by rw [cell_in HX.out]; rfl
  have c8 : w3.cell? ⟨w.heap.size, 8, none⟩ = some (.int .u16 (outs : Int)) := by rw [cell_in HX.out]; rfl
  have c9 : w3.cell? ⟨w.heap.size, 9, none⟩ = some (.int .u16 (ins : Int)) := by rw [cell_in HX.out]; rfl
  have c10 : w3.cell? ⟨w.heap.size, 10, none⟩ = some (.slice A1 gaps.length k1) := by rw [cell_in HX.out]; rfl
  have c11 : w3.cell? ⟨w.heap.size, 11, none⟩ = some (.slice A2 dups.length k2) := by rw [cell_in HX.out]; rfl
  have c12 : w3.cell? ⟨w.heap.size, 12, none⟩ = some (.slice A3 items.length k3) := by rw [cell_in HX.out]; rfl
  have c13 : w3.cell? ⟨w.heap.size, 13, none⟩ = some (.string text) := by rw [cell_in HX.out]; rfl
  replace HP := Lib.hid (HP.out.below HB.out)
  go_wp2_with fail
  refine (H3.out _).mono ?_
  rintro _ w4 ⟨g, d, it, rfl, hp, hb⟩
  clear c0 c1 c2 c3 c4 c5 c6 c7 c8 c9 c10 c11 c12 c13
  have hone := hp.one
  obtain ⟨⟨B1, l1, rfl⟩, ⟨B2, l2, rfl⟩, ⟨B3, l3, rfl⟩⟩ := hp.slices
  have HPb := Lib.hid hp
  have HONEb := Lib.hid hone
  replace HX := Lib.hid ((hb.block _ (Array.getElem?_eq_some_iff.1 HX.out).1).trans HX.out)
  replace HB := Lib.hid (HB.out.trans (hb.mono HB.out.size))
  replace HP := Lib.hid (HP.out.below hb)
  clear hp hb hone
  dsimp only [cellsC] at *
  have HXb := Lib.hid (heap_alloc_new w4 (.cells #[.int .i64 ty, .int .i64 fl, .int .u32 (tsn : Int), .int .u32 (tag : Int), .int .u32 (win : Int), .int .u32 (ppid : Int), .int .u16 (st : Int), .int .u16 (ssn : Int), .int .u16 (outs : Int), .int .u16 (ins : Int), .slice B1 gaps.length l1, .slice B2 dups.length l2, .slice B3 items.length l3, .string text] 28))
  replace HX := Lib.hid ((Below.heap_alloc w4 (.cells #[.int .i64 ty, .int .i64 fl, .int .u32 (tsn : Int), .int .u32 (tag : Int), .int .u32 (win : Int), .int .u32 (ppid : Int), .int .u16 (st : Int), .int .u16 (ssn : Int), .int .u16 (outs : Int), .int .u16 (ins : Int), .slice B1 gaps.length l1, .slice B2 dups.length l2, .slice B3 items.length l3, .string text] 28) _ (Array.getElem?_eq_some_iff.1 HX.out).1).trans HX.out)
  replace HP := Lib.hid (HP.out.below ((Below.refl _ w4).alloc (Nat.le_refl _) (.cells #[.int .i64 ty, .int .i64 fl, .int .u32 (tsn : Int), .int .u32 (tag : Int), .int .u32 (win : Int), .int .u32 (ppid : Int), .int .u16 (st : Int), .int .u16 (ssn : Int), .int .u16 (outs : Int), .int .u16 (ins : Int), .slice B1 gaps.length l1, .slice B2 dups.length l2, .slice B3 items.length l3, .string text] 28)))
  replace HPb := Lib.hid (HPb.out.below ((Below.refl _ w4).alloc (Nat.le_refl _) (.cells #[.int .i64 ty, .int .i64 fl, .int .u32 (tsn : Int), .int .u32 (tag : Int), .int .u32 (win : Int), .int .u32 (ppid : Int), .int .u16 (st : Int), .int .u16 (ssn : Int), .int .u16 (outs : Int), .int .u16 (ins : Int), .slice B1 gaps.length l1, .slice B2 dups.length l2, .slice B3 items.length l3, .string text] 28)))
  replace HB := Lib.hid (HB.out.alloc HB.out.size (.cells #[.int .i64 ty, .int .i64 fl, .int .u32 (tsn : Int), .int .u32 (tag : Int), .int .u32 (win : Int), .int .u32 (ppid : Int), .int .u16 (st : Int), .int .u16 (ssn : Int), .int .u16 (outs : Int), .int .u16 (ins : Int), .slice B1 gaps.length l1, .slice B2 dups.length l2, .slice B3 items.length l3, .string text] 28))
  go_wp2_with fail
  refine (H4.out _).mono ?_
  rintro _ w5 ⟨g, d, it, rfl, hp, hb⟩
  have hone := hp.one
  obtain ⟨⟨D1, m1, rfl⟩, ⟨D2, m2, rfl⟩, ⟨D3, m3, rfl⟩⟩ := hp.slices
  have HPc := Lib.hid hp
  have HONEc := Lib.hid hone
  replace HX := Lib.hid ((hb.block _ (Array.getElem?_eq_some_iff.1 HX.out).1).trans HX.out)
  replace HXb := Lib.hid ((hb.block _ (Array.getElem?_eq_some_iff.1 HXb.out).1).trans HXb.out)
  replace HB := Lib.hid (HB.out.trans (hb.mono HB.out.size))
  replace HP := Lib.hid (HP.out.below hb)
  replace HPb := Lib.hid (HPb.out.below hb)
  clear hp hb hone
  dsimp only [cellsC] at *
  have hlt1 : w.heap.size < w5.heap.size := (Array.getElem?_eq_some_iff.1 HX.out).1
  have hlt2 : w4.heap.size < w5.heap.size := (Array.getElem?_eq_some_iff.1 HXb.out).1
  have c0 : w5.cell? ⟨w.heap.size, 0, none⟩ = some (.int .i64 ty) := by rw [cell_in HX.out]; rfl
  have c1 : w5.cell? ⟨w.heap.size, 1, none⟩ = some (.int .i64 fl) := by rw [cell_in HX.out]; rfl
  have c2 : w5.cell? ⟨w.heap.size, 2, none⟩ = some (.int .u32 (tsn : Int)) := by rw [cell_in HX.out]; rfl
  have c3 : w5.cell? ⟨w.heap.size, 3, none⟩ = some (.int .u32 (tag : Int)) := by rw [cell_in HX.out]; rfl
  have c4 : w5.cell? ⟨w.heap.size, 4, none⟩ = some (.int .u32 (win : Int)) := by rw [cell_in HX.out]; rfl
  have c5 : w5.cell? ⟨w.heap.size, 5, none⟩ = some (.int .u32 (ppid : Int)) := by rw [cell_in HX.out]; rfl
  have c6 : w5.cell? ⟨w.heap.size, 6, none⟩ = some (.int .u16 (st : Int)) := by rw [cell_in HX.out]; rfl
  have c7 : w5.cell? ⟨w.heap.size, 7, none⟩ = some (.int .u16 (ssn : Int)) := by rw [cell_in HX.out]; rfl
  have c8 : w5.cell? ⟨w.heap.size, 8, none⟩ = some (.int .u16 (outs : Int)) := by rw [cell_in HX.out]; rfl
  have c9 : w5.cell? ⟨w.heap.size, 9, none⟩ = some (.int .u16 (ins : Int)) := by rw [cell_in HX.out]; rfl
  have c10 : w5.cell? ⟨w.heap.size, 10, none⟩ = some (.slice A1 gaps.length k1) := by rw [cell_in HX.out]; rfl
  have c11 : w5.cell? ⟨w.heap.size, 11, none⟩ = some (.slice A2 dups.length k2) := by rw [cell_in HX.out]; rfl
  have c12 : w5.cell? ⟨w.heap.size, 12, none⟩ = some (.slice A3 items.length k3) := by rw [cell_in HX.out]; rfl
  have c13 : w5.cell? ⟨w.heap.size, 13, none⟩ = some (.string text) := by rw [cell_in HX.out]; rfl
  have d0 : w5.cell? ⟨w4.heap.size, 0, none⟩ = some (.int .i64 ty) := by rw [cell_in HXb.out]; rfl
  have d1 : w5.cell? ⟨w4.heap.size, 1, none⟩ = some (.int .i64 fl) := by rw [cell_in HXb.out]; rfl
  have d2 : w5.cell? ⟨w4.heap.size, 2, none⟩ = some (.int .u32 (tsn : Int)) := by rw [cell_in HXb.out]; rfl
  have d3 : w5.cell? ⟨w4.heap.size, 3, none⟩ = some (.int .u32 (tag : Int)) := by rw [cell_in HXb.out]; rfl
  have d4 : w5.cell? ⟨w4.heap.size, 4, none⟩ = some (.int .u32 (win : Int)) := by rw [cell_in HXb.out]; rfl
  have d5 : w5.cell? ⟨w4.heap.size, 5, none⟩ = some (.int .u32 (ppid : Int)) := by rw [cell_in HXb.out]; rfl
  have d6 : w5.cell? ⟨w4.heap.size, 6, none⟩ = some (.int .u16 (st : Int)) := by rw [cell_in HXb.out]; rfl
  have d7 : w5.cell? ⟨w4.heap.size, 7, none⟩ = some (.int .u16 (ssn : Int)) := by rw [cell_in HXb.out]; rfl
  have d8 : w5.cell? ⟨w4.heap.size, 8, none⟩ = some (.int .u16 (outs : Int)) := by rw [cell_in HXb.out]; rfl
  have d9 : w5.cell? ⟨w4.heap.size, 9, none⟩ = some (.int .u16 (ins : Int)) := by rw [cell_in HXb.out]; rfl
  have d10 : w5.cell? ⟨w4.heap.size, 10, none⟩ = some (.slice B1 gaps.length l1) := by rw [cell_in HXb.out]; rfl
  have d11 : w5.cell? ⟨w4.heap.size, 11, none⟩ = some (.slice B2 dups.length l2) := by rw [cell_in HXb.out]; rfl
  have d12 : w5.cell? ⟨w4.heap.size, 12, none⟩ = some (.slice B3 items.length l3) := by rw [cell_in HXb.out]; rfl
  have d13 : w5.cell? ⟨w4.heap.size, 13, none⟩ = some (.string text) := by rw [cell_in HXb.out]; rfl
  have HXc := Lib.hid (heap_alloc_new w5 (.cells #[.int .i64 ty, .int .i64 fl, .int .u32 (tsn : Int), .int .u32 (tag : Int), .int .u32 (win : Int), .int .u32 (ppid : Int), .int .u16 (st : Int), .int .u16 (ssn : Int), .int .u16 (outs : Int), .int .u16 (ins : Int), .slice D1 gaps.length m1, .slice D2 dups.length m2, .slice D3 items.length m3, .string text] 28))
  replace HX := Lib.hid ((Below.heap_alloc w5 (.cells #[.int .i64 ty, .int .i64 fl, .int .u32 (tsn : Int), .int .u32 (tag : Int), .int .u32 (win : Int), .int .u32 (ppid : Int), .int .u16 (st : Int), .int .u16 (ssn : Int), .int .u16 (outs : Int), .int .u16 (ins : Int), .slice D1 gaps.length m1, .slice D2 dups.length m2, .slice D3 items.length m3, .string text] 28) _ (Array.getElem?_eq_some_iff.1 HX.out).1).trans HX.out)
  replace HXb := Lib.hid ((Below.heap_alloc w5 (.cells #[.int .i64 ty, .int .i64 fl, .int .u32 (tsn : Int), .int .u32 (tag : Int), .int .u32 (win : Int), .int .u32 (ppid : Int), .int .u16 (st : Int), .int .u16 (ssn : Int), .int .u16 (outs : Int), .int .u16 (ins : Int), .slice D1 gaps.length m1, .slice D2 dups.length m2, .slice D3 items.length m3, .string text] 28) _ (Array.getElem?_eq_some_iff.1 HXb.out).1).trans HXb.out)
  replace HP := Lib.hid (HP.out.below ((Below.refl _ w5).alloc (Nat.le_refl _) (.cells #[.int .i64 ty, .int .i64 fl, .int .u32 (tsn : Int), .int .u32 (tag : Int), .int .u32 (win : Int), .int .u32 (ppid : Int), .int .u16 (st : Int), .int .u16 (ssn : Int), .int .u16 (outs : Int), .int .u16 (ins : Int), .slice D1 gaps.length m1, .slice D2 dups.length m2, .slice D3 items.length m3, .string text] 28)))
  replace HPb := Lib.hid (HPb.out.below ((Below.refl _ w5).alloc (Nat.le_refl _) (.cells #[.int .i64 ty, .int .i64 fl, .int .u32 (tsn : Int), .int .u32 (tag : Int), .int .u32 (win : Int), .int .u32 (ppid : Int), .int .u16 (st : Int), .int .u16 (ssn : Int), .int .u16 (outs : Int), .int .u16 (ins : Int), .slice D1 gaps.length m1, .slice D2 dups.length m2, .slice D3 items.length m3, .string text] 28)))
  replace HPc := Lib.hid (HPc.out.below ((Below.refl _ w5).alloc (Nat.le_refl _) (.cells #[.int .i64 ty, .int .i64 fl, .int .u32 (tsn : Int), .int .u32 (tag : Int), .int .u32 (win : Int), .int .u32 (ppid : Int), .int .u16 (st : Int), .int .u16 (ssn : Int), .int .u16 (outs : Int), .int .u16 (ins : Int), .slice D1 gaps.length m1, .slice D2 dups.length m2, .slice D3 items.length m3, .string text] 28)))
  replace HB := Lib.hid (HB.out.alloc HB.out.size (.cells #[.int .i64 ty, .int .i64 fl, .int .u32 (tsn : Int), .int .u32 (tag : Int), .int .u32 (win : Int), .int .u32 (ppid : Int), .int .u16 (st : Int), .int .u16 (ssn : Int), .int .u16 (outs : Int), .int .u16 (ins : Int), .slice D1 gaps.length m1, .slice D2 dups.length m2, .slice D3 items.length m3, .string text] 28))
  go_wp2_with fail
  refine (H7.out _ _ _ _ _ _ _ HPb.out HP.out).mono ?_
  rintro _ w6 ⟨rfl, hb⟩
  replace HX := Lib.hid ((hb.block _ (Array.getElem?_eq_some_iff.1 HX.out).1).trans HX.out)
  replace HXc := Lib.hid ((hb.block _ (Array.getElem?_eq_some_iff.1 HXc.out).1).trans HXc.out)
  replace HB := Lib.hid (HB.out.trans (hb.mono HB.out.size))
  replace HP := Lib.hid (HP.out.below hb)
  replace HPc := Lib.hid (HPc.out.below hb)
  clear c0 c1 c2 c3 c4 c5 c6 c7 c8 c9 c10 c11 c12 c13
  clear d0 d1 d2 d3 d4 d5 d6 d7 d8 d9 d10 d11 d12 d13
  clear hb hlt1 hlt2
  have c0 : w6.cell? ⟨w.heap.size, 0, none⟩ = some (.int .i64 ty) := by rw [cell_in HX.out]; rfl
  have c1 : w6.cell? ⟨w.heap.size, 1, none⟩ = some (.int .i64 fl) := by rw [cell_in HX.out]; rfl
  have c2 : w6.cell? ⟨w.heap.size, 2, none⟩ = some (.int .u32 (tsn : Int)) := by rw [cell_in HX.out]; rfl
  have c3 : w6.cell? ⟨w.heap.size, 3, none⟩ = some (.int .u32 (tag : Int)) := by rw [cell_in HX.out]; rfl
  have c4 : w6.cell? ⟨w.heap.size, 4, none⟩ = some (.int .u32 (win : Int)) := by rw [cell_in HX.out]; rfl
  have c5 : w6.cell? ⟨w.heap.size, 5, none⟩ = some (.int .u32 (ppid : Int)) := by rw [cell_in HX.out]; rfl
  have c6 : w6.cell? ⟨w.heap.size, 6, none⟩ = some (.int .u16 (st : Int)) := by rw [cell_in HX.out]; rfl
  have c7 : w6.cell? ⟨w.heap.size, 7, none⟩ = some (.int .u16 (ssn : Int)) := by rw [cell_in HX.out]; rfl
  have c8 : w6.cell? ⟨w.heap.size, 8, none⟩ = some (.int .u16 (outs : Int)) := by rw [cell_in HX.out]; rfl
  have c9 : w6.cell? ⟨w.heap.size, 9, none⟩ = some (.int .u16 (ins : Int)) := by rw [cell_in HX.out]; rfl
  have c10 : w6.cell? ⟨w.heap.size, 10, none⟩ = some (.slice A1 gaps.length k1) := by rw [cell_in HX.out]; rfl
  have c11 : w6.cell? ⟨w.heap.size, 11, none⟩ = some (.slice A2 dups.length k2) := by rw [cell_in HX.out]; rfl
  have c12 : w6.cell? ⟨w.heap.size, 12, none⟩ = some (.slice A3 items.length k3) := by rw [cell_in HX.out]; rfl
  have c13 : w6.cell? ⟨w.heap.size, 13, none⟩ = some (.string text) := by rw [cell_in HX.out]; rfl
  have d0 : w6.cell? ⟨w5.heap.size, 0, none⟩ = some (.int .i64 ty) := by rw [cell_in HXc.out]; rfl
  have d1 : w6.cell? ⟨w5.heap.size, 1, none⟩ = some (.int .i64 fl) := by rw [cell_in HXc.out]; rfl
  have d2 : w6.cell? ⟨w5.heap.size, 2, none⟩ = some (.int .u32 (tsn : Int)) := by rw [cell_in HXc.out]; rfl
  have d3 : w6.cell? ⟨w5.heap.size, 3, none⟩ = some (.int .u32 (tag : Int)) := by rw [cell_in HXc.out]; rfl
  have d4 : w6.cell? ⟨w5.heap.size, 4, none⟩ = some (.int .u32 (win : Int)) := by rw [cell_in HXc.out]; rfl
  have d5 : w6.cell? ⟨w5.heap.size, 5, none⟩ = some (.int .u32 (ppid : Int)) := by rw [cell_in HXc.out]; rfl
  have d6 : w6.cell? ⟨w5.heap.size, 6, none⟩ = some (.int .u16 (st : Int)) := by rw [cell_in HXc.out]; rfl
  have d7 : w6.cell? ⟨w5.heap.size, 7, none⟩ = some (.int .u16 (ssn : Int)) := by rw [cell_in HXc.out]; rfl
  have d8 : w6.cell? ⟨w5.heap.size, 8, none⟩ = some (.int .u16 (outs : Int)) := by rw [cell_in HXc.out]; rfl
  have d9 : w6.cell? ⟨w5.heap.size, 9, none⟩ = some (.int .u16 (ins : Int)) := by rw [cell_in HXc.out]; rfl
  have d10 : w6.cell? ⟨w5.heap.size, 10, none⟩ = some (.slice D1 gaps.length m1) := by rw [cell_in HXc.out]; rfl
  have d11 : w6.cell? ⟨w5.heap.size, 11, none⟩ = some (.slice D2 dups.length m2) := by rw [cell_in HXc.out]; rfl
  have d12 : w6.cell? ⟨w5.heap.size, 12, none⟩ = some (.slice D3 items.length m3) := by rw [cell_in HXc.out]; rfl
  have d13 : w6.cell? ⟨w5.heap.size, 13, none⟩ = some (.string text) := by rw [cell_in HXc.out]; rfl
  go_wp2_with fail
  refine (H7.out _ _ _ _ _ _ _ HPc.out HP.out).mono ?_
  rintro _ w7 ⟨rfl, hb⟩
  replace HX := Lib.hid ((hb.block _ (Array.getElem?_eq_some_iff.1 HX.out).1).trans HX.out)
  replace HB := Lib.hid (HB.out.trans (hb.mono HB.out.size))
  replace HP := Lib.hid (HP.out.below hb)
  clear c0 c1 c2 c3 c4 c5 c6 c7 c8 c9 c10 c11 c12 c13
  clear d0 d1 d2 d3 d4 d5 d6 d7 d8 d9 d10 d11 d12 d13
  clear hb
  have c0 : w7.cell? ⟨w.heap.size, 0, none⟩ = some (.int .i64 ty) := by rw [cell_in HX.out]; rfl
  have c1 : w7.cell? ⟨w.heap.size, 1, none⟩ = some (.int .i64 fl) := by rw [cell_in HX.out]; rfl
  have c2 : w7.cell? ⟨w.heap.size, 2, none⟩ = some (.int .u32 (tsn : Int)) := by rw [cell_in HX.out]; rfl
  have c3 : w7.cell? ⟨w.heap.size, 3, none⟩ = some (.int .u32 (tag : Int)) := by rw [cell_in HX.out]; rfl
  have c4 : w7.cell? ⟨w.heap.size, 4, none⟩ = some (.int .u32 (win : Int)) := by rw [cell_in HX.out]; rfl
  have c5 : w7.cell? ⟨w.heap.size, 5, none⟩ = some (.int .u32 (ppid : Int)) := by rw [cell_in HX.out]; rfl
  have c6 : w7.cell? ⟨w.heap.size, 6, none⟩ = some (.int .u16 (st : Int)) := by rw [cell_in HX.out]; rfl
  have c7 : w7.cell? ⟨w.heap.size, 7, none⟩ = some (.int .u16 (ssn : Int)) := by rw [cell_in HX.out]; rfl
  have c8 : w7.cell? ⟨w.heap.size, 8, none⟩ = some (.int .u16 (outs : Int)) := by rw [cell_in HX.out]; rfl
  have c9 : w7.cell? ⟨w.heap.size, 9, none⟩ = some (.int .u16 (ins : Int)) := by rw [cell_in HX.out]; rfl
  have c10 : w7.cell? ⟨w.heap.size, 10, none⟩ = some (.slice A1 gaps.length k1) := by rw [cell_in HX.out]; rfl
  have c11 : w7.cell? ⟨w.heap.size, 11, none⟩ = some (.slice A2 dups.length k2) := by rw [cell_in HX.out]; rfl
  have c12 : w7.cell? ⟨w.heap.size, 12, none⟩ = some (.slice A3 items.length k3) := by rw [cell_in HX.out]; rfl
  have c13 : w7.cell? ⟨w.heap.size, 13, none⟩ = some (.string text) := by rw [cell_in HX.out]; rfl
  go_wp2_with fail
  refine (HZ.out _ HP.out).mono ?_
  rintro _ w8 ⟨rfl, hb⟩
  replace HB := Lib.hid (HB.out.trans (hb.mono HB.out.size))
  clear c0 c1 c2 c3 c4 c5 c6 c7 c8 c9 c10 c11 c12 c13
  clear hb
  go_wp2_with fail
  go_ret
  exact ⟨rfl, HB.out⟩

set_option maxRecDepth 100000 in
theorem lifted (os : Os) (started : os.Started) (H : Type) (enc : TypeId × Value → H) :
    ReturnsInHanded {} Try.checked os 4 .any (Rows.chunkBackSpec.pre6 enc Try.prog Try.f4 Rows.chunkBackRow.domain false) (Rows.chunkBackSpec.post enc Try.prog Try.f4 false true false false) := by
  refine returnsInHanded_of_change_sized (C := Try.checked) own started (by kernel_rfl) Try.func4
    (ChangeSpec.witness6 (enc := enc) (C := Try.checked) false ⟨#[], #[.agg #[.int .i64 0, .int .i64 0, .int .u32 0, .int .u32 0, .int .u32 0, .int .u32 0, .int .u16 0, .int .u16 0, .int .u16 0, .int .u16 0, .slice none 0 0, .slice none 0 0, .slice none 0 0, .string ⟨#[]⟩], .string ⟨#[]⟩], []⟩ 8 (by kernel_rfl) (by kernel_rfl) (by kernel_rfl) (by kernel_rfl)) ?_
  intro W base args ds gs before hval0 hW _ hreach _
  have hval : ∀ (j : Nat) t v, Try.f4.params[j]? = some t → args[j]? = some v → Value.okWide Try.prog W .any base t v := hval0
  obtain ⟨p, q, hA0, _, _, _, _⟩ := id hW
  have hA : DataW.TrodAll enc Try.prog W 0 (fun _ => true) true Try.f4.params.toList args.toList ds p := hA0
  rw [Try.params4] at hA hval
  obtain ⟨v0, vs0, d0, ds0, p0, q0, hargs, rfl, rfl, h0, r0⟩ := trodAll_cons hA
  obtain ⟨v1, vs1, d1, ds1, p1, q1, rfl, rfl, rfl, h1, r1⟩ := trodAll_cons r0
  obtain ⟨rfl, rfl, rfl⟩ := trodAll_nil r1
  obtain rfl : args = #[v0, v1] := by cases args; simp_all
  obtain ⟨c0, g0, e0, t0, rfl, n0⟩ := chunk_in (hval 0 28 v0 rfl rfl) h0
  obtain ⟨a1, rfl, rfl, rfl, w1⟩ := Go.ChangeMaps.open_string Try.underlying9 (hval 1 9 v1 rfl rfl) h1
  refine (walk (hi := n0) c0 g0 e0 t0 a1 W).mono fun e W' ⟨he, hg⟩ => ?_
  subst he
  exact ⟨_, rfl, law_post laidOut Try.underlying4 (by kernel_rfl) (by kernel_rfl) rfl hW (by simp [Rows.chunkBackSpec]) hg⟩

theorem proved : Rows.ChunkBackSaid :=
  OpenClaim.holds_of_wide 4 Try.f4 rfl rfl rfl rfl rfl rfl rfl ⟨rfl, rfl, rfl, rfl, rfl⟩ rfl rfl rfl rfl rfl (by kernel_rfl) Try.func4 (by kernel_rfl)
    (of_decide_eq_true (by kernel_rfl)) (by unfold Func.isWrapper; first | (rw [if_pos (by decide +kernel)]; kernel_rfl) | (rw [if_neg (by decide +kernel)]; exact ⟨rfl, rfl⟩))
    (fun os started H enc _ => lifted os started H enc)
#print axioms proved
end Go.Proofs.Ytjdnlolhcjalmaa.chunkBack
