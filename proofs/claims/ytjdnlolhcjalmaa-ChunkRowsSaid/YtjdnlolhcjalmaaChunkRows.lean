/-
  Statement ChunkRows (chapter 7): what is built of chunks, one behind the other, is read as these, one by one.
-/
import Derived.Test.YtjdnlolhcjalmaaLift
import Derived.Test.YtjdnlolhcjalmaaCkShown
import Derived.Test.YtjdnlolhcjalmaaCkRows
import Derived.BigQuiet
namespace Go.Proofs.Ytjdnlolhcjalmaa.chunkRows
open Go.ChangeShapes Go.WideShapes Go.ChangeAt Go.RowKit
set_option linter.unusedVariables false

set_option linter.unusedSimpArgs false
set_option maxRecDepth 100000
set_option maxHeartbeats 8000000 in
theorem walk (l : List Cv) (v : Value) (w : World) (hv : RowK w v l) (hlm : l.length ≤ maxLen) (ha : AllC w l) : Calls Try.prog 6 #[v] w fun e w' => e = .returned (.bool true) ∧ Below w.heap.size w w' := by
  have HCS := Lib.hid ckSize
  obtain ⟨A, cap, rfl, hcap, hmax, hcells⟩ := hv
  have HC := Lib.hid hcells
  have HA := Lib.hid ha
  clear hcells ha
  by_cases hs : 20 < l.length
  case pos =>
    have hs' : (20 : Int) < (l.length : Int) := by omega
    clear hs
    go_enter Try.func6, Try.ntmps6
    go_wp2_with fail
    refine (shown_any _).mono ?_
    rintro _ w1 ⟨rfl, hb1⟩
    have HB := Lib.hid hb1
    clear hb1
    go_wp2_with fail
    go_ret
    exact ⟨rfl, HB.out⟩
  have hs' : (l.length : Int) ≤ 20 := by omega
  have hl20 : l.length ≤ 20 := by omega
  obtain ⟨i0, hi0, hz0, hz1, hz2⟩ := info_parts ckInfo
  have HI := Lib.hid hi0
  have HZ0 := Lib.hid hz0
  have HZ1 := Lib.hid hz1
  have HZ2 := Lib.hid hz2
  clear hs hi0 hz0 hz1 hz2
  go_enter Try.func6, Try.ntmps6
  go_wp2_with fail
  refine (shown_any _).mono ?_
  rintro _ w1 ⟨rfl, hb1⟩
  have HB := Lib.hid hb1
  clear hb1
  go_wp2_with fail
  go_loopw [4, 5, 6] (fun s u i wr => ∃ k : Nat, k ≤ l.length ∧ i = .int .i64 k ∧ Hid (s = .string (joinB (keptL l k)) ∧ OwnG wr w.heap.size 28 14 u (keptL l k).length (flatK (keptL l k)) ∧ Below w.heap.size w wr))
    (fun _ _ i _ => l.length - (intOf i).toNat)
  case atStart => exact ⟨0, Nat.zero_le _, rfl, Lib.hid ⟨rfl, OwnG.nil _ _ _ _, HB.out⟩⟩
  case round =>
    obtain ⟨k, hk, rfl, HQ⟩ := hrel
    obtain ⟨hse, hown, hbr⟩ := HQ.out
    subst hse
    have HO := Lib.hid hown
    replace HB := Lib.hid hbr
    clear HQ hown
    by_cases hlt : k < l.length
    · obtain ⟨b, off, rfl, hb, hc⟩ := HC.out (by omega)
      have hin := HA.out l[k] (List.getElem_mem hlt)
      have hr := rangeAt_below (hc k hlt) hb hbr
      have hky := kept_yes l k hlt
      have hkn := kept_no l k hlt
      have hkl := kept_le l k
      have hjs := joinB_size (kept_fine l k)
      generalize l[k] = x at *
      obtain ⟨c, g, d, it⟩ := x
      dsimp only [Cv.cells] at hin hr hky hkn
      have hp := hin.parts.below hbr
      have hblt := Nat.lt_of_lt_of_le hb hbr.size
      have hws := hbr.size
      have HM := Lib.hid (fun W hq => small_any c g d it W hin.il hin.gl hin.dl hin.tl hq)
      have HR := Lib.hid hr
      have HP := Lib.hid hp
      clear hc hr hbr
      by_cases hsm : smallB c = true
      case neg =>
        rw [Bool.not_eq_true] at hsm
        rw [hsm] at HM
        clear hky hkn hin HC HA
        obtain ⟨⟨A1, k1, rfl⟩, ⟨A2, k2, rfl⟩, ⟨A3, k3, rfl⟩⟩ := hp.slices
        have HONE := Lib.hid hp.one
        obtain ⟨ty, fl, tsn, tag, win, ppid, st, ssn, outs, ins, gaps, dups, items, text⟩ := c
        dsimp only [cellsC] at *
        have d0 : wr.cell? ⟨b, off + k * 14, none⟩ = some (.int .i64 ty) := HR.out 0 _ rfl
        have d1 : wr.cell? ⟨b, off + k * 14 + 1, none⟩ = some (.int .i64 fl) := HR.out 1 _ rfl
        have d2 : wr.cell? ⟨b, off + k * 14 + 2, none⟩ = some (.int .u32 (tsn : Int)) := HR.out 2 _ rfl
        have d3 : wr.cell? ⟨b, off + k * 14 + 3, none⟩ = some (.int .u32 (tag : Int)) := HR.out 3 _ rfl
        have d4 : wr.cell? ⟨b, off + k * 14 + 4, none⟩ = some (.int .u32 (win : Int)) := HR.out 4 _ rfl
        have d5 : wr.cell? ⟨b, off + k * 14 + 5, none⟩ = some (.int .u32 (ppid : Int)) := HR.out 5 _ rfl
        have d6 : wr.cell? ⟨b, off + k * 14 + 6, none⟩ = some (.int .u16 (st : Int)) := HR.out 6 _ rfl
        have d7 : wr.cell? ⟨b, off + k * 14 + 7, none⟩ = some (.int .u16 (ssn : Int)) := HR.out 7 _ rfl
        have d8 : wr.cell? ⟨b, off + k * 14 + 8, none⟩ = some (.int .u16 (outs : Int)) := HR.out 8 _ rfl
        have d9 : wr.cell? ⟨b, off + k * 14 + 9, none⟩ = some (.int .u16 (ins : Int)) := HR.out 9 _ rfl
        have d10 : wr.cell? ⟨b, off + k * 14 + 10, none⟩ = some (.slice A1 gaps.length k1) := HR.out 10 _ rfl
        have d11 : wr.cell? ⟨b, off + k * 14 + 11, none⟩ = some (.slice A2 dups.length k2) := HR.out 11 _ rfl
        have d12 : wr.cell? ⟨b, off + k * 14 + 12, none⟩ = some (.slice A3 items.length k3) := HR.out 12 _ rfl
        have d13 : wr.cell? ⟨b, off + k * 14 + 13, none⟩ = some (.string text) := HR.out 13 _ rfl
        clear hp
        go_wp2_with fail
        refine (HM.out _ HP.out).mono ?_
        rintro _ w2 ⟨rfl, hb2⟩
        replace HB := Lib.hid (HB.out.trans (hb2.mono hws))
        clear hb2 d0 d1 d2 d3 d4 d5 d6 d7 d8 d9 d10 d11 d12 d13
        go_wp2_with fail
        go_ret
        exact ⟨rfl, HB.out⟩
      rw [hsm] at HM
      obtain ⟨s1, s2, s3, s4, s5⟩ := small_gives hsm
      have HU := Lib.hid (fun W hq => ckbuild_any c hin.wf (by omega) (by omega) (by omega) (fun x hx => by have := s5 x hx; omega) (by omega) g d it W hq)
      by_cases hb0 : (buildC c).2 = 0
      case neg =>
        have hn : (((buildC c).2 : Nat) : Int) ≠ 0 := by omega
        have HK := Lib.hid (hkn hb0)
        generalize (buildC c).2 = e0 at *
        generalize (buildC c).1 = b0 at *
        clear hky hkn hin HC HA hsm s1 s2 s3 s4 s5 hb0
        obtain ⟨⟨A1, k1, rfl⟩, ⟨A2, k2, rfl⟩, ⟨A3, k3, rfl⟩⟩ := hp.slices
        have HONE := Lib.hid hp.one
        obtain ⟨ty, fl, tsn, tag, win, ppid, st, ssn, outs, ins, gaps, dups, items, text⟩ := c
        dsimp only [cellsC] at *
        have d0 : wr.cell? ⟨b, off + k * 14, none⟩ = some (.int .i64 ty) := HR.out 0 _ rfl
        have d1 : wr.cell? ⟨b, off + k * 14 + 1, none⟩ = some (.int .i64 fl) := HR.out 1 _ rfl
        have d2 : wr.cell? ⟨b, off + k * 14 + 2, none⟩ = some (.int .u32 (tsn : Int)) := HR.out 2 _ rfl
        have d3 : wr.cell? ⟨b, off + k * 14 + 3, none⟩ = some (.int .u32 (tag : Int)) := HR.out 3 _ rfl
        have d4 : wr.cell? ⟨b, off + k * 14 + 4, none⟩ = some (.int .u32 (win : Int)) := HR.out 4 _ rfl
        have d5 : wr.cell? ⟨b, off + k * 14 + 5, none⟩ = some (.int .u32 (ppid : Int)) := HR.out 5 _ rfl
        have d6 : wr.cell? ⟨b, off + k * 14 + 6, none⟩ = some (.int .u16 (st : Int)) := HR.out 6 _ rfl
        have d7 : wr.cell? ⟨b, off + k * 14 + 7, none⟩ = some (.int .u16 (ssn : Int)) := HR.out 7 _ rfl
        have d8 : wr.cell? ⟨b, off + k * 14 + 8, none⟩ = some (.int .u16 (outs : Int)) := HR.out 8 _ rfl
        have d9 : wr.cell? ⟨b, off + k * 14 + 9, none⟩ = some (.int .u16 (ins : Int)) := HR.out 9 _ rfl
        have d10 : wr.cell? ⟨b, off + k * 14 + 10, none⟩ = some (.slice A1 gaps.length k1) := HR.out 10 _ rfl
        have d11 : wr.cell? ⟨b, off + k * 14 + 11, none⟩ = some (.slice A2 dups.length k2) := HR.out 11 _ rfl
        have d12 : wr.cell? ⟨b, off + k * 14 + 12, none⟩ = some (.slice A3 items.length k3) := HR.out 12 _ rfl
        have d13 : wr.cell? ⟨b, off + k * 14 + 13, none⟩ = some (.string text) := HR.out 13 _ rfl
        clear hp
        go_wp2_with fail
        refine (HM.out _ HP.out).mono ?_
        rintro _ w2 ⟨rfl, hb2⟩
        replace HR := Lib.hid (rangeAt_below HR.out hblt hb2)
        replace HB := Lib.hid (HB.out.trans (hb2.mono hws))
        replace HP := Lib.hid (HP.out.below hb2)
        replace HO := Lib.hid (HO.out.later hb2)
        replace hblt := Nat.lt_of_lt_of_le hblt hb2.size
        replace hws := Nat.le_trans hws hb2.size
        clear hb2 d0 d1 d2 d3 d4 d5 d6 d7 d8 d9 d10 d11 d12 d13
        have d0 : w2.cell? ⟨b, off + k * 14, none⟩ = some (.int .i64 ty) := HR.out 0 _ rfl
        have d1 : w2.cell? ⟨b, off + k * 14 + 1, none⟩ = some (.int .i64 fl) := HR.out 1 _ rfl
        have d2 : w2.cell? ⟨b, off + k * 14 + 2, none⟩ = some (.int .u32 (tsn : Int)) := HR.out 2 _ rfl
        have d3 : w2.cell? ⟨b, off + k * 14 + 3, none⟩ = some (.int .u32 (tag : Int)) := HR.out 3 _ rfl
        have d4 : w2.cell? ⟨b, off + k * 14 + 4, none⟩ = some (.int .u32 (win : Int)) := HR.out 4 _ rfl
        have d5 : w2.cell? ⟨b, off + k * 14 + 5, none⟩ = some (.int .u32 (ppid : Int)) := HR.out 5 _ rfl
        have d6 : w2.cell? ⟨b, off + k * 14 + 6, none⟩ = some (.int .u16 (st : Int)) := HR.out 6 _ rfl
        have d7 : w2.cell? ⟨b, off + k * 14 + 7, none⟩ = some (.int .u16 (ssn : Int)) := HR.out 7 _ rfl
        have d8 : w2.cell? ⟨b, off + k * 14 + 8, none⟩ = some (.int .u16 (outs : Int)) := HR.out 8 _ rfl
        have d9 : w2.cell? ⟨b, off + k * 14 + 9, none⟩ = some (.int .u16 (ins : Int)) := HR.out 9 _ rfl
        have d10 : w2.cell? ⟨b, off + k * 14 + 10, none⟩ = some (.slice A1 gaps.length k1) := HR.out 10 _ rfl
        have d11 : w2.cell? ⟨b, off + k * 14 + 11, none⟩ = some (.slice A2 dups.length k2) := HR.out 11 _ rfl
        have d12 : w2.cell? ⟨b, off + k * 14 + 12, none⟩ = some (.slice A3 items.length k3) := HR.out 12 _ rfl
        have d13 : w2.cell? ⟨b, off + k * 14 + 13, none⟩ = some (.string text) := HR.out 13 _ rfl
        go_wp2_with fail
        refine (HU.out _ HP.out).mono ?_
        rintro _ w3 ⟨rfl, hb3⟩
        replace HB := Lib.hid (HB.out.trans (hb3.mono hws))
        replace HO := Lib.hid (HO.out.later hb3)
        clear hb3 d0 d1 d2 d3 d4 d5 d6 d7 d8 d9 d10 d11 d12 d13
        go_wp2_with fail
        go_roundw
        case rel => exact ⟨k + 1, by omega, by go_num, Lib.hid ⟨by rw [HK.out], by rw [HK.out]; exact HO.out, HB.out⟩⟩
        case measure => simp [intOf]; omega
      have HK := Lib.hid (hky hb0)
      have HJ := Lib.hid (show joinB (keptL l (k + 1)) = joinB (keptL l k) ++ (buildC c).1 by rw [HK.out, joinB_snoc])
      have HF := Lib.hid (show flatK (keptL l (k + 1)) = flatK (keptL l k) ++ (cellsC c g d it).toList by rw [HK.out, flatK_append, flatK_one])
      have HN := Lib.hid (show (keptL l (k + 1)).length = (keptL l k).length + 1 by rw [HK.out, List.length_append]; rfl)
      have hbs := (built_size hb0).2.1
      have hjs' : (joinB (keptL l k)).size ≤ 28000 := by omega
      rw [hb0] at HU
      generalize (buildC c).1 = b0 at *
      generalize joinB (keptL l k) = s0 at *
      generalize flatK (keptL l k) = F at *
      generalize (keptL l k).length = n0 at *
      clear hky hkn hin HC HA hsm s1 s2 s3 s4 s5 hb0 hjs HK
      obtain ⟨⟨A1, k1, rfl⟩, ⟨A2, k2, rfl⟩, ⟨A3, k3, rfl⟩⟩ := hp.slices
      have HONE := Lib.hid hp.one
      obtain ⟨ty, fl, tsn, tag, win, ppid, st, ssn, outs, ins, gaps, dups, items, text⟩ := c
      dsimp only [cellsC] at *
      have d0 : wr.cell? ⟨b, off + k * 14, none⟩ = some (.int .i64 ty) := HR.out 0 _ rfl
      have d1 : wr.cell? ⟨b, off + k * 14 + 1, none⟩ = some (.int .i64 fl) := HR.out 1 _ rfl
      have d2 : wr.cell? ⟨b, off + k * 14 + 2, none⟩ = some (.int .u32 (tsn : Int)) := HR.out 2 _ rfl
      have d3 : wr.cell? ⟨b, off + k * 14 + 3, none⟩ = some (.int .u32 (tag : Int)) := HR.out 3 _ rfl
      have d4 : wr.cell? ⟨b, off + k * 14 + 4, none⟩ = some (.int .u32 (win : Int)) := HR.out 4 _ rfl
      have d5 : wr.cell? ⟨b, off + k * 14 + 5, none⟩ = some (.int .u32 (ppid : Int)) := HR.out 5 _ rfl
      have d6 : wr.cell? ⟨b, off + k * 14 + 6, none⟩ = some (.int .u16 (st : Int)) := HR.out 6 _ rfl
      have d7 : wr.cell? ⟨b, off + k * 14 + 7, none⟩ = some (.int .u16 (ssn : Int)) := HR.out 7 _ rfl
      have d8 : wr.cell? ⟨b, off + k * 14 + 8, none⟩ = some (.int .u16 (outs : Int)) := HR.out 8 _ rfl
      have d9 : wr.cell? ⟨b, off + k * 14 + 9, none⟩ = some (.int .u16 (ins : Int)) := HR.out 9 _ rfl
      have d10 : wr.cell? ⟨b, off + k * 14 + 10, none⟩ = some (.slice A1 gaps.length k1) := HR.out 10 _ rfl
      have d11 : wr.cell? ⟨b, off + k * 14 + 11, none⟩ = some (.slice A2 dups.length k2) := HR.out 11 _ rfl
      have d12 : wr.cell? ⟨b, off + k * 14 + 12, none⟩ = some (.slice A3 items.length k3) := HR.out 12 _ rfl
      have d13 : wr.cell? ⟨b, off + k * 14 + 13, none⟩ = some (.string text) := HR.out 13 _ rfl
      clear hp
      go_wp2_with fail
      refine (HM.out _ HP.out).mono ?_
      rintro _ w2 ⟨rfl, hb2⟩
      replace HR := Lib.hid (rangeAt_below HR.out hblt hb2)
      replace HB := Lib.hid (HB.out.trans (hb2.mono hws))
      replace HP := Lib.hid (HP.out.below hb2)
      replace HO := Lib.hid (HO.out.later hb2)
      replace hblt := Nat.lt_of_lt_of_le hblt hb2.size
      replace hws := Nat.le_trans hws hb2.size
      clear hb2 d0 d1 d2 d3 d4 d5 d6 d7 d8 d9 d10 d11 d12 d13
      have d0 : w2.cell? ⟨b, off + k * 14, none⟩ = some (.int .i64 ty) := HR.out 0 _ rfl
      have d1 : w2.cell? ⟨b, off + k * 14 + 1, none⟩ = some (.int .i64 fl) := HR.out 1 _ rfl
      have d2 : w2.cell? ⟨b, off + k * 14 + 2, none⟩ = some (.int .u32 (tsn : Int)) := HR.out 2 _ rfl
      have d3 : w2.cell? ⟨b, off + k * 14 + 3, none⟩ = some (.int .u32 (tag : Int)) := HR.out 3 _ rfl
      have d4 : w2.cell? ⟨b, off + k * 14 + 4, none⟩ = some (.int .u32 (win : Int)) := HR.out 4 _ rfl
      have d5 : w2.cell? ⟨b, off + k * 14 + 5, none⟩ = some (.int .u32 (ppid : Int)) := HR.out 5 _ rfl
      have d6 : w2.cell? ⟨b, off + k * 14 + 6, none⟩ = some (.int .u16 (st : Int)) := HR.out 6 _ rfl
      have d7 : w2.cell? ⟨b, off + k * 14 + 7, none⟩ = some (.int .u16 (ssn : Int)) := HR.out 7 _ rfl
      have d8 : w2.cell? ⟨b, off + k * 14 + 8, none⟩ = some (.int .u16 (outs : Int)) := HR.out 8 _ rfl
      have d9 : w2.cell? ⟨b, off + k * 14 + 9, none⟩ = some (.int .u16 (ins : Int)) := HR.out 9 _ rfl
      have d10 : w2.cell? ⟨b, off + k * 14 + 10, none⟩ = some (.slice A1 gaps.length k1) := HR.out 10 _ rfl
      have d11 : w2.cell? ⟨b, off + k * 14 + 11, none⟩ = some (.slice A2 dups.length k2) := HR.out 11 _ rfl
      have d12 : w2.cell? ⟨b, off + k * 14 + 12, none⟩ = some (.slice A3 items.length k3) := HR.out 12 _ rfl
      have d13 : w2.cell? ⟨b, off + k * 14 + 13, none⟩ = some (.string text) := HR.out 13 _ rfl
      go_wp2_with fail
      refine (HU.out _ HP.out).mono ?_
      rintro _ w3 ⟨rfl, hb3⟩
      replace HR := Lib.hid (rangeAt_below HR.out hblt hb3)
      replace HB := Lib.hid (HB.out.trans (hb3.mono hws))
      replace HO := Lib.hid (HO.out.later hb3)
      replace hblt := Nat.lt_of_lt_of_le hblt hb3.size
      replace hws := Nat.le_trans hws hb3.size
      clear hb3 HP d0 d1 d2 d3 d4 d5 d6 d7 d8 d9 d10 d11 d12 d13
      have d0 : w3.cell? ⟨b, off + k * 14, none⟩ = some (.int .i64 ty) := HR.out 0 _ rfl
      have d1 : w3.cell? ⟨b, off + k * 14 + 1, none⟩ = some (.int .i64 fl) := HR.out 1 _ rfl
      have d2 : w3.cell? ⟨b, off + k * 14 + 2, none⟩ = some (.int .u32 (tsn : Int)) := HR.out 2 _ rfl
      have d3 : w3.cell? ⟨b, off + k * 14 + 3, none⟩ = some (.int .u32 (tag : Int)) := HR.out 3 _ rfl
      have d4 : w3.cell? ⟨b, off + k * 14 + 4, none⟩ = some (.int .u32 (win : Int)) := HR.out 4 _ rfl
      have d5 : w3.cell? ⟨b, off + k * 14 + 5, none⟩ = some (.int .u32 (ppid : Int)) := HR.out 5 _ rfl
      have d6 : w3.cell? ⟨b, off + k * 14 + 6, none⟩ = some (.int .u16 (st : Int)) := HR.out 6 _ rfl
      have d7 : w3.cell? ⟨b, off + k * 14 + 7, none⟩ = some (.int .u16 (ssn : Int)) := HR.out 7 _ rfl
      have d8 : w3.cell? ⟨b, off + k * 14 + 8, none⟩ = some (.int .u16 (outs : Int)) := HR.out 8 _ rfl
      have d9 : w3.cell? ⟨b, off + k * 14 + 9, none⟩ = some (.int .u16 (ins : Int)) := HR.out 9 _ rfl
      have d10 : w3.cell? ⟨b, off + k * 14 + 10, none⟩ = some (.slice A1 gaps.length k1) := HR.out 10 _ rfl
      have d11 : w3.cell? ⟨b, off + k * 14 + 11, none⟩ = some (.slice A2 dups.length k2) := HR.out 11 _ rfl
      have d12 : w3.cell? ⟨b, off + k * 14 + 12, none⟩ = some (.slice A3 items.length k3) := HR.out 12 _ rfl
      have d13 : w3.cell? ⟨b, off + k * 14 + 13, none⟩ = some (.string text) := HR.out 13 _ rfl
      go_wp2_with (at_builtin; refine wpList_append_fed _ rfl _ _ 47 47 rfl w.heap.size 28 i0 _ 14 128 Try.underlying47 (.inr ⟨_, Try.underlying47⟩) HI.out HZ0.out HZ1.out HZ2.out rfl _ n0 F rfl (HO.out.alloc _) (.slice (some ⟨w3.heap.size, 0, none⟩) 1 1) 1 [.int .i64 ty, .int .i64 fl, .int .u32 (tsn : Int), .int .u32 (tag : Int), .int .u32 (win : Int), .int .u32 (ppid : Int), .int .u16 (st : Int), .int .u16 (ssn : Int), .int .u16 (outs : Int), .int .u16 (ins : Int), .slice A1 gaps.length k1, .slice A2 dups.length k2, .slice A3 items.length k3, .string text] rfl (Fed.block (heap_alloc_new _ _) rfl (all_list HONE.out)) ?c3 ?c4 ?c5 ?_)
      case c3 => unfold maxLen; omega
      case c4 => omega
      case c5 => rw [World.size_alloc]; omega
      intro v' w5 hown5 hg5
      have HO5 := Lib.hid hown5
      have HB5 := Lib.hid ((HB.out.alloc hws _).grown hg5 (by rw [World.size_alloc]; omega) (fun j hj => (HO.out.lt j hj).1))
      clear hown5 hg5 HO HB d0 d1 d2 d3 d4 d5 d6 d7 d8 d9 d10 d11 d12 d13
      go_wp2_with fail
      go_roundw
      case rel => exact ⟨k + 1, by omega, by go_num, Lib.hid ⟨by rw [HJ.out], by rw [HF.out, HN.out]; exact HO5.out, HB5.out⟩⟩
      case measure => simp [intOf]; omega
    · obtain rfl : k = l.length := by omega
      have hrm := rowK_of_own HO.out
      have HFM := Lib.hid (kept_fine l l.length)
      have hkl := kept_le l l.length
      have HAM := Lib.hid ((kept_in HA.out l.length).below hbr)
      generalize keptL l l.length = M at *
      obtain ⟨B, capM, rfl, hcapM, hmaxM, hcM⟩ := hrm
      have HCM := Lib.hid hcM
      have hm' : (M.length : Int) ≤ 20 := by omega
      have hws := hbr.size
      clear hcM HO HC HA hbr
      generalize wr = wq at *
      go_wp2_with fail
      have HEND := Lib.hid (show joinB (M.drop M.length) = (⟨#[]⟩ : ByteArray) from by rw [List.drop_length]; rfl)
      go_loopw [4, 10] (fun s i wr => ∃ m : Nat, m ≤ M.length ∧ i = .int .i64 m ∧ Hid (s = .string (joinB (M.drop m)) ∧ Below wq.heap.size wq wr)) (fun _ i _ => M.length - (intOf i).toNat)
      case atStart => exact ⟨0, Nat.zero_le _, rfl, Lib.hid ⟨rfl, Below.refl _ _⟩⟩
      case round =>
        obtain ⟨m, hm, rfl, HQ⟩ := hrel
        obtain ⟨hse, hbr⟩ := HQ.out
        clear HQ
        by_cases hlt : m < M.length
        · obtain ⟨b, off, rfl, hb, hc⟩ := HCM.out (by omega)
          have hin := HAM.out M[m] (List.getElem_mem hlt)
          have hfine := HFM.out M[m] (List.getElem_mem hlt)
          have hr := rangeAt_below (hc m hlt) hb hbr
          have hjs := joinB_size (l := M.drop (m + 1)) (fun x hx => HFM.out x (List.mem_of_mem_drop hx))
          have hjl : (M.drop (m + 1)).length ≤ 20 := by rw [List.length_drop]; omega
          rw [joinB_drop M m hlt] at hse
          generalize M[m] = x at *
          obtain ⟨c, g, d, it⟩ := x
          dsimp only [Cv.cells] at hin hfine hr hse
          have hp := hin.parts.below hbr
          have hblt := Nat.lt_of_lt_of_le hb hbr.size
          have hbs := (built_size hfine).2.1
          have hle : (buildC c).1.size ≤ ((buildC c).1 ++ joinB (M.drop (m + 1))).size := by rw [ByteArray.size_append]; omega
          have hle2 : ((buildC c).1 ++ joinB (M.drop (m + 1))).size ≤ 100000 := by rw [ByteArray.size_append]; omega
          have HR1 := Lib.hid (fun W => reread_any hin.wf hfine (joinB (M.drop (m + 1))) (by omega) W)
          have H7 := Lib.hid (fun g d it g' d' it' W hp hp' => same_self hfine g d it g' d' it' W hp hp')
          have HEX := Lib.hid (behind_first (buildC c).1 (joinB (M.drop (m + 1))))
          generalize (buildC c).1 ++ joinB (M.drop (m + 1)) = s2 at *
          generalize hte : joinB (M.drop (m + 1)) = t at *
          have HTE := Lib.hid hte
          clear hte
          generalize (buildC c).1.size = n0 at *
          subst hse
          have z1 : (0 : Int) ≤ (n0 : Int) := by omega
          have z2 : (n0 : Int) ≤ (s2.size : Int) := by omega
          have q4 : (0 : Int) ≤ (m : Int) := by omega
          have q5 : (m : Int) < (M.length : Int) := by omega
          have HR := Lib.hid hr
          have HP := Lib.hid hp
          have HB2 := Lib.hid hbr
          clear hc hr hbr hin hfine hjs hjl hbs hb HCM HAM HFM hp
          go_wp2_with fail
          refine (HR1.out _).mono ?_
          rintro _ w3 ⟨g', d', it', rfl, hp', hb3⟩
          replace HR := Lib.hid (rangeAt_below HR.out hblt hb3)
          replace HP := Lib.hid (HP.out.below hb3)
          replace HB2 := Lib.hid (HB2.out.trans (hb3.mono HB2.out.size))
          replace hblt := Nat.lt_of_lt_of_le hblt hb3.size
          have hps := pairS_new (base := wq) (w3 := w3) (a := ⟨c, g', d', it'⟩) (c := ⟨c, g, d, it⟩) 28 hp' HP.out HR.out hblt HB2.out
          have hone := hp'.one
          obtain ⟨⟨A1, k1, rfl⟩, ⟨A2, k2, rfl⟩, ⟨A3, k3, rfl⟩⟩ := HP.out.slices
          obtain ⟨⟨B1, l1, rfl⟩, ⟨B2, l2, rfl⟩, ⟨B3, l3, rfl⟩⟩ := hp'.slices
          have HPS := Lib.hid hps
          have HONE := Lib.hid hone
          clear hps hone hb3 hp' HP HR HR1 HB2
          obtain ⟨ty, fl, tsn, tag, win, ppid, st, ssn, outs, ins, gaps, dups, items, text⟩ := c
          dsimp only [cellsC, Cv.cells] at *
          go_wp2_with fail
          refine wp_region_noPanic ?_
          refine wp_region_held_drew (S := (PairS wq w3.heap.size ⟨⟨ty, fl, tsn, tag, win, ppid, st, ssn, outs, ins, gaps, dups, items, text⟩, .slice B1 gaps.length l1, .slice B2 dups.length l2, .slice B3 items.length l3⟩ b (off + m * 14) ⟨⟨ty, fl, tsn, tag, win, ppid, st, ssn, outs, ins, gaps, dups, items, text⟩, .slice A1 gaps.length k1, .slice A2 dups.length k2, .slice A3 items.length k3⟩)) (by kernel_rfl) ?_ (fun hHeld => ?_)
          · exact HPS.out.drew
          refine wpAnyH_take (i := 0) (v := ?_) (by simp only [List.getElem?_toArray, List.getElem?_cons_zero]; rfl) (by kernel_rfl) (by kernel_rfl) (by kernel_rfl) (fun _ _ _ h => h) (Or.inl ⟨by rfl, ?_⟩) (by assumption) ?_
          rotate_left 1
          · (intro w' hSw; (try dsimp only at hSw); go_simp; try with_reducible rfl)
          try simp only [Act.put, List.setIfInBounds_toArray, List.set_cons_zero, List.set_cons_succ]
          refine wpAnyH_take (i := 1) (v := ?_) (by simp only [List.getElem?_toArray, List.getElem?_cons_succ, List.getElem?_cons_zero]; rfl) (by kernel_rfl) (by kernel_rfl) (by kernel_rfl) (fun _ _ _ h => h) (Or.inl ⟨by rfl, ?_⟩) (by assumption) ?_
          rotate_left 1
          · (intro w' hSw; (try dsimp only at hSw); go_simp; try with_reducible rfl)
          try simp only [Act.put, List.setIfInBounds_toArray, List.set_cons_zero, List.set_cons_succ]
          refine wpAnyH_take (i := 2) (v := ?_) (by simp only [List.getElem?_toArray, List.getElem?_cons_succ, List.getElem?_cons_zero]; rfl) (by kernel_rfl) (by kernel_rfl) (by kernel_rfl) (fun _ _ _ h => h) (Or.inl ⟨by rfl, ?_⟩) (by assumption) ?_
          rotate_left 1
          · (intro w' hSw; (try dsimp only at hSw); go_simp; try with_reducible rfl)
          try simp only [Act.put, List.setIfInBounds_toArray, List.set_cons_zero, List.set_cons_succ]
          refine wpAnyH_take (i := 3) (v := _) (by simp only [List.getElem?_toArray, List.getElem?_cons_succ, List.getElem?_cons_zero]; rfl) (by kernel_rfl) (by kernel_rfl) (by kernel_rfl) (fun _ _ _ h => h) (yieldsIf_load_mid (by rfl) 28 (.tmp 11) rfl _ _ (by rfl) _ _ (fun W h => h.first) Try.underlying28 rfl HCS.out) (by assumption) ?_
          try simp only [Act.put, List.setIfInBounds_toArray, List.set_cons_zero, List.set_cons_succ]
          refine wpAnyH_take (i := 4) (v := ?_) (by simp only [List.getElem?_toArray, List.getElem?_cons_succ, List.getElem?_cons_zero]; rfl) (by kernel_rfl) (by kernel_rfl) (by kernel_rfl) (fun _ _ _ h => h) (Or.inl ⟨by rfl, ?_⟩) (by assumption) ?_
          rotate_left 1
          · (intro w' hSw; (try dsimp only at hSw); go_simp; try with_reducible rfl)
          try simp only [Act.put, List.setIfInBounds_toArray, List.set_cons_zero, List.set_cons_succ]
          refine wpAnyH_take (i := 5) (v := ?_) (by simp only [List.getElem?_toArray, List.getElem?_cons_succ, List.getElem?_cons_zero]; rfl) (by kernel_rfl) (by kernel_rfl) (by kernel_rfl) (fun _ _ _ h => h) (Or.inl ⟨by rfl, ?_⟩) (by assumption) ?_
          rotate_left 1
          · (intro w' hSw; (try dsimp only at hSw); go_simp; try with_reducible rfl)
          try simp only [Act.put, List.setIfInBounds_toArray, List.set_cons_zero, List.set_cons_succ]
          refine wpAnyH_take (i := 6) (v := ?_) (by simp only [List.getElem?_toArray, List.getElem?_cons_succ, List.getElem?_cons_zero]; rfl) (by kernel_rfl) (by kernel_rfl) (by kernel_rfl) (fun _ _ _ h => h) (Or.inl ⟨by rfl, ?_⟩) (by assumption) ?_
          rotate_left 1
          · (intro w' hSw; (try dsimp only at hSw); go_simp; try with_reducible rfl)
          try simp only [Act.put, List.setIfInBounds_toArray, List.set_cons_zero, List.set_cons_succ]
          refine wpAnyH_take (i := 7) (v := _) (by simp only [List.getElem?_toArray, List.getElem?_cons_succ, List.getElem?_cons_zero]; rfl) (by kernel_rfl) (by kernel_rfl) (by kernel_rfl) (fun _ _ _ h => h) (yieldsIf_load_mid (by rfl) 28 (.tmp 74) rfl _ _ (by rfl) _ _ (fun W h => h.second) Try.underlying28 rfl HCS.out) (by assumption) ?_
          try simp only [Act.put, List.setIfInBounds_toArray, List.set_cons_zero, List.set_cons_succ]
          refine wpAnyH_ready (rs := [8]) (by kernel_rfl) (by simp) ?_
          refine AllReadyH.cons (by simp only [List.getElem?_toArray, List.getElem?_cons_succ, List.getElem?_cons_zero]; rfl) (fun K hK => ?_) AllReadyH.nil
          go_simp
          refine (H7.out _ _ _ _ _ _ _ hHeld.pa hHeld.pb).mono ?_
          rintro _ w6 ⟨rfl, hb6⟩
          have hS := hHeld.later hb6
          go_wp2_with fail
          refine hK.out _ _ ?_ (fun hHeld => ?_)
          · exact hS
          clear hK K
          try simp only [Act.put, List.setIfInBounds_toArray, List.set_cons_zero, List.set_cons_succ]
          refine wpAnyH_take (i := 9) (v := ?_) (by simp only [List.getElem?_toArray, List.getElem?_cons_succ, List.getElem?_cons_zero]; rfl) (by kernel_rfl) (by kernel_rfl) (by kernel_rfl) (fun _ _ _ h => h) (Or.inl ⟨by rfl, ?_⟩) (by assumption) ?_
          rotate_left 1
          · (intro w' hSw; (try dsimp only at hSw); go_simp; try with_reducible rfl)
          try simp only [Act.put, List.setIfInBounds_toArray, List.set_cons_zero, List.set_cons_succ]
          refine wpAnyH_take (i := 10) (v := ?_) (by simp only [List.getElem?_toArray, List.getElem?_cons_succ, List.getElem?_cons_zero]; rfl) (by kernel_rfl) (by kernel_rfl) (by kernel_rfl) (fun _ _ _ h => h) (Or.inl ⟨by rfl, ?_⟩) (by assumption) ?_
          rotate_left 1
          · (intro w' hSw; (try dsimp only at hSw); go_simp; try with_reducible rfl)
          try simp only [Act.put, List.setIfInBounds_toArray, List.set_cons_zero, List.set_cons_succ]
          refine wpAnyH_done (by kernel_rfl) ?_ _
          refine NoPanic.normal ?_
          have HE := Lib.hid hHeld.below
          clear hHeld HPS
          go_wp2_with fail
          go_roundw
          case rel => exact ⟨m + 1, by omega, by go_num, Lib.hid ⟨by rw [HEX.out, HTE.out], HE.out⟩⟩
          case measure => simp [intOf]; omega
        · obtain rfl : m = M.length := by omega
          rw [HEND.out] at hse
          subst hse
          have HB2 := Lib.hid (HB.out.trans (hbr.mono hws))
          clear hbr HEND HCM HAM HFM
          go_wp2_with fail
          go_ret
          exact ⟨rfl, HB2.out⟩

set_option maxRecDepth 100000 in
theorem lifted (os : Os) (started : os.Started) (H : Type) (enc : TypeId × Value → H) :
    ReturnsInHanded {} Try.checked os 6 .any (Rows.chunkRowsSpec.pre6 enc Try.prog Try.f6 Rows.chunkRowsRow.domain false) (Rows.chunkRowsSpec.post enc Try.prog Try.f6 false true false false) := by
  refine returnsInHanded_of_change_sized (C := Try.checked) own started (by kernel_rfl) Try.func6
    (ChangeSpec.witness6 (enc := enc) (C := Try.checked) false ⟨#[], #[.slice none 0 0], []⟩ 8 (by kernel_rfl) (by kernel_rfl) (by kernel_rfl) (by kernel_rfl)) ?_
  intro W base args ds gs before hval0 hW _ hreach _
  have hval : ∀ (j : Nat) t v, Try.f6.params[j]? = some t → args[j]? = some v → Value.okWide Try.prog W .any base t v := hval0
  obtain ⟨p, q, hA0, _, _, _, _⟩ := id hW
  have hA : DataW.TrodAll enc Try.prog W 0 (fun _ => true) true Try.f6.params.toList args.toList ds p := hA0
  rw [Try.params6] at hA hval
  obtain ⟨v0, vs0, d0, ds0, p0, q0, hargs, rfl, rfl, h0, r0⟩ := trodAll_cons hA
  obtain ⟨rfl, rfl, rfl⟩ := trodAll_nil r0
  obtain rfl : args = #[v0] := by cases args; simp_all
  obtain ⟨l0, r0, m0, n0⟩ := chunks_in (hval 0 47 v0 rfl rfl) h0
  refine (walk l0 v0 W r0 m0 n0).mono fun e W' ⟨he, hg⟩ => ?_
  subst he
  exact ⟨_, rfl, law_post laidOut Try.underlying4 (by kernel_rfl) (by kernel_rfl) rfl hW (by simp [Rows.chunkRowsSpec]) hg⟩

theorem proved : Rows.ChunkRowsSaid :=
  OpenClaim.holds_of_wide 6 Try.f6 rfl rfl rfl rfl rfl rfl rfl ⟨rfl, rfl, rfl, rfl, rfl⟩ rfl rfl rfl rfl rfl (by kernel_rfl) Try.func6 (by kernel_rfl)
    (of_decide_eq_true (by kernel_rfl)) (by unfold Func.isWrapper; first | (rw [if_pos (by decide +kernel)]; kernel_rfl) | (rw [if_neg (by decide +kernel)]; exact ⟨rfl, rfl⟩))
    (fun os started H enc _ => lifted os started H enc)
#print axioms proved
end Go.Proofs.Ytjdnlolhcjalmaa.chunkRows
