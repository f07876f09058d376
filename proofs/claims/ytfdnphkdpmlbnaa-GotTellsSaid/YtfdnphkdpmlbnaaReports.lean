/-
  What a Sack tells of gaps and of what came twice, written: contracts.
-/
import Derived.Test.YtfdnphkdpmlbnaaPutNums
namespace Go.Proofs.Ytfdnphkdpmlbnaa
open Go.RowKit
set_option linter.unusedVariables false
set_option linter.unusedSimpArgs false
set_option maxRecDepth 100000

theorem gapsL_take (l : List (Nat × Nat)) (k : Nat) (h : k < l.length) : gapsL (l.take (k + 1)) = gapsL (l.take k) ++ be16 l[k].1 ++ be16 l[k].2 := by
  unfold gapsL
  rw [List.take_succ_eq_append_getElem h, List.flatMap_append, List.append_assoc]
  congr 1
theorem dupsL_take (l : List Nat) (k : Nat) (h : k < l.length) : dupsL (l.take (k + 1)) = dupsL (l.take k) ++ be32 l[k] := by
  unfold dupsL
  rw [List.take_succ_eq_append_getElem h, List.flatMap_append]
  congr 1
theorem gaps_len_take (l : List (Nat × Nat)) (k : Nat) : (gapsL (l.take k)).length ≤ 4 * l.length := by
  rw [gapsL_length, List.length_take]
  omega
theorem dups_len_take (l : List Nat) (k : Nat) : (dupsL (l.take k)).length ≤ 4 * l.length := by
  rw [dupsL_length, List.length_take]
  omega
set_option maxHeartbeats 4000000 in
theorem reports_any (B bb : Nat) (l : List UInt8) (c : Ck) (hw : WfC c) (h1 : c.gaps.length < 65536) (h2 : c.dups.length < 65536) (g d it : Value) (w0 w : World) (hp : Parts w0 c g d it) (hb0 : Below w0.heap.size w0 w) (hB0 : w0.heap.size ≤ B)
    (h : Bd w B bb l) (hlen : l.length < 1000000) (hBw : B ≤ w.heap.size) :
    Calls Try.prog 67 #[.pointer (some ⟨bb, 0, none⟩), .agg (cellsC c g d it)] w fun e w' => e = .returned (.tuple #[]) ∧ Bd w' B bb (l ++ repL c) ∧ Wrote B bb w w' := by
  obtain ⟨ty, fl, tsn, tag, win, ppid, st, ssn, outs, ins, gaps, dups, items, text⟩ := c
  obtain ⟨p1, p2, p3⟩ := hp
  obtain ⟨a1, a2, a3, a4, a5, a6, a7, a8, a9, a10⟩ := hw
  dsimp only at p1 p2 h1 h2 a9 a10
  have hbb := h.lt
  have HP1 := Lib.hid (fun W (hW : Wrote B bb w W) => p1.below (hb0.trans (hW.1.mono hB0)))
  have HP2 := Lib.hid (fun W (hW : Wrote B bb w W) => p2.below (hb0.trans (hW.1.mono hB0)))
  obtain ⟨Ag, kg, rfl, -⟩ := id p1
  obtain ⟨Ad, kd, rfl, -⟩ := id p2
  have HX0 := Lib.hid (heap_alloc_new w (.cells (cellsC ⟨ty, fl, tsn, tag, win, ppid, st, ssn, outs, ins, gaps, dups, items, text⟩ (.slice Ag gaps.length kg) (.slice Ad dups.length kd) it) 44))
  have HI := Lib.hid (h.alloc (.cells (cellsC ⟨ty, fl, tsn, tag, win, ppid, st, ssn, outs, ins, gaps, dups, items, text⟩ (.slice Ag gaps.length kg) (.slice Ad dups.length kd) it) 44))
  have HR := Lib.hid ((Wrote.refl B bb w).alloc hBw (.cells (cellsC ⟨ty, fl, tsn, tag, win, ppid, st, ssn, outs, ins, gaps, dups, items, text⟩ (.slice Ag gaps.length kg) (.slice Ad dups.length kd) it) 44))
  have HL := Lib.hid (show repL ⟨ty, fl, tsn, tag, win, ppid, st, ssn, outs, ins, gaps, dups, items, text⟩ = be16 gaps.length ++ be16 dups.length ++ gapsL gaps ++ dupsL dups from rfl)
  have HS := Lib.hid hBw
  have HW9 := Lib.hid a9
  have HW10 := Lib.hid a10
  dsimp only [cellsC] at HX0 HI HR ⊢
  clear h hBw p1 p2 p3 a1 a2 a3 a4 a5 a6 a7 a8 a9 a10 hb0 hB0
  have hg' : (gaps.length : Int) < 65536 := by omega
  have hd' : (dups.length : Int) < 65536 := by omega
  have hne : w.heap.size ≠ bb := by omega
  go_enter Try.func67, Try.ntmps67
  go_wp2_with fail
  refine (write_16 B bb _ _ h1 _ HI.out (by omega) (Nat.le_trans HS.out HR.out.size)).mono ?_
  rintro e w1 ⟨rfl, hi, hr⟩
  have hx := hr.block HX0.out hne (by decide)
  replace HI := Lib.hid hi
  replace HR := Lib.hid (HR.out.trans hr)
  have hlt : w.heap.size < w1.heap.size := (Array.getElem?_eq_some_iff.1 hx).1
  have c11 : w1.cell? ⟨w.heap.size, 11, none⟩ = some (.slice Ad dups.length kd) := by rw [cell_in hx]; rfl
  have HX := Lib.hid hx
  clear hi hr hx HX0
  go_wp2_with fail
  refine (write_16 B bb _ _ h2 _ HI.out (by simp only [List.length_append, be16_length]; omega) (Nat.le_trans HS.out HR.out.size)).mono ?_
  rintro e w2 ⟨rfl, hi, hr⟩
  have hx := hr.block HX.out hne (by decide)
  replace HI := Lib.hid hi
  replace HR := Lib.hid (HR.out.trans hr)
  replace hlt : w.heap.size < w2.heap.size := (Array.getElem?_eq_some_iff.1 hx).1
  have d10 : w2.cell? ⟨w.heap.size, 10, none⟩ = some (.slice Ag gaps.length kg) := by rw [cell_in hx]; rfl
  replace HX := Lib.hid hx
  clear hi hr hx c11
  go_wp2_with fail
  generalize hl1 : l ++ be16 gaps.length ++ be16 dups.length = l1 at *
  have hlen1 : l1.length < 1000010 := by rw [← hl1]; simp only [List.length_append, be16_length]; omega
  go_loopw [23] (fun i wr => ∃ k : Nat, k ≤ gaps.length ∧ i = .int .i64 k ∧ Hid (Bd wr B bb (l1 ++ gapsL (gaps.take k)) ∧ Wrote B bb w wr ∧
      wr.heap[w.heap.size]? = some (.cells #[.int .i64 ty, .int .i64 fl, .int .u32 (tsn : Int), .int .u32 (tag : Int), .int .u32 (win : Int), .int .u32 (ppid : Int), .int .u16 (st : Int), .int .u16 (ssn : Int), .int .u16 (outs : Int), .int .u16 (ins : Int), .slice Ag gaps.length kg, .slice Ad dups.length kd, it, .string text] 44 (0, 0))))
    (fun i _ => gaps.length - (intOf i).toNat)
  case atStart => exact ⟨0, Nat.zero_le _, rfl, Lib.hid ⟨by rw [List.take_zero]; show Bd _ _ _ (l1 ++ []); rw [List.append_nil]; exact HI.out, HR.out, HX.out⟩⟩
  case round =>
    obtain ⟨k, hk, rfl, HQ⟩ := hrel
    clear d10
    by_cases hlt' : k < gaps.length
    · obtain ⟨A', cap', hv', -, -, hcells⟩ := HP1.out wr HQ.out.2.1
      cases hv'
      obtain ⟨b, off, rfl, hb, hc⟩ := hcells (by omega)
      obtain ⟨hc0, hc1⟩ := hc k hlt'
      obtain ⟨hx1, hx2⟩ := HW9.out _ (List.getElem_mem hlt')
      have HT := Lib.hid (gapsL_take gaps k hlt')
      have hgl := gaps_len_take gaps k
      have hbl := HQ.out.1.lt
      have hsz := HQ.out.2.1.size
      generalize gaps[k] = x at *
      obtain ⟨x, y⟩ := x
      dsimp only at hc0 hc1 hx1 hx2 HT
      have HI3 := Lib.hid (HQ.out.1.alloc (.cells #[.int .u16 (x : Int), .int .u16 (y : Int)] 59))
      have HR3 := Lib.hid (HQ.out.2.1.alloc (Nat.le_trans HS.out hsz) (.cells #[.int .u16 (x : Int), .int .u16 (y : Int)] 59))
      have HX3 := Lib.hid ((Below.heap_alloc wr (.cells #[.int .u16 (x : Int), .int .u16 (y : Int)] 59) _ (Array.getElem?_eq_some_iff.1 HQ.out.2.2).1).trans HQ.out.2.2)
      have HG := Lib.hid (heap_alloc_new wr (.cells #[.int .u16 (x : Int), .int .u16 (y : Int)] 59))
      clear hc hcells HI HR HX HP1
      go_wp2_with fail
      refine (write_16 B bb _ _ hx1 _ HI3.out (by simp only [List.length_append]; omega) (Nat.le_trans HS.out HR3.out.size)).mono ?_
      rintro e w3 ⟨rfl, hi, hr⟩
      have hg := hr.block HG.out (by omega) (by decide)
      have hx := hr.block HX3.out hne (by decide)
      have e1 : w3.cell? ⟨wr.heap.size, 1, none⟩ = some (.int .u16 (y : Int)) := by rw [cell_in hg]; rfl
      replace HI3 := Lib.hid hi
      replace HR3 := Lib.hid (HR3.out.trans hr)
      replace HX3 := Lib.hid hx
      clear hi hr hx hg HG
      go_wp2_with fail
      refine (write_16 B bb _ _ hx2 _ HI3.out (by simp only [List.length_append, be16_length]; omega) (Nat.le_trans HS.out HR3.out.size)).mono ?_
      rintro e w4 ⟨rfl, hi, hr⟩
      have HE := Lib.hid (And.intro hi (And.intro (HR3.out.trans hr) (hr.block HX3.out hne (by decide))))
      clear hi hr e1
      go_wp2_with fail
      go_roundw
      case rel => exact ⟨k + 1, by omega, by go_num, Lib.hid ⟨by rw [HT.out]; have := HE.out.1; simpa only [List.append_assoc] using this, HE.out.2⟩⟩
      case measure => simp [intOf]; omega
    · obtain rfl : k = gaps.length := by omega
      replace HI := Lib.hid HQ.out.1
      replace HR := Lib.hid HQ.out.2.1
      replace HX := Lib.hid HQ.out.2.2
      rw [List.take_length] at HI
      have d11 : wr.cell? ⟨w.heap.size, 11, none⟩ = some (.slice Ad dups.length kd) := by rw [cell_in HX.out]; rfl
      clear HQ HP1
      generalize hl2 : l1 ++ gapsL gaps = l2 at *
      have hlen2 : l2.length < 1300000 := by rw [← hl2]; simp only [List.length_append, gapsL_length]; omega
      go_wp2_with fail
      generalize wr = wq at *
      go_loopw [39] (fun i wr => ∃ k : Nat, k ≤ dups.length ∧ i = .int .i64 k ∧ Hid (Bd wr B bb (l2 ++ dupsL (dups.take k)) ∧ Wrote B bb w wr))
        (fun i _ => dups.length - (intOf i).toNat)
      case atStart => exact ⟨0, Nat.zero_le _, rfl, Lib.hid ⟨by rw [List.take_zero]; show Bd _ _ _ (l2 ++ []); rw [List.append_nil]; exact HI.out, HR.out⟩⟩
      case round =>
        obtain ⟨k, hk, rfl, HQ⟩ := hrel
        clear d11
        by_cases hlt' : k < dups.length
        · obtain ⟨A', cap', hv', -, -, hcells⟩ := HP2.out wr HQ.out.2
          cases hv'
          obtain ⟨b, off, rfl, hb, hc⟩ := hcells (by omega)
          have hc0 := hc k hlt'
          have hx1 := HW10.out _ (List.getElem_mem hlt')
          have HT := Lib.hid (dupsL_take dups k hlt')
          have hgl := dups_len_take dups k
          rw [getElem!_pos dups k hlt'] at hc0
          generalize dups[k] = x at *
          unfold encN at hc0
          have HI3 := Lib.hid HQ.out.1
          have HR3 := Lib.hid HQ.out.2
          clear hc hcells HI HR HX HP2
          go_wp2_with fail
          refine (write_32 B bb _ _ hx1 _ HI3.out (by simp only [List.length_append]; omega) (Nat.le_trans HS.out HR3.out.size)).mono ?_
          rintro e w3 ⟨rfl, hi, hr⟩
          have HE := Lib.hid (And.intro hi (HR3.out.trans hr))
          clear hi hr
          go_wp2_with fail
          go_roundw
          case rel => exact ⟨k + 1, by omega, by go_num, Lib.hid ⟨by rw [HT.out]; have := HE.out.1; simpa only [List.append_assoc] using this, HE.out.2⟩⟩
          case measure => simp [intOf]; omega
        · obtain rfl : k = dups.length := by omega
          go_wp2_with fail
          go_end0
          refine ⟨rfl, ?_, HQ.out.2⟩
          have := HQ.out.1
          rw [List.take_length] at this
          rw [HL.out]
          rw [← hl2, ← hl1] at this
          simpa only [List.append_assoc] using this
end Go.Proofs.Ytfdnphkdpmlbnaa
