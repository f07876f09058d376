/-
  What is built of a chunk, whether it is right, and how many bytes it has: contracts.
-/
import Derived.Test.YtfdnphkdpmlbnaaValueOf
import Derived.Test.YtfdnphkdpmlbnaaMeant
import Derived.Test.YtfdnphkdpmlbnaaBuild
namespace Go.Proofs.Ytfdnphkdpmlbnaa
open Go.RowKit
set_option linter.unusedVariables false
set_option linter.unusedSimpArgs false
set_option maxRecDepth 100000

theorem valueL_le (c : Ck) (hg : c.gaps.length ≤ 60000) (hd : c.dups.length ≤ 60000) (hit : c.items.length ≤ 100000) (his : ∀ x ∈ c.items, x.2.size ≤ 1000000) (hts : c.text.size ≤ 1000000) : (valueL c).length ≤ 200000000000 := by
  have h1 := numsL_le c
  have h2 : (if c.type = 3 then repL c else []).length ≤ 480004 := by
    split
    · unfold repL
      simp only [List.length_append, be16_length, gapsL_length, dupsL_length]
      omega
    · exact Nat.zero_le _
  have h3 := rowL_le c.items 1000000 his
  have h4 : c.items.length * (1000000 + 7) ≤ 100000 * 1000007 := Nat.mul_le_mul_right _ hit
  have h5 := itemsL_length c.items
  have h6 := size_list c.text
  unfold valueL
  simp only [List.length_append]
  omega
set_option maxHeartbeats 8000000 in
theorem ckbuild_any (c : Ck) (hw : WfC c) (hg : c.gaps.length ≤ 60000) (hd : c.dups.length ≤ 60000) (hit : c.items.length ≤ 100000) (his : ∀ x ∈ c.items, x.2.size ≤ 1000000) (hts : c.text.size ≤ 1000000) (g d it : Value) (w : World) (hp : Parts w c g d it) :
    Calls Try.prog 39 #[.agg (cellsC c g d it)] w fun e w' => e = .returned (.tuple #[.string (buildC c).1, .int .i64 ((buildC c).2 : Nat)]) ∧ Below w.heap.size w w' := by
  have HB := Lib.hid ((Below.refl w.heap.size w).alloc (Nat.le_refl _) (.cells (cellsC c g d it) 44))
  have HX := Lib.hid (heap_alloc_new w (.cells (cellsC c g d it) 44))
  have HP := Lib.hid (hp.below HB.out)
  have H1 := Lib.hid (fun W h => build_any c.items hit his it W h)
  have H2 := Lib.hid (fun W h => formed_any c hw (by omega) (by omega) hit hts g d it W h)
  have H3 := Lib.hid (fun hr W h => valueOf_any c hw (by omega) (by omega) hit his hr hts g d it W h)
  have HC := Lib.hid (show buildC c = if (buildB c.items).2 ≠ 0 ∨ formedB c = false then (noB, 1) else if 1400 < 4 + (valueL c).length then (noB, 4) else (⟨(bytesC c).toArray⟩, 0) from rfl)
  have HOK := Lib.hid (fun h => build_ok (l := c.items) h)
  have HF := Lib.hid (fun h => formed_parts (c := c) h)
  have HFL := Lib.hid (flags_le c.type)
  have HVB := Lib.hid (valueL_le c hg hd hit his hts)
  have HBY := Lib.hid (show bytesC c = [UInt8.ofNat c.type.toNat, UInt8.ofNat c.flags.toNat] ++ be16 (4 + (valueL c).length) ++ valueL c ++ zerosL (padN (4 + (valueL c).length)) from rfl)
  obtain ⟨ty, fl, tsn, tag, win, ppid, st, ssn, outs, ins, gaps, dups, items, text⟩ := c
  dsimp only [cellsC] at *
  clear hw hp hg hd hit his hts
  generalize formedB ⟨ty, fl, tsn, tag, win, ppid, st, ssn, outs, ins, gaps, dups, items, text⟩ = fb at *
  generalize valueL ⟨ty, fl, tsn, tag, win, ppid, st, ssn, outs, ins, gaps, dups, items, text⟩ = V at *
  generalize bytesC ⟨ty, fl, tsn, tag, win, ppid, st, ssn, outs, ins, gaps, dups, items, text⟩ = BY at *
  generalize buildC ⟨ty, fl, tsn, tag, win, ppid, st, ssn, outs, ins, gaps, dups, items, text⟩ = R at *
  by_cases h1 : (buildB items).2 = 0
  case neg =>
    rw [if_pos (.inl h1)] at HC
    rw [HC.out]
    dsimp only
    have k1 : (((buildB items).2 : Int) != 0) = true := bne_iff_ne.2 (by omega)
    generalize buildB items = rb at *
    obtain ⟨y, e⟩ := rb
    dsimp only at *
    clear h1 HOK HF HC H2 H3 HBY HFL
    go_enter Try.func39, Try.ntmps39
    go_wp2_with fail
    refine (H1.out _ HP.out.items).mono ?_
    rintro e w1 ⟨rfl, hb⟩
    replace HX := Lib.hid ((hb.block _ (Array.getElem?_eq_some_iff.1 HX.out).1).trans HX.out)
    replace HP := Lib.hid (HP.out.below hb)
    replace HB := Lib.hid (HB.out.trans (hb.mono HB.out.size))
    clear hb H1
    go_wp2_with fail
    go_ret2
    exact ⟨rfl, HB.out⟩
  obtain ⟨r1, r2, r3⟩ := HOK.out h1
  rw [h1] at HC H1
  rw [r3] at H1
  have HR := Lib.hid r2
  have H3' := Lib.hid (fun W h => H3.out r2 W h)
  clear H3 r1 r2 r3 HOK h1
  generalize (⟨(rowL items).toArray⟩ : ByteArray) = rs at *
  cases fb with
  | false =>
    rw [if_pos (.inr rfl)] at HC
    rw [HC.out]
    dsimp only
    clear HF HC H3' HBY HFL HR
    go_enter Try.func39, Try.ntmps39
    go_wp2_with fail
    refine (H1.out _ HP.out.items).mono ?_
    rintro e w1 ⟨rfl, hb⟩
    replace HX := Lib.hid ((hb.block _ (Array.getElem?_eq_some_iff.1 HX.out).1).trans HX.out)
    replace HP := Lib.hid (HP.out.below hb)
    replace HB := Lib.hid (HB.out.trans (hb.mono HB.out.size))
    clear hb H1
    have c0 : w1.cell? ⟨w.heap.size, 0, none⟩ = some (.int .i64 ty) := by rw [cell_in HX.out]; rfl
    have c1 : w1.cell? ⟨w.heap.size, 1, none⟩ = some (.int .i64 fl) := by rw [cell_in HX.out]; rfl
    have c2 : w1.cell? ⟨w.heap.size, 2, none⟩ = some (.int .u32 (tsn : Int)) := by rw [cell_in HX.out]; rfl
    have c3 : w1.cell? ⟨w.heap.size, 3, none⟩ = some (.int .u32 (tag : Int)) := by rw [cell_in HX.out]; rfl
    have c4 : w1.cell? ⟨w.heap.size, 4, none⟩ = some (.int .u32 (win : Int)) := by rw [cell_in HX.out]; rfl
    have c5 : w1.cell? ⟨w.heap.size, 5, none⟩ = some (.int .u32 (ppid : Int)) := by rw [cell_in HX.out]; rfl
    have c6 : w1.cell? ⟨w.heap.size, 6, none⟩ = some (.int .u16 (st : Int)) := by rw [cell_in HX.out]; rfl
    have c7 : w1.cell? ⟨w.heap.size, 7, none⟩ = some (.int .u16 (ssn : Int)) := by rw [cell_in HX.out]; rfl
    have c8 : w1.cell? ⟨w.heap.size, 8, none⟩ = some (.int .u16 (outs : Int)) := by rw [cell_in HX.out]; rfl
    have c9 : w1.cell? ⟨w.heap.size, 9, none⟩ = some (.int .u16 (ins : Int)) := by rw [cell_in HX.out]; rfl
    have c10 : w1.cell? ⟨w.heap.size, 10, none⟩ = some (g) := by rw [cell_in HX.out]; rfl
    have c11 : w1.cell? ⟨w.heap.size, 11, none⟩ = some (d) := by rw [cell_in HX.out]; rfl
    have c12 : w1.cell? ⟨w.heap.size, 12, none⟩ = some (it) := by rw [cell_in HX.out]; rfl
    have c13 : w1.cell? ⟨w.heap.size, 13, none⟩ = some (.string text) := by rw [cell_in HX.out]; rfl
    go_wp2_with fail
    refine (H2.out _ HP.out).mono ?_
    rintro e w2 ⟨rfl, hb⟩
    replace HX := Lib.hid ((hb.block _ (Array.getElem?_eq_some_iff.1 HX.out).1).trans HX.out)
    replace HP := Lib.hid (HP.out.below hb)
    replace HB := Lib.hid (HB.out.trans (hb.mono HB.out.size))
    clear hb H2
    clear c0 c1 c2 c3 c4 c5 c6 c7 c8 c9 c10 c11 c12 c13
    go_wp2_with fail
    go_ret2
    exact ⟨rfl, HB.out⟩
  | true =>
    rw [if_neg (by simp)] at HC
    obtain ⟨f1, f2, -⟩ := HF.out rfl
    have hV : (⟨V.toArray⟩ : ByteArray).size = V.length := toB_size _
    have hVL : (⟨V.toArray⟩ : ByteArray).data.toList = V := rfl
    obtain ⟨S, hS⟩ : ∃ S : ByteArray, S = ⟨V.toArray⟩ := ⟨_, rfl⟩
    rw [← hS] at hV hVL H3'
    have HSL := Lib.hid hVL
    have H3 := Lib.hid H3'.out
    have hfl := HFL.out
    have hvb := HVB.out
    have hsb : (S.size : Int) ≤ 200000000000 := by omega
    clear hVL hS H3' HF HFL
    by_cases h2 : 1400 < 4 + V.length
    · rw [if_pos h2] at HC
      rw [HC.out]
      dsimp only
      have k2 : (1400 : Int) < 4 + (S.size : Int) := by omega
      clear HC HBY h2 hV
      go_enter Try.func39, Try.ntmps39
      go_wp2_with fail
      refine (H1.out _ HP.out.items).mono ?_
      rintro e w1 ⟨rfl, hb⟩
      replace HX := Lib.hid ((hb.block _ (Array.getElem?_eq_some_iff.1 HX.out).1).trans HX.out)
      replace HP := Lib.hid (HP.out.below hb)
      replace HB := Lib.hid (HB.out.trans (hb.mono HB.out.size))
      clear hb H1
      have c0 : w1.cell? ⟨w.heap.size, 0, none⟩ = some (.int .i64 ty) := by rw [cell_in HX.out]; rfl
      have c1 : w1.cell? ⟨w.heap.size, 1, none⟩ = some (.int .i64 fl) := by rw [cell_in HX.out]; rfl
      have c2 : w1.cell? ⟨w.heap.size, 2, none⟩ = some (.int .u32 (tsn : Int)) := by rw [cell_in HX.out]; rfl
      have c3 : w1.cell? ⟨w.heap.size, 3, none⟩ = some (.int .u32 (tag : Int)) := by rw [cell_in HX.out]; rfl
      have c4 : w1.cell? ⟨w.heap.size, 4, none⟩ = some (.int .u32 (win : Int)) := by rw [cell_in HX.out]; rfl
      have c5 : w1.cell? ⟨w.heap.size, 5, none⟩ = some (.int .u32 (ppid : Int)) := by rw [cell_in HX.out]; rfl
      have c6 : w1.cell? ⟨w.heap.size, 6, none⟩ = some (.int .u16 (st : Int)) := by rw [cell_in HX.out]; rfl
      have c7 : w1.cell? ⟨w.heap.size, 7, none⟩ = some (.int .u16 (ssn : Int)) := by rw [cell_in HX.out]; rfl
      have c8 : w1.cell? ⟨w.heap.size, 8, none⟩ = some (.int .u16 (outs : Int)) := by rw [cell_in HX.out]; rfl
      have c9 : w1.cell? ⟨w.heap.size, 9, none⟩ = some (.int .u16 (ins : Int)) := by rw [cell_in HX.out]; rfl
      have c10 : w1.cell? ⟨w.heap.size, 10, none⟩ = some (g) := by rw [cell_in HX.out]; rfl
      have c11 : w1.cell? ⟨w.heap.size, 11, none⟩ = some (d) := by rw [cell_in HX.out]; rfl
      have c12 : w1.cell? ⟨w.heap.size, 12, none⟩ = some (it) := by rw [cell_in HX.out]; rfl
      have c13 : w1.cell? ⟨w.heap.size, 13, none⟩ = some (.string text) := by rw [cell_in HX.out]; rfl
      go_wp2_with fail
      refine (H2.out _ HP.out).mono ?_
      rintro e w2 ⟨rfl, hb⟩
      replace HX := Lib.hid ((hb.block _ (Array.getElem?_eq_some_iff.1 HX.out).1).trans HX.out)
      replace HP := Lib.hid (HP.out.below hb)
      replace HB := Lib.hid (HB.out.trans (hb.mono HB.out.size))
      clear hb H2
      clear c0 c1 c2 c3 c4 c5 c6 c7 c8 c9 c10 c11 c12 c13
      have c0 : w2.cell? ⟨w.heap.size, 0, none⟩ = some (.int .i64 ty) := by rw [cell_in HX.out]; rfl
      have c1 : w2.cell? ⟨w.heap.size, 1, none⟩ = some (.int .i64 fl) := by rw [cell_in HX.out]; rfl
      have c2 : w2.cell? ⟨w.heap.size, 2, none⟩ = some (.int .u32 (tsn : Int)) := by rw [cell_in HX.out]; rfl
      have c3 : w2.cell? ⟨w.heap.size, 3, none⟩ = some (.int .u32 (tag : Int)) := by rw [cell_in HX.out]; rfl
      have c4 : w2.cell? ⟨w.heap.size, 4, none⟩ = some (.int .u32 (win : Int)) := by rw [cell_in HX.out]; rfl
      have c5 : w2.cell? ⟨w.heap.size, 5, none⟩ = some (.int .u32 (ppid : Int)) := by rw [cell_in HX.out]; rfl
      have c6 : w2.cell? ⟨w.heap.size, 6, none⟩ = some (.int .u16 (st : Int)) := by rw [cell_in HX.out]; rfl
      have c7 : w2.cell? ⟨w.heap.size, 7, none⟩ = some (.int .u16 (ssn : Int)) := by rw [cell_in HX.out]; rfl
      have c8 : w2.cell? ⟨w.heap.size, 8, none⟩ = some (.int .u16 (outs : Int)) := by rw [cell_in HX.out]; rfl
      have c9 : w2.cell? ⟨w.heap.size, 9, none⟩ = some (.int .u16 (ins : Int)) := by rw [cell_in HX.out]; rfl
      have c10 : w2.cell? ⟨w.heap.size, 10, none⟩ = some (g) := by rw [cell_in HX.out]; rfl
      have c11 : w2.cell? ⟨w.heap.size, 11, none⟩ = some (d) := by rw [cell_in HX.out]; rfl
      have c12 : w2.cell? ⟨w.heap.size, 12, none⟩ = some (it) := by rw [cell_in HX.out]; rfl
      have c13 : w2.cell? ⟨w.heap.size, 13, none⟩ = some (.string text) := by rw [cell_in HX.out]; rfl
      go_wp2_with fail
      refine (H3.out _ HP.out).mono ?_
      rintro e w3 ⟨rfl, hb⟩
      replace HX := Lib.hid ((hb.block _ (Array.getElem?_eq_some_iff.1 HX.out).1).trans HX.out)
      replace HP := Lib.hid (HP.out.below hb)
      replace HB := Lib.hid (HB.out.trans (hb.mono HB.out.size))
      clear hb H3
      clear c0 c1 c2 c3 c4 c5 c6 c7 c8 c9 c10 c11 c12 c13
      go_wp2_with fail
      go_ret2
      exact ⟨rfl, HB.out⟩
    · rw [if_neg h2] at HC
      rw [HC.out]
      dsimp only
      have k2 : (S.size : Int) ≤ 1396 := by omega
      obtain ⟨kt, rfl⟩ : ∃ kt : Nat, ty = (kt : Int) := ⟨ty.toNat, by omega⟩
      obtain ⟨kf, rfl⟩ : ∃ kf : Nat, fl = (kf : Int) := ⟨fl.toNat, by omega⟩
      rw [Int.toNat_natCast, Int.toNat_natCast, ← hV] at HBY
      have HPD := Lib.hid (fun W => pad_any ((4 + S.size : Nat) : Int) (by omega) (by omega) W)
      rw [padI_nat] at HPD
      have hpd := padN_lt (4 + S.size)
      have hpz := nought_cut (padN (4 + S.size)) (by omega)
      have HZL := Lib.hid (zerosB_size (padN (4 + S.size)))
      have HZD := Lib.hid (show (zerosB (padN (4 + S.size))).data.toList = zerosL (padN (4 + S.size)) from rfl)
      generalize padN (4 + S.size) = p at *
      generalize zerosB p = Z at *
      have q1 : (p : Int) ≤ 3 := by omega
      have q3 : (kt : Int) ≤ 255 := by omega
      have q4 : (kf : Int) ≤ 255 := by omega
      have HSV := Lib.hid hV
      clear HC h2 hV hfl f1 f2 hpd
      go_enter Try.func39, Try.ntmps39
      go_wp2_with fail
      refine (H1.out _ HP.out.items).mono ?_
      rintro e w1 ⟨rfl, hb⟩
      replace HX := Lib.hid ((hb.block _ (Array.getElem?_eq_some_iff.1 HX.out).1).trans HX.out)
      replace HP := Lib.hid (HP.out.below hb)
      replace HB := Lib.hid (HB.out.trans (hb.mono HB.out.size))
      clear hb H1
      have c0 : w1.cell? ⟨w.heap.size, 0, none⟩ = some (.int .i64 (kt : Int)) := by rw [cell_in HX.out]; rfl
      have c1 : w1.cell? ⟨w.heap.size, 1, none⟩ = some (.int .i64 (kf : Int)) := by rw [cell_in HX.out]; rfl
      have c2 : w1.cell? ⟨w.heap.size, 2, none⟩ = some (.int .u32 (tsn : Int)) := by rw [cell_in HX.out]; rfl
      have c3 : w1.cell? ⟨w.heap.size, 3, none⟩ = some (.int .u32 (tag : Int)) := by rw [cell_in HX.out]; rfl
      have c4 : w1.cell? ⟨w.heap.size, 4, none⟩ = some (.int .u32 (win : Int)) := by rw [cell_in HX.out]; rfl
      have c5 : w1.cell? ⟨w.heap.size, 5, none⟩ = some (.int .u32 (ppid : Int)) := by rw [cell_in HX.out]; rfl
      have c6 : w1.cell? ⟨w.heap.size, 6, none⟩ = some (.int .u16 (st : Int)) := by rw [cell_in HX.out]; rfl
      have c7 : w1.cell? ⟨w.heap.size, 7, none⟩ = some (.int .u16 (ssn : Int)) := by rw [cell_in HX.out]; rfl
      have c8 : w1.cell? ⟨w.heap.size, 8, none⟩ = some (.int .u16 (outs : Int)) := by rw [cell_in HX.out]; rfl
      have c9 : w1.cell? ⟨w.heap.size, 9, none⟩ = some (.int .u16 (ins : Int)) := by rw [cell_in HX.out]; rfl
      have c10 : w1.cell? ⟨w.heap.size, 10, none⟩ = some (g) := by rw [cell_in HX.out]; rfl
      have c11 : w1.cell? ⟨w.heap.size, 11, none⟩ = some (d) := by rw [cell_in HX.out]; rfl
      have c12 : w1.cell? ⟨w.heap.size, 12, none⟩ = some (it) := by rw [cell_in HX.out]; rfl
      have c13 : w1.cell? ⟨w.heap.size, 13, none⟩ = some (.string text) := by rw [cell_in HX.out]; rfl
      go_wp2_with fail
      refine (H2.out _ HP.out).mono ?_
      rintro e w2 ⟨rfl, hb⟩
      replace HX := Lib.hid ((hb.block _ (Array.getElem?_eq_some_iff.1 HX.out).1).trans HX.out)
      replace HP := Lib.hid (HP.out.below hb)
      replace HB := Lib.hid (HB.out.trans (hb.mono HB.out.size))
      clear hb H2
      clear c0 c1 c2 c3 c4 c5 c6 c7 c8 c9 c10 c11 c12 c13
      have c0 : w2.cell? ⟨w.heap.size, 0, none⟩ = some (.int .i64 (kt : Int)) := by rw [cell_in HX.out]; rfl
      have c1 : w2.cell? ⟨w.heap.size, 1, none⟩ = some (.int .i64 (kf : Int)) := by rw [cell_in HX.out]; rfl
      have c2 : w2.cell? ⟨w.heap.size, 2, none⟩ = some (.int .u32 (tsn : Int)) := by rw [cell_in HX.out]; rfl
      have c3 : w2.cell? ⟨w.heap.size, 3, none⟩ = some (.int .u32 (tag : Int)) := by rw [cell_in HX.out]; rfl
      have c4 : w2.cell? ⟨w.heap.size, 4, none⟩ = some (.int .u32 (win : Int)) := by rw [cell_in HX.out]; rfl
      have c5 : w2.cell? ⟨w.heap.size, 5, none⟩ = some (.int .u32 (ppid : Int)) := by rw [cell_in HX.out]; rfl
      have c6 : w2.cell? ⟨w.heap.size, 6, none⟩ = some (.int .u16 (st : Int)) := by rw [cell_in HX.out]; rfl
      have c7 : w2.cell? ⟨w.heap.size, 7, none⟩ = some (.int .u16 (ssn : Int)) := by rw [cell_in HX.out]; rfl
      have c8 : w2.cell? ⟨w.heap.size, 8, none⟩ = some (.int .u16 (outs : Int)) := by rw [cell_in HX.out]; rfl
      have c9 : w2.cell? ⟨w.heap.size, 9, none⟩ = some (.int .u16 (ins : Int)) := by rw [cell_in HX.out]; rfl
      have c10 : w2.cell? ⟨w.heap.size, 10, none⟩ = some (g) := by rw [cell_in HX.out]; rfl
      have c11 : w2.cell? ⟨w.heap.size, 11, none⟩ = some (d) := by rw [cell_in HX.out]; rfl
      have c12 : w2.cell? ⟨w.heap.size, 12, none⟩ = some (it) := by rw [cell_in HX.out]; rfl
      have c13 : w2.cell? ⟨w.heap.size, 13, none⟩ = some (.string text) := by rw [cell_in HX.out]; rfl
      go_wp2_with fail
      refine (H3.out _ HP.out).mono ?_
      rintro e w3 ⟨rfl, hb⟩
      replace HX := Lib.hid ((hb.block _ (Array.getElem?_eq_some_iff.1 HX.out).1).trans HX.out)
      replace HP := Lib.hid (HP.out.below hb)
      replace HB := Lib.hid (HB.out.trans (hb.mono HB.out.size))
      clear hb H3
      clear c0 c1 c2 c3 c4 c5 c6 c7 c8 c9 c10 c11 c12 c13
      have c0 : w3.cell? ⟨w.heap.size, 0, none⟩ = some (.int .i64 (kt : Int)) := by rw [cell_in HX.out]; rfl
      have c1 : w3.cell? ⟨w.heap.size, 1, none⟩ = some (.int .i64 (kf : Int)) := by rw [cell_in HX.out]; rfl
      have hx3 : w.heap.size < w3.heap.size := (Array.getElem?_eq_some_iff.1 HX.out).1
      have HI := Lib.hid (bd_fresh w3)
      have HR3 := Lib.hid (Wrote.alloc (Wrote.refl w3.heap.size w3.heap.size w3) (Nat.le_refl _) (.cells #[.pointer none, .slice none 0 0] 85))
      go_wp2_with fail
      refine (write_8 w3.heap.size w3.heap.size [] kt (by omega) _ HI.out (by (try simp only [List.length_append, List.length_cons, List.length_nil, be16_length]); (try rw [HSL.out, ← HSV.out]); (try rw [HZL.out]); omega) HR3.out.size).mono ?_
      rintro e w5 ⟨rfl, hi, hr⟩
      replace HI := Lib.hid hi
      replace HR3 := Lib.hid (HR3.out.trans hr)
      clear hi hr
      have d1 : w5.cell? ⟨w.heap.size, 1, none⟩ = some (.int .i64 (kf : Int)) := (HR3.out.1.cell (p := ⟨w.heap.size, 1, none⟩) hx3).trans c1
      go_wp2_with fail
      refine (write_8 w3.heap.size w3.heap.size _ kf (by omega) _ HI.out (by (try simp only [List.length_append, List.length_cons, List.length_nil, be16_length]); (try rw [HSL.out, ← HSV.out]); (try rw [HZL.out]); omega) HR3.out.size).mono ?_
      rintro e w6 ⟨rfl, hi, hr⟩
      replace HI := Lib.hid hi
      replace HR3 := Lib.hid (HR3.out.trans hr)
      clear hi hr
      clear c0 c1 d1
      go_wp2_with fail
      refine (write_16 w3.heap.size w3.heap.size _ (4 + S.size) (by omega) _ HI.out (by (try simp only [List.length_append, List.length_cons, List.length_nil, be16_length]); (try rw [HSL.out, ← HSV.out]); (try rw [HZL.out]); omega) HR3.out.size).mono ?_
      rintro e w7 ⟨rfl, hi, hr⟩
      replace HI := Lib.hid hi
      replace HR3 := Lib.hid (HR3.out.trans hr)
      clear hi hr
      go_wp2_with fail
      refine (string_any w3.heap.size w3.heap.size _ S _ HI.out (by (try simp only [List.length_append, List.length_cons, List.length_nil, be16_length]); (try rw [HSL.out, ← HSV.out]); (try rw [HZL.out]); omega) HR3.out.size).mono ?_
      rintro e w8 ⟨rfl, hi, hr⟩
      replace HI := Lib.hid hi
      replace HR3 := Lib.hid (HR3.out.trans hr)
      clear hi hr
      go_wp2_with fail
      refine (HPD.out _).mono ?_
      rintro e w9 ⟨rfl, rfl⟩
      go_wp2_with fail
      refine (string_any w3.heap.size w3.heap.size _ Z _ HI.out (by (try simp only [List.length_append, List.length_cons, List.length_nil, be16_length]); (try rw [HSL.out, ← HSV.out]); (try rw [HZL.out]); omega) HR3.out.size).mono ?_
      rintro e w10 ⟨rfl, hi, hr⟩
      replace HI := Lib.hid hi
      replace HR3 := Lib.hid (HR3.out.trans hr)
      clear hi hr
      go_wp2_with fail
      refine (told_any w3.heap.size w3.heap.size _ _ HI.out HR3.out.size).mono ?_
      rintro e w11 ⟨rfl, hi, hr⟩
      replace HR3 := Lib.hid (HR3.out.trans hr)
      clear hi hr
      go_wp2_with fail
      go_ret2
      exact ⟨by rw [HBY.out, HSL.out, HZD.out]; simp only [List.append_assoc, List.nil_append, List.cons_append]; rfl, HB.out.trans (HR3.out.1.mono HB.out.size)⟩
theorem ckright_any (c : Ck) (hw : WfC c) (hg : c.gaps.length ≤ 60000) (hd : c.dups.length ≤ 60000) (hit : c.items.length ≤ 100000) (his : ∀ x ∈ c.items, x.2.size ≤ 1000000) (hts : c.text.size ≤ 1000000) (g d it : Value) (w : World) (hp : Parts w c g d it) :
    Calls Try.prog 24 #[.agg (cellsC c g d it)] w fun e w' => e = .returned (.bool (decide ((buildC c).2 = 0))) ∧ Below w.heap.size w w' := by
  have HB := Lib.hid ((Below.refl w.heap.size w).alloc (Nat.le_refl _) (.cells (cellsC c g d it) 44))
  have H1 := Lib.hid (ckbuild_any c hw hg hd hit his hts g d it _ (hp.below HB.out))
  generalize buildC c = R at *
  obtain ⟨s, e⟩ := R
  obtain ⟨ty, fl, tsn, tag, win, ppid, st, ssn, outs, ins, gaps, dups, items, text⟩ := c
  dsimp only [cellsC] at *
  clear hw hp hg hd hit his hts
  by_cases h : e = 0
  · subst h
    rw [decide_eq_true rfl]
    go_enter Try.func24, Try.ntmps24
    go_wp2_with fail
    refine H1.out.mono ?_
    rintro e w1 ⟨rfl, hb⟩
    replace HB := Lib.hid (HB.out.trans (hb.mono HB.out.size))
    clear hb
    go_wp2_with fail
    go_ret
    exact ⟨rfl, HB.out⟩
  · rw [decide_eq_false h]
    have k1 : ((e : Int) == 0) = false := beq_eq_false_iff_ne.2 (by omega)
    clear h
    go_enter Try.func24, Try.ntmps24
    go_wp2_with fail
    refine H1.out.mono ?_
    rintro e' w1 ⟨rfl, hb⟩
    replace HB := Lib.hid (HB.out.trans (hb.mono HB.out.size))
    clear hb
    go_wp2_with fail
    go_ret
    exact ⟨rfl, HB.out⟩
end Go.Proofs.Ytfdnphkdpmlbnaa
