/-
  The value of data, of what its type alone tells: contracts. The value of init and of its answer, as the document puts it together: contracts. The value of a chunk of reports, as the document puts it together: a contract. The value of the chunks that have one number, or items, or a text, as the document puts it together: contracts.
-/
import Derived.Test.YtlbaockipeojhaaGreatRkA
import Derived.Test.YtlbaockipeojhaaGreatRefBuild
import Derived.Test.YtlbaockipeojhaaGreatCkFact
import Derived.BigRegion
section
namespace Go.Proofs.YtlbaockipeojhaaGreat
open Go.RowKit
set_option linter.unusedVariables false
set_option linter.unusedSimpArgs false
set_option maxRecDepth 100000

set_option maxHeartbeats 8000000 in
theorem rvalue_0 (fl : Int) (tsn tag win ppid st ssn outs ins : Nat) (gaps : List (Nat × Nat)) (dups : List Nat) (items : List Item) (text : ByteArray) (b1 : tsn < 4294967296) (b2 : tag < 4294967296) (b3 : win < 4294967296) (b4 : ppid < 4294967296) (b5 : st < 65536) (b6 : ssn < 65536) (b7 : outs < 65536) (b8 : ins < 65536)
    (hitems : items = []) (ht : text.size ≤ 1000) (hb : (buildB items).2 = 0) (g d it : Value) (w : World) (hp : Parts w ⟨0, fl, tsn, tag, win, ppid, st, ssn, outs, ins, gaps, dups, items, text⟩ g d it) (R : ByteArray) (hR : R = ⟨(valueL ⟨0, fl, tsn, tag, win, ppid, st, ssn, outs, ins, gaps, dups, items, text⟩).toArray⟩) :
    Calls Tryz.prog 54 #[.agg (cellsC ⟨0, fl, tsn, tag, win, ppid, st, ssn, outs, ins, gaps, dups, items, text⟩ g d it)] w fun e w' => e = .returned (.string R) ∧ Below w.heap.size w w' := by
  have HV := Lib.hid (value_0 fl tsn tag win ppid st ssn outs ins gaps dups text)
  rw [← hitems, ← hR] at HV
  clear hR
  obtain ⟨⟨A1, k1, rfl⟩, ⟨A2, k2, rfl⟩, ⟨A3, k3, rfl⟩⟩ := hp.slices
  obtain ⟨r1, r2, r3⟩ := build_ok hb
  obtain ⟨q1, q2⟩ := rowL_many items
  have HB0 := Lib.hid ((Below.refl w.heap.size w).alloc (Nat.le_refl _) (.cells #[.int .i64 0, .int .i64 fl, .int .u32 (tsn : Int), .int .u32 (tag : Int), .int .u32 (win : Int), .int .u32 (ppid : Int), .int .u16 (st : Int), .int .u16 (ssn : Int), .int .u16 (outs : Int), .int .u16 (ins : Int), .slice A1 gaps.length k1, .slice A2 dups.length k2, .slice A3 items.length k3, .string text] 74))
  have HBU := Lib.hid (rbuild_any items (by omega) (fun x hx => by have := q2 x hx; omega) _ _ (hp.items.below HB0.out))
  rw [hb, r3] at HBU
  obtain ⟨A, kk, he, hcap, hmax, hcells⟩ := hp.items
  cases he
  have hi' : (items.length : Int) ≤ 1000 := by omega
  dsimp only [cellsC] at *
  have H4a := Lib.hid (fun W => rfour_any tsn b1 W)
  have H2a := Lib.hid (fun W => rtwo_any st b5 W)
  have H2b := Lib.hid (fun W => rtwo_any ssn b6 W)
  have H4b := Lib.hid (fun W => rfour_any ppid b4 W)
  have vst : IntKind.i64.wrap (st : Int) = (st : Int) := by rw [IntKind.wrap_i64]; omega
  have vssn : IntKind.i64.wrap (ssn : Int) = (ssn : Int) := by rw [IntKind.wrap_i64]; omega
  have z1 : (be32B tsn).size = 4 := rfl
  have z2 : (be32B ppid).size = 4 := rfl
  have z3 : (twoB st).size = 2 := rfl
  have z4 : (twoB ssn).size = 2 := rfl
  have z5 : ¬ (9223372036854775807 < 12 + text.size) := by omega
  generalize be32B tsn = e1 at *
  generalize be32B ppid = e2 at *
  generalize twoB st = e3 at *
  generalize twoB ssn = e4 at *
  have hn : items = [] := hitems
  have i0 : ¬ (0 : Int) < (items.length : Int) := by rw [hn]; decide
  have hrb : (⟨(rowL items).toArray⟩ : ByteArray) = ⟨#[]⟩ := by rw [hn]; rfl
  have hib : (⟨(itemsL items).toArray⟩ : ByteArray) = ⟨#[]⟩ := by rw [hn]; rfl
  rw [hrb] at HBU
  try rw [hib] at HV
  clear hrb hib hn hitems
  clear hp hcells r1 r2 r3 q1 q2 hb HB0 
  go_enter Tryz.func54, Tryz.ntmps54
  go_wp2_with fail
  refine HBU.out.mono ?_
  rintro _ w1 ⟨rfl, hb1⟩
  have HX := Lib.hid ((hb1.block _ (by rw [World.size_alloc]; omega)).trans (heap_alloc_new w (.cells #[.int .i64 0, .int .i64 fl, .int .u32 (tsn : Int), .int .u32 (tag : Int), .int .u32 (win : Int), .int .u32 (ppid : Int), .int .u16 (st : Int), .int .u16 (ssn : Int), .int .u16 (outs : Int), .int .u16 (ins : Int), .slice A1 gaps.length k1, .slice A2 dups.length k2, .slice A3 items.length k3, .string text] 74)))
  have HVS := Lib.hid (show ValS w #[.int .i64 0, .int .i64 fl, .int .u32 (tsn : Int), .int .u32 (tag : Int), .int .u32 (win : Int), .int .u32 (ppid : Int), .int .u16 (st : Int), .int .u16 (ssn : Int), .int .u16 (outs : Int), .int .u16 (ins : Int), .slice A1 gaps.length k1, .slice A2 dups.length k2, .slice A3 items.length k3, .string text] w1 from ⟨HX.out, ((Below.refl _ w).alloc (Nat.le_refl _) (.cells #[.int .i64 0, .int .i64 fl, .int .u32 (tsn : Int), .int .u32 (tag : Int), .int .u32 (win : Int), .int .u32 (ppid : Int), .int .u16 (st : Int), .int .u16 (ssn : Int), .int .u16 (outs : Int), .int .u16 (ins : Int), .slice A1 gaps.length k1, .slice A2 dups.length k2, .slice A3 items.length k3, .string text] 74)).trans (hb1.mono (by rw [World.size_alloc]; omega))⟩)
  clear hb1
  have c0 : w1.cell? ⟨w.heap.size, 0, none⟩ = some (.int .i64 0) := by rw [cell_in HX.out]; rfl
  have c1 : w1.cell? ⟨w.heap.size, 1, none⟩ = some (.int .i64 fl) := by rw [cell_in HX.out]; rfl
  have c2 : w1.cell? ⟨w.heap.size, 2, none⟩ = some (.int .u32 (tsn : Int)) := by rw [cell_in HX.out]; rfl
  have c3 : w1.cell? ⟨w.heap.size, 3, none⟩ = some (.int .u32 (tag : Int)) := by rw [cell_in HX.out]; rfl
  have c4 : w1.cell? ⟨w.heap.size, 4, none⟩ = some (.int .u32 (win : Int)) := by rw [cell_in HX.out]; rfl
  have c5 : w1.cell? ⟨w.heap.size, 5, none⟩ = some (.int .u32 (ppid : Int)) := by rw [cell_in HX.out]; rfl
  have c6 : w1.cell? ⟨w.heap.size, 6, none⟩ = some (.int .u16 (st : Int)) := by rw [cell_in HX.out]; rfl
  have c7 : w1.cell? ⟨w.heap.size, 7, none⟩ = some (.int .u16 (ssn : Int)) := by rw [cell_in HX.out]; rfl
  have c8 : w1.cell? ⟨w.heap.size, 8, none⟩ = some (.int .u16 (outs : Int)) := by rw [cell_in HX.out]; rfl
  have c9 : w1.cell? ⟨w.heap.size, 9, none⟩ = some (.int .u16 (ins : Int)) := by rw [cell_in HX.out]; rfl
  have c10 : w1.cell? ⟨w.heap.size, 10, none⟩ = some (.slice A1 gaps.length k1) := by rw [cell_in HX.out]; rfl
  have c11 : w1.cell? ⟨w.heap.size, 11, none⟩ = some (.slice A2 dups.length k2) := by rw [cell_in HX.out]; rfl
  have c12 : w1.cell? ⟨w.heap.size, 12, none⟩ = some (.slice A3 items.length k3) := by rw [cell_in HX.out]; rfl
  have c13 : w1.cell? ⟨w.heap.size, 13, none⟩ = some (.string text) := by rw [cell_in HX.out]; rfl
  clear HX HBU
  go_wp2_with fail
  have HKS := Lib.hid (fun W (h : ValS w #[.int .i64 0, .int .i64 fl, .int .u32 (tsn : Int), .int .u32 (tag : Int), .int .u32 (win : Int), .int .u32 (ppid : Int), .int .u16 (st : Int), .int .u16 (ssn : Int), .int .u16 (outs : Int), .int .u16 (ins : Int), .slice A1 gaps.length k1, .slice A2 dups.length k2, .slice A3 items.length k3, .string text] W) => show W.cell? ⟨w.heap.size, 2, none⟩ = some (.int .u32 (tsn : Int)) ∧ W.cell? ⟨w.heap.size, 6, none⟩ = some (.int .u16 (st : Int)) ∧ W.cell? ⟨w.heap.size, 7, none⟩ = some (.int .u16 (ssn : Int)) ∧ W.cell? ⟨w.heap.size, 5, none⟩ = some (.int .u32 (ppid : Int)) ∧ W.cell? ⟨w.heap.size, 13, none⟩ = some (.string text) from ⟨by rw [cell_in h.1]; rfl, by rw [cell_in h.1]; rfl, by rw [cell_in h.1]; rfl, by rw [cell_in h.1]; rfl, by rw [cell_in h.1]; rfl⟩)
  clear c0 c1 c2 c3 c4 c5 c6 c7 c8 c9 c10 c11 c12 c13
  replace HVS := Lib.hid HVS.out.drew
  refine wp_region_noPanic ?_
  refine wp_region_held_drew (S := (fun w' => w'.cell? ⟨w.heap.size, 2, none⟩ = some (.int .u32 (tsn : Int)) ∧ w'.cell? ⟨w.heap.size, 6, none⟩ = some (.int .u16 (st : Int)) ∧ w'.cell? ⟨w.heap.size, 7, none⟩ = some (.int .u16 (ssn : Int)) ∧ w'.cell? ⟨w.heap.size, 5, none⟩ = some (.int .u32 (ppid : Int)) ∧ w'.cell? ⟨w.heap.size, 13, none⟩ = some (.string text))) (by kernel_rfl) ?_ (fun hHeld => ?_)
  · exact HKS.out _ HVS.out
  refine k9 0 ?_ (y := ?_) (h := ?_)
  rotate_left 1
  · (intro w' hSw; (try dsimp only at hSw); go_simp; try with_reducible rfl)
  try simp only [Act.put, p9a, p9z, p9s]
  refine k9 1 ?_ (y := ?_) (h := ?_)
  rotate_left 1
  · (intro w' hSw; (try dsimp only at hSw); go_simp; try with_reducible rfl)
  try simp only [Act.put, p9a, p9z, p9s]
  refine k9 3 ?_ (y := ?_) (h := ?_)
  rotate_left 1
  · (intro w' hSw; (try dsimp only at hSw); go_simp; try with_reducible rfl)
  try simp only [Act.put, p9a, p9z, p9s]
  refine k9 4 ?_ (y := ?_) (h := ?_)
  rotate_left 1
  · (intro w' hSw; (try dsimp only at hSw); go_simp; try with_reducible rfl)
  try simp only [Act.put, p9a, p9z, p9s]
  refine k9 5 ?_ (y := ?_) (h := ?_)
  rotate_left 1
  · (intro w' hSw; (try dsimp only at hSw); go_simp; try with_reducible rfl)
  try simp only [Act.put, p9a, p9z, p9s]
  refine k9 8 ?_ (y := ?_) (h := ?_)
  rotate_left 1
  · (intro w' hSw; (try dsimp only at hSw); go_simp; try with_reducible rfl)
  try simp only [Act.put, p9a, p9z, p9s]
  refine k9 9 ?_ (y := ?_) (h := ?_)
  rotate_left 1
  · (intro w' hSw; (try dsimp only at hSw); go_simp; try with_reducible rfl)
  try simp only [Act.put, p9a, p9z, p9s]
  refine k9 10 ?_ (y := ?_) (h := ?_)
  rotate_left 1
  · (intro w' hSw; (try dsimp only at hSw); go_simp; try with_reducible rfl)
  try simp only [Act.put, p9a, p9z, p9s]
  refine k9 13 ?_ (y := ?_) (h := ?_)
  rotate_left 1
  · (intro w' hSw; (try dsimp only at hSw); go_simp; try with_reducible rfl)
  try simp only [Act.put, p9a, p9z, p9s]
  refine k9 14 ?_ (y := ?_) (h := ?_)
  rotate_left 1
  · (intro w' hSw; (try dsimp only at hSw); go_simp; try with_reducible rfl)
  try simp only [Act.put, p9a, p9z, p9s]
  refine k9 17 ?_ (y := ?_) (h := ?_)
  rotate_left 1
  · (intro w' hSw; (try dsimp only at hSw); go_simp; try with_reducible rfl)
  try simp only [Act.put, p9a, p9z, p9s]
  refine k9 18 ?_ (y := ?_) (h := ?_)
  rotate_left 1
  · (intro w' hSw; (try dsimp only at hSw); go_simp; try with_reducible rfl)
  try simp only [Act.put, p9a, p9z, p9s]
  refine wpAnyH_ready (rs := [2]) (by kernel_rfl) (by simp) ?_
  refine AllReadyH.cons (by simp only [q9a, q9s, q9z]; rfl) (fun K hK => ?_) AllReadyH.nil
  go_simp
  refine (H4a.out _).mono ?_
  rintro _ wc0 ⟨rfl, hbc⟩
  replace HVS := Lib.hid (HVS.out.later hbc)
  clear hbc
  go_wp2_with fail
  refine hK.out _ _ ?_ (fun hHeld => ?_)
  · exact HKS.out _ HVS.out
  clear hK K
  try simp only [Act.put, p9a, p9z, p9s]
  refine wpAnyH_ready (rs := [6]) (by kernel_rfl) (by simp) ?_
  refine AllReadyH.cons (by simp only [q9a, q9s, q9z]; rfl) (fun K hK => ?_) AllReadyH.nil
  go_simp
  refine (H2a.out _).mono ?_
  rintro _ wc1 ⟨rfl, hbc⟩
  replace HVS := Lib.hid (HVS.out.later hbc)
  clear hbc
  go_wp2_with fail
  refine hK.out _ _ ?_ (fun hHeld => ?_)
  · exact HKS.out _ HVS.out
  clear hK K
  try simp only [Act.put, p9a, p9z, p9s]
  refine k9 7 ?_ (y := ?_) (h := ?_)
  rotate_left 1
  · (intro w' hSw; (try dsimp only at hSw); go_simp; try with_reducible rfl)
  try simp only [Act.put, p9a, p9z, p9s]
  refine wpAnyH_ready (rs := [11]) (by kernel_rfl) (by simp) ?_
  refine AllReadyH.cons (by simp only [q9a, q9s, q9z]; rfl) (fun K hK => ?_) AllReadyH.nil
  go_simp
  refine (H2b.out _).mono ?_
  rintro _ wc2 ⟨rfl, hbc⟩
  replace HVS := Lib.hid (HVS.out.later hbc)
  clear hbc
  go_wp2_with fail
  refine hK.out _ _ ?_ (fun hHeld => ?_)
  · exact HKS.out _ HVS.out
  clear hK K
  try simp only [Act.put, p9a, p9z, p9s]
  refine k9 12 ?_ (y := ?_) (h := ?_)
  rotate_left 1
  · (intro w' hSw; (try dsimp only at hSw); go_simp; try with_reducible rfl)
  try simp only [Act.put, p9a, p9z, p9s]
  refine wpAnyH_ready (rs := [15]) (by kernel_rfl) (by simp) ?_
  refine AllReadyH.cons (by simp only [q9a, q9s, q9z]; rfl) (fun K hK => ?_) AllReadyH.nil
  go_simp
  refine (H4b.out _).mono ?_
  rintro _ wc3 ⟨rfl, hbc⟩
  replace HVS := Lib.hid (HVS.out.later hbc)
  clear hbc
  go_wp2_with fail
  refine hK.out _ _ ?_ (fun hHeld => ?_)
  · exact HKS.out _ HVS.out
  clear hK K
  try simp only [Act.put, p9a, p9z, p9s]
  refine k9 16 ?_ (y := ?_) (h := ?_)
  rotate_left 1
  · (intro w' hSw; (try dsimp only at hSw); go_simp; try with_reducible rfl)
  try simp only [Act.put, p9a, p9z, p9s]
  refine k9 19 ?_ (y := ?_) (h := ?_)
  rotate_left 1
  · (intro w' hSw; (try dsimp only at hSw); go_simp; try with_reducible rfl)
  try simp only [Act.put, p9a, p9z, p9s]
  refine k9 20 ?_ (y := ?_) (h := ?_)
  rotate_left 1
  · (intro w' hSw; (try dsimp only at hSw); go_simp; try with_reducible rfl)
  try simp only [Act.put, p9a, p9z, p9s]
  refine wpAnyH_done (by kernel_rfl) ?_ _
  refine NoPanic.normal ?_
  clear hHeld HKS
  go_wp2_with fail
  go_ret
  exact ⟨by rw [← HV.out]; rfl, HVS.out.2⟩
end Go.Proofs.YtlbaockipeojhaaGreat
end
section
namespace Go.Proofs.YtlbaockipeojhaaGreat
open Go.RowKit
set_option linter.unusedVariables false
set_option linter.unusedSimpArgs false
set_option maxRecDepth 100000

set_option maxHeartbeats 8000000 in
theorem rvalue_1 (fl : Int) (tsn tag win ppid st ssn outs ins : Nat) (gaps : List (Nat × Nat)) (dups : List Nat) (items : List Item) (text : ByteArray) (b1 : tsn < 4294967296) (b2 : tag < 4294967296) (b3 : win < 4294967296) (b4 : ppid < 4294967296) (b5 : st < 65536) (b6 : ssn < 65536) (b7 : outs < 65536) (b8 : ins < 65536)
    (htext : text = noB) (hb : (buildB items).2 = 0) (g d it : Value) (w : World) (hp : Parts w ⟨1, fl, tsn, tag, win, ppid, st, ssn, outs, ins, gaps, dups, items, text⟩ g d it) (R : ByteArray) (hR : R = ⟨(valueL ⟨1, fl, tsn, tag, win, ppid, st, ssn, outs, ins, gaps, dups, items, text⟩).toArray⟩) :
    Calls Tryz.prog 54 #[.agg (cellsC ⟨1, fl, tsn, tag, win, ppid, st, ssn, outs, ins, gaps, dups, items, text⟩ g d it)] w fun e w' => e = .returned (.string R) ∧ Below w.heap.size w w' := by
  have HV := Lib.hid (value_1 fl tsn tag win ppid st ssn outs ins gaps dups items)
  rw [← htext, ← hR] at HV
  clear hR htext
  obtain ⟨⟨A1, k1, rfl⟩, ⟨A2, k2, rfl⟩, ⟨A3, k3, rfl⟩⟩ := hp.slices
  obtain ⟨r1, r2, r3⟩ := build_ok hb
  obtain ⟨q1, q2⟩ := rowL_many items
  have HB0 := Lib.hid ((Below.refl w.heap.size w).alloc (Nat.le_refl _) (.cells #[.int .i64 1, .int .i64 fl, .int .u32 (tsn : Int), .int .u32 (tag : Int), .int .u32 (win : Int), .int .u32 (ppid : Int), .int .u16 (st : Int), .int .u16 (ssn : Int), .int .u16 (outs : Int), .int .u16 (ins : Int), .slice A1 gaps.length k1, .slice A2 dups.length k2, .slice A3 items.length k3, .string text] 74))
  have HBU := Lib.hid (rbuild_any items (by omega) (fun x hx => by have := q2 x hx; omega) _ _ (hp.items.below HB0.out))
  rw [hb, r3] at HBU
  obtain ⟨A, kk, he, hcap, hmax, hcells⟩ := hp.items
  cases he
  have hi' : (items.length : Int) ≤ 1000 := by omega
  dsimp only [cellsC] at *
  have H4a := Lib.hid (fun W => rfour_any tag b2 W)
  have H4b := Lib.hid (fun W => rfour_any win b3 W)
  have H2a := Lib.hid (fun W => rtwo_any outs b7 W)
  have H2b := Lib.hid (fun W => rtwo_any ins b8 W)
  have H4c := Lib.hid (fun W => rfour_any tsn b1 W)
  have vouts : IntKind.i64.wrap (outs : Int) = (outs : Int) := by rw [IntKind.wrap_i64]; omega
  have vins : IntKind.i64.wrap (ins : Int) = (ins : Int) := by rw [IntKind.wrap_i64]; omega
  have z1 : (be32B tag).size = 4 := rfl
  have z2 : (be32B win).size = 4 := rfl
  have z3 : (twoB outs).size = 2 := rfl
  have z4 : (twoB ins).size = 2 := rfl
  have z5 : (be32B tsn).size = 4 := rfl
  generalize hg1 : be32B tag = e1 at *
  generalize hg2 : be32B win = e2 at *
  generalize hg3 : twoB outs = e3 at *
  generalize hg4 : twoB ins = e4 at *
  generalize hg5 : be32B tsn = e5 at *
  clear hg1 hg2 hg3 hg4 hg5
  by_cases hitems : items = []
  case pos =>
    have hn : items = [] := hitems
    have i0 : ¬ (0 : Int) < (items.length : Int) := by rw [hn]; decide
    have hrb : (⟨(rowL items).toArray⟩ : ByteArray) = ⟨#[]⟩ := by rw [hn]; rfl
    have hib : (⟨(itemsL items).toArray⟩ : ByteArray) = ⟨#[]⟩ := by rw [hn]; rfl
    rw [hrb] at HBU
    try rw [hib] at HV
    clear hrb hib hn hitems
    clear hp hcells r1 r2 r3 q1 q2 hb HB0 
    go_enter Tryz.func54, Tryz.ntmps54
    go_wp2_with fail
    refine HBU.out.mono ?_
    rintro _ w1 ⟨rfl, hb1⟩
    have HX := Lib.hid ((hb1.block _ (by rw [World.size_alloc]; omega)).trans (heap_alloc_new w (.cells #[.int .i64 1, .int .i64 fl, .int .u32 (tsn : Int), .int .u32 (tag : Int), .int .u32 (win : Int), .int .u32 (ppid : Int), .int .u16 (st : Int), .int .u16 (ssn : Int), .int .u16 (outs : Int), .int .u16 (ins : Int), .slice A1 gaps.length k1, .slice A2 dups.length k2, .slice A3 items.length k3, .string text] 74)))
    have HVS := Lib.hid (show ValS w #[.int .i64 1, .int .i64 fl, .int .u32 (tsn : Int), .int .u32 (tag : Int), .int .u32 (win : Int), .int .u32 (ppid : Int), .int .u16 (st : Int), .int .u16 (ssn : Int), .int .u16 (outs : Int), .int .u16 (ins : Int), .slice A1 gaps.length k1, .slice A2 dups.length k2, .slice A3 items.length k3, .string text] w1 from ⟨HX.out, ((Below.refl _ w).alloc (Nat.le_refl _) (.cells #[.int .i64 1, .int .i64 fl, .int .u32 (tsn : Int), .int .u32 (tag : Int), .int .u32 (win : Int), .int .u32 (ppid : Int), .int .u16 (st : Int), .int .u16 (ssn : Int), .int .u16 (outs : Int), .int .u16 (ins : Int), .slice A1 gaps.length k1, .slice A2 dups.length k2, .slice A3 items.length k3, .string text] 74)).trans (hb1.mono (by rw [World.size_alloc]; omega))⟩)
    clear hb1
    have c0 : w1.cell? ⟨w.heap.size, 0, none⟩ = some (.int .i64 1) := by rw [cell_in HX.out]; rfl
    have c1 : w1.cell? ⟨w.heap.size, 1, none⟩ = some (.int .i64 fl) := by rw [cell_in HX.out]; rfl
    have c2 : w1.cell? ⟨w.heap.size, 2, none⟩ = some (.int .u32 (tsn : Int)) := by rw [cell_in HX.out]; rfl
    have c3 : w1.cell? ⟨w.heap.size, 3, none⟩ = some (.int .u32 (tag : Int)) := by rw [cell_in HX.out]; rfl
    have c4 : w1.cell? ⟨w.heap.size, 4, none⟩ = some (.int .u32 (win : Int)) := by rw [cell_in HX.out]; rfl
    have c5 : w1.cell? ⟨w.heap.size, 5, none⟩ = some (.int .u32 (ppid : Int)) := by rw [cell_in HX.out]; rfl
    have c6 : w1.cell? ⟨w.heap.size, 6, none⟩ = some (.int .u16 (st : Int)) := by rw [cell_in HX.out]; rfl
    have c7 : w1.cell? ⟨w.heap.size, 7, none⟩ = some (.int .u16 (ssn : Int)) := by rw [cell_in HX.out]; rfl
    have c8 : w1.cell? ⟨w.heap.size, 8, none⟩ = some (.int .u16 (outs : Int)) := by rw [cell_in HX.out]; rfl
    have c9 : w1.cell? ⟨w.heap.size, 9, none⟩ = some (.int .u16 (ins : Int)) := by rw [cell_in HX.out]; rfl
    have c10 : w1.cell? ⟨w.heap.size, 10, none⟩ = some (.slice A1 gaps.length k1) := by rw [cell_in HX.out]; rfl
    have c11 : w1.cell? ⟨w.heap.size, 11, none⟩ = some (.slice A2 dups.length k2) := by rw [cell_in HX.out]; rfl
    have c12 : w1.cell? ⟨w.heap.size, 12, none⟩ = some (.slice A3 items.length k3) := by rw [cell_in HX.out]; rfl
    have c13 : w1.cell? ⟨w.heap.size, 13, none⟩ = some (.string text) := by rw [cell_in HX.out]; rfl
    clear HX HBU
    go_wp2_with fail
    have HKS := Lib.hid (fun W (h : ValS w #[.int .i64 1, .int .i64 fl, .int .u32 (tsn : Int), .int .u32 (tag : Int), .int .u32 (win : Int), .int .u32 (ppid : Int), .int .u16 (st : Int), .int .u16 (ssn : Int), .int .u16 (outs : Int), .int .u16 (ins : Int), .slice A1 gaps.length k1, .slice A2 dups.length k2, .slice A3 items.length k3, .string text] W) => show W.cell? ⟨w.heap.size, 3, none⟩ = some (.int .u32 (tag : Int)) ∧ W.cell? ⟨w.heap.size, 4, none⟩ = some (.int .u32 (win : Int)) ∧ W.cell? ⟨w.heap.size, 8, none⟩ = some (.int .u16 (outs : Int)) ∧ W.cell? ⟨w.heap.size, 9, none⟩ = some (.int .u16 (ins : Int)) ∧ W.cell? ⟨w.heap.size, 2, none⟩ = some (.int .u32 (tsn : Int)) from ⟨by rw [cell_in h.1]; rfl, by rw [cell_in h.1]; rfl, by rw [cell_in h.1]; rfl, by rw [cell_in h.1]; rfl, by rw [cell_in h.1]; rfl⟩)
    clear c0 c1 c2 c3 c4 c5 c6 c7 c8 c9 c10 c11 c12 c13
    replace HVS := Lib.hid HVS.out.drew
    refine wp_region_noPanic ?_
    refine wp_region_held_drew (S := (fun w' => w'.cell? ⟨w.heap.size, 3, none⟩ = some (.int .u32 (tag : Int)) ∧ w'.cell? ⟨w.heap.size, 4, none⟩ = some (.int .u32 (win : Int)) ∧ w'.cell? ⟨w.heap.size, 8, none⟩ = some (.int .u16 (outs : Int)) ∧ w'.cell? ⟨w.heap.size, 9, none⟩ = some (.int .u16 (ins : Int)) ∧ w'.cell? ⟨w.heap.size, 2, none⟩ = some (.int .u32 (tsn : Int)))) (by kernel_rfl) ?_ (fun hHeld => ?_)
    · exact HKS.out _ HVS.out
    refine k9 0 ?_ (y := ?_) (h := ?_)
    rotate_left 1
    · (intro w' hSw; (try dsimp only at hSw); go_simp; try with_reducible rfl)
    try simp only [Act.put, p9a, p9z, p9s]
    refine k9 1 ?_ (y := ?_) (h := ?_)
    rotate_left 1
    · (intro w' hSw; (try dsimp only at hSw); go_simp; try with_reducible rfl)
    try simp only [Act.put, p9a, p9z, p9s]
    refine k9 3 ?_ (y := ?_) (h := ?_)
    rotate_left 1
    · (intro w' hSw; (try dsimp only at hSw); go_simp; try with_reducible rfl)
    try simp only [Act.put, p9a, p9z, p9s]
    refine k9 4 ?_ (y := ?_) (h := ?_)
    rotate_left 1
    · (intro w' hSw; (try dsimp only at hSw); go_simp; try with_reducible rfl)
    try simp only [Act.put, p9a, p9z, p9s]
    refine k9 7 ?_ (y := ?_) (h := ?_)
    rotate_left 1
    · (intro w' hSw; (try dsimp only at hSw); go_simp; try with_reducible rfl)
    try simp only [Act.put, p9a, p9z, p9s]
    refine k9 8 ?_ (y := ?_) (h := ?_)
    rotate_left 1
    · (intro w' hSw; (try dsimp only at hSw); go_simp; try with_reducible rfl)
    try simp only [Act.put, p9a, p9z, p9s]
    refine k9 9 ?_ (y := ?_) (h := ?_)
    rotate_left 1
    · (intro w' hSw; (try dsimp only at hSw); go_simp; try with_reducible rfl)
    try simp only [Act.put, p9a, p9z, p9s]
    refine k9 12 ?_ (y := ?_) (h := ?_)
    rotate_left 1
    · (intro w' hSw; (try dsimp only at hSw); go_simp; try with_reducible rfl)
    try simp only [Act.put, p9a, p9z, p9s]
    refine k9 13 ?_ (y := ?_) (h := ?_)
    rotate_left 1
    · (intro w' hSw; (try dsimp only at hSw); go_simp; try with_reducible rfl)
    try simp only [Act.put, p9a, p9z, p9s]
    refine k9 14 ?_ (y := ?_) (h := ?_)
    rotate_left 1
    · (intro w' hSw; (try dsimp only at hSw); go_simp; try with_reducible rfl)
    try simp only [Act.put, p9a, p9z, p9s]
    refine k9 17 ?_ (y := ?_) (h := ?_)
    rotate_left 1
    · (intro w' hSw; (try dsimp only at hSw); go_simp; try with_reducible rfl)
    try simp only [Act.put, p9a, p9z, p9s]
    refine k9 18 ?_ (y := ?_) (h := ?_)
    rotate_left 1
    · (intro w' hSw; (try dsimp only at hSw); go_simp; try with_reducible rfl)
    try simp only [Act.put, p9a, p9z, p9s]
    refine k9 21 ?_ (y := ?_) (h := ?_)
    rotate_left 1
    · (intro w' hSw; (try dsimp only at hSw); go_simp; try with_reducible rfl)
    try simp only [Act.put, p9a, p9z, p9s]
    refine wpAnyH_ready (rs := [2]) (by kernel_rfl) (by simp) ?_
    refine AllReadyH.cons (by simp only [q9a, q9s, q9z]; rfl) (fun K hK => ?_) AllReadyH.nil
    go_simp
    refine (H4a.out _).mono ?_
    rintro _ wc0 ⟨rfl, hbc⟩
    replace HVS := Lib.hid (HVS.out.later hbc)
    clear hbc
    go_wp2_with fail
    refine hK.out _ _ ?_ (fun hHeld => ?_)
    · exact HKS.out _ HVS.out
    clear hK K
    try simp only [Act.put, p9a, p9z, p9s]
    refine wpAnyH_ready (rs := [5]) (by kernel_rfl) (by simp) ?_
    refine AllReadyH.cons (by simp only [q9a, q9s, q9z]; rfl) (fun K hK => ?_) AllReadyH.nil
    go_simp
    refine (H4b.out _).mono ?_
    rintro _ wc1 ⟨rfl, hbc⟩
    replace HVS := Lib.hid (HVS.out.later hbc)
    clear hbc
    go_wp2_with fail
    refine hK.out _ _ ?_ (fun hHeld => ?_)
    · exact HKS.out _ HVS.out
    clear hK K
    try simp only [Act.put, p9a, p9z, p9s]
    refine k9 6 ?_ (y := ?_) (h := ?_)
    rotate_left 1
    · (intro w' hSw; (try dsimp only at hSw); go_simp; try with_reducible rfl)
    try simp only [Act.put, p9a, p9z, p9s]
    refine wpAnyH_ready (rs := [10]) (by kernel_rfl) (by simp) ?_
    refine AllReadyH.cons (by simp only [q9a, q9s, q9z]; rfl) (fun K hK => ?_) AllReadyH.nil
    go_simp
    refine (H2a.out _).mono ?_
    rintro _ wc2 ⟨rfl, hbc⟩
    replace HVS := Lib.hid (HVS.out.later hbc)
    clear hbc
    go_wp2_with fail
    refine hK.out _ _ ?_ (fun hHeld => ?_)
    · exact HKS.out _ HVS.out
    clear hK K
    try simp only [Act.put, p9a, p9z, p9s]
    refine k9 11 ?_ (y := ?_) (h := ?_)
    rotate_left 1
    · (intro w' hSw; (try dsimp only at hSw); go_simp; try with_reducible rfl)
    try simp only [Act.put, p9a, p9z, p9s]
    refine wpAnyH_ready (rs := [15]) (by kernel_rfl) (by simp) ?_
    refine AllReadyH.cons (by simp only [q9a, q9s, q9z]; rfl) (fun K hK => ?_) AllReadyH.nil
    go_simp
    refine (H2b.out _).mono ?_
    rintro _ wc3 ⟨rfl, hbc⟩
    replace HVS := Lib.hid (HVS.out.later hbc)
    clear hbc
    go_wp2_with fail
    refine hK.out _ _ ?_ (fun hHeld => ?_)
    · exact HKS.out _ HVS.out
    clear hK K
    try simp only [Act.put, p9a, p9z, p9s]
    refine k9 16 ?_ (y := ?_) (h := ?_)
    rotate_left 1
    · (intro w' hSw; (try dsimp only at hSw); go_simp; try with_reducible rfl)
    try simp only [Act.put, p9a, p9z, p9s]
    refine wpAnyH_ready (rs := [19]) (by kernel_rfl) (by simp) ?_
    refine AllReadyH.cons (by simp only [q9a, q9s, q9z]; rfl) (fun K hK => ?_) AllReadyH.nil
    go_simp
    refine (H4c.out _).mono ?_
    rintro _ wc4 ⟨rfl, hbc⟩
    replace HVS := Lib.hid (HVS.out.later hbc)
    clear hbc
    go_wp2_with fail
    refine hK.out _ _ ?_ (fun hHeld => ?_)
    · exact HKS.out _ HVS.out
    clear hK K
    try simp only [Act.put, p9a, p9z, p9s]
    refine k9 20 ?_ (y := ?_) (h := ?_)
    rotate_left 1
    · (intro w' hSw; (try dsimp only at hSw); go_simp; try with_reducible rfl)
    try simp only [Act.put, p9a, p9z, p9s]
    refine k9 22 ?_ (y := ?_) (h := ?_)
    rotate_left 1
    · (intro w' hSw; (try dsimp only at hSw); go_simp; try with_reducible rfl)
    try simp only [Act.put, p9a, p9z, p9s]
    refine k9 23 ?_ (y := ?_) (h := ?_)
    rotate_left 1
    · (intro w' hSw; (try dsimp only at hSw); go_simp; try with_reducible rfl)
    try simp only [Act.put, p9a, p9z, p9s]
    refine wpAnyH_done (by kernel_rfl) ?_ _
    refine NoPanic.normal ?_
    clear hHeld HKS
    go_wp2_with fail
    go_ret
    exact ⟨by rw [← HV.out]; rfl, HVS.out.2⟩
  case neg =>
    have hpos : 0 < items.length := List.length_pos_iff.2 hitems
    obtain ⟨b, off, rfl, hb', hc⟩ := hcells (by omega)
    obtain ⟨j, hj⟩ : ∃ j, items.length = j + 1 := ⟨items.length - 1, by omega⟩
    have hlp := lastPad_last items (by omega)
    have hcut := cut_items items
    have hc1 := (hc j (by omega)).2
    have hjx : items[items.length - 1]'(by omega) = items[j]'(by omega) := by congr 1; omega
    rw [hjx] at hlp
    have hxs := q2 (items[j]'(by omega)) (List.getElem_mem _)
    generalize items[j]'(by omega) = x at *
    obtain ⟨xa, xt⟩ := x
    dsimp only at hc1 hlp hxs
    have HPD := Lib.hid (fun W => rpad_any (xt.size : Int) (by omega) (by omega) W)
    rw [padI_nat, ← hlp] at HPD
    have hle := lastPad_le items
    generalize lastPad items = p at *
    have hsz : (⟨(rowL items).toArray⟩ : ByteArray).size = (rowL items).length := toB_size _
    have y1 : IntKind.i64.wrap ((items.length : Int) - 1) = (j : Int) := by rw [IntKind.wrap_i64]; omega
    have y2 : IntKind.i64.wrap (((⟨(rowL items).toArray⟩ : ByteArray).size : Int) - (p : Int)) = (((rowL items).length - p : Nat) : Int) := by rw [hsz, IntKind.wrap_i64]; omega
    have y3 : (0 : Int) ≤ (((rowL items).length - p : Nat) : Int) := by omega
    have y4 : (((rowL items).length - p : Nat) : Int) ≤ ((⟨(rowL items).toArray⟩ : ByteArray).size : Int) := by rw [hsz]; omega
    have y5 : (0 : Int) ≤ (j : Int) := by omega
    have y6 : (j : Int) < (items.length : Int) := by omega
    have i0 : (0 : Int) < (items.length : Int) := by omega
    have hibs : (⟨(itemsL items).toArray⟩ : ByteArray).size ≤ 4000 := by rw [toB_size, itemsL_length]; omega
    generalize (rowL items).length - p = q at *
    generalize (⟨(itemsL items).toArray⟩ : ByteArray) = ib at *
    generalize (⟨(rowL items).toArray⟩ : ByteArray) = rb at *
    have y7 : rb.size ≤ 4000 := by omega
    have z6 : ¬ (9223372036854775807 < 16 + ib.size) := by omega
    clear hp hcells r1 r2 r3 q1 q2 hb HB0 hc hj hjx hlp hle hxs hsz hpos hitems
    go_enter Tryz.func54, Tryz.ntmps54
    go_wp2_with fail
    refine HBU.out.mono ?_
    rintro _ w1 ⟨rfl, hb1⟩
    have HX := Lib.hid ((hb1.block _ (by rw [World.size_alloc]; omega)).trans (heap_alloc_new w (.cells #[.int .i64 1, .int .i64 fl, .int .u32 (tsn : Int), .int .u32 (tag : Int), .int .u32 (win : Int), .int .u32 (ppid : Int), .int .u16 (st : Int), .int .u16 (ssn : Int), .int .u16 (outs : Int), .int .u16 (ins : Int), .slice A1 gaps.length k1, .slice A2 dups.length k2, .slice (some ⟨b, off, none⟩) items.length k3, .string text] 74)))
    have HVS := Lib.hid (show ValS w #[.int .i64 1, .int .i64 fl, .int .u32 (tsn : Int), .int .u32 (tag : Int), .int .u32 (win : Int), .int .u32 (ppid : Int), .int .u16 (st : Int), .int .u16 (ssn : Int), .int .u16 (outs : Int), .int .u16 (ins : Int), .slice A1 gaps.length k1, .slice A2 dups.length k2, .slice (some ⟨b, off, none⟩) items.length k3, .string text] w1 from ⟨HX.out, ((Below.refl _ w).alloc (Nat.le_refl _) (.cells #[.int .i64 1, .int .i64 fl, .int .u32 (tsn : Int), .int .u32 (tag : Int), .int .u32 (win : Int), .int .u32 (ppid : Int), .int .u16 (st : Int), .int .u16 (ssn : Int), .int .u16 (outs : Int), .int .u16 (ins : Int), .slice A1 gaps.length k1, .slice A2 dups.length k2, .slice (some ⟨b, off, none⟩) items.length k3, .string text] 74)).trans (hb1.mono (by rw [World.size_alloc]; omega))⟩)
    clear hb1
    have c0 : w1.cell? ⟨w.heap.size, 0, none⟩ = some (.int .i64 1) := by rw [cell_in HX.out]; rfl
    have c1 : w1.cell? ⟨w.heap.size, 1, none⟩ = some (.int .i64 fl) := by rw [cell_in HX.out]; rfl
    have c2 : w1.cell? ⟨w.heap.size, 2, none⟩ = some (.int .u32 (tsn : Int)) := by rw [cell_in HX.out]; rfl
    have c3 : w1.cell? ⟨w.heap.size, 3, none⟩ = some (.int .u32 (tag : Int)) := by rw [cell_in HX.out]; rfl
    have c4 : w1.cell? ⟨w.heap.size, 4, none⟩ = some (.int .u32 (win : Int)) := by rw [cell_in HX.out]; rfl
    have c5 : w1.cell? ⟨w.heap.size, 5, none⟩ = some (.int .u32 (ppid : Int)) := by rw [cell_in HX.out]; rfl
    have c6 : w1.cell? ⟨w.heap.size, 6, none⟩ = some (.int .u16 (st : Int)) := by rw [cell_in HX.out]; rfl
    have c7 : w1.cell? ⟨w.heap.size, 7, none⟩ = some (.int .u16 (ssn : Int)) := by rw [cell_in HX.out]; rfl
    have c8 : w1.cell? ⟨w.heap.size, 8, none⟩ = some (.int .u16 (outs : Int)) := by rw [cell_in HX.out]; rfl
    have c9 : w1.cell? ⟨w.heap.size, 9, none⟩ = some (.int .u16 (ins : Int)) := by rw [cell_in HX.out]; rfl
    have c10 : w1.cell? ⟨w.heap.size, 10, none⟩ = some (.slice A1 gaps.length k1) := by rw [cell_in HX.out]; rfl
    have c11 : w1.cell? ⟨w.heap.size, 11, none⟩ = some (.slice A2 dups.length k2) := by rw [cell_in HX.out]; rfl
    have c12 : w1.cell? ⟨w.heap.size, 12, none⟩ = some (.slice (some ⟨b, off, none⟩) items.length k3) := by rw [cell_in HX.out]; rfl
    have c13 : w1.cell? ⟨w.heap.size, 13, none⟩ = some (.string text) := by rw [cell_in HX.out]; rfl
    have hd1 := (HVS.out.2.cell (p := ⟨b, off + j * 2 + 1, none⟩) hb').trans hc1
    clear HX hc1 HBU
    go_wp2_with fail
    refine (HPD.out _).mono ?_
    rintro _ w2 ⟨rfl, rfl⟩
    go_wp2_with fail
    have HKS := Lib.hid (fun W (h : ValS w #[.int .i64 1, .int .i64 fl, .int .u32 (tsn : Int), .int .u32 (tag : Int), .int .u32 (win : Int), .int .u32 (ppid : Int), .int .u16 (st : Int), .int .u16 (ssn : Int), .int .u16 (outs : Int), .int .u16 (ins : Int), .slice A1 gaps.length k1, .slice A2 dups.length k2, .slice (some ⟨b, off, none⟩) items.length k3, .string text] W) => show W.cell? ⟨w.heap.size, 3, none⟩ = some (.int .u32 (tag : Int)) ∧ W.cell? ⟨w.heap.size, 4, none⟩ = some (.int .u32 (win : Int)) ∧ W.cell? ⟨w.heap.size, 8, none⟩ = some (.int .u16 (outs : Int)) ∧ W.cell? ⟨w.heap.size, 9, none⟩ = some (.int .u16 (ins : Int)) ∧ W.cell? ⟨w.heap.size, 2, none⟩ = some (.int .u32 (tsn : Int)) from ⟨by rw [cell_in h.1]; rfl, by rw [cell_in h.1]; rfl, by rw [cell_in h.1]; rfl, by rw [cell_in h.1]; rfl, by rw [cell_in h.1]; rfl⟩)
    clear c0 c1 c2 c3 c4 c5 c6 c7 c8 c9 c10 c11 c12 c13
    replace HVS := Lib.hid HVS.out.drew
    refine wp_region_noPanic ?_
    refine wp_region_held_drew (S := (fun w' => w'.cell? ⟨w.heap.size, 3, none⟩ = some (.int .u32 (tag : Int)) ∧ w'.cell? ⟨w.heap.size, 4, none⟩ = some (.int .u32 (win : Int)) ∧ w'.cell? ⟨w.heap.size, 8, none⟩ = some (.int .u16 (outs : Int)) ∧ w'.cell? ⟨w.heap.size, 9, none⟩ = some (.int .u16 (ins : Int)) ∧ w'.cell? ⟨w.heap.size, 2, none⟩ = some (.int .u32 (tsn : Int)))) (by kernel_rfl) ?_ (fun hHeld => ?_)
    · exact HKS.out _ HVS.out
    refine k9 0 ?_ (y := ?_) (h := ?_)
    rotate_left 1
    · (intro w' hSw; (try dsimp only at hSw); go_simp; try with_reducible rfl)
    try simp only [Act.put, p9a, p9z, p9s]
    refine k9 1 ?_ (y := ?_) (h := ?_)
    rotate_left 1
    · (intro w' hSw; (try dsimp only at hSw); go_simp; try with_reducible rfl)
    try simp only [Act.put, p9a, p9z, p9s]
    refine k9 3 ?_ (y := ?_) (h := ?_)
    rotate_left 1
    · (intro w' hSw; (try dsimp only at hSw); go_simp; try with_reducible rfl)
    try simp only [Act.put, p9a, p9z, p9s]
    refine k9 4 ?_ (y := ?_) (h := ?_)
    rotate_left 1
    · (intro w' hSw; (try dsimp only at hSw); go_simp; try with_reducible rfl)
    try simp only [Act.put, p9a, p9z, p9s]
    refine k9 7 ?_ (y := ?_) (h := ?_)
    rotate_left 1
    · (intro w' hSw; (try dsimp only at hSw); go_simp; try with_reducible rfl)
    try simp only [Act.put, p9a, p9z, p9s]
    refine k9 8 ?_ (y := ?_) (h := ?_)
    rotate_left 1
    · (intro w' hSw; (try dsimp only at hSw); go_simp; try with_reducible rfl)
    try simp only [Act.put, p9a, p9z, p9s]
    refine k9 9 ?_ (y := ?_) (h := ?_)
    rotate_left 1
    · (intro w' hSw; (try dsimp only at hSw); go_simp; try with_reducible rfl)
    try simp only [Act.put, p9a, p9z, p9s]
    refine k9 12 ?_ (y := ?_) (h := ?_)
    rotate_left 1
    · (intro w' hSw; (try dsimp only at hSw); go_simp; try with_reducible rfl)
    try simp only [Act.put, p9a, p9z, p9s]
    refine k9 13 ?_ (y := ?_) (h := ?_)
    rotate_left 1
    · (intro w' hSw; (try dsimp only at hSw); go_simp; try with_reducible rfl)
    try simp only [Act.put, p9a, p9z, p9s]
    refine k9 14 ?_ (y := ?_) (h := ?_)
    rotate_left 1
    · (intro w' hSw; (try dsimp only at hSw); go_simp; try with_reducible rfl)
    try simp only [Act.put, p9a, p9z, p9s]
    refine k9 17 ?_ (y := ?_) (h := ?_)
    rotate_left 1
    · (intro w' hSw; (try dsimp only at hSw); go_simp; try with_reducible rfl)
    try simp only [Act.put, p9a, p9z, p9s]
    refine k9 18 ?_ (y := ?_) (h := ?_)
    rotate_left 1
    · (intro w' hSw; (try dsimp only at hSw); go_simp; try with_reducible rfl)
    try simp only [Act.put, p9a, p9z, p9s]
    refine k9 21 ?_ (y := ?_) (h := ?_)
    rotate_left 1
    · (intro w' hSw; (try dsimp only at hSw); go_simp; try with_reducible rfl)
    try simp only [Act.put, p9a, p9z, p9s]
    refine wpAnyH_ready (rs := [2]) (by kernel_rfl) (by simp) ?_
    refine AllReadyH.cons (by simp only [q9a, q9s, q9z]; rfl) (fun K hK => ?_) AllReadyH.nil
    go_simp
    refine (H4a.out _).mono ?_
    rintro _ wc0 ⟨rfl, hbc⟩
    replace HVS := Lib.hid (HVS.out.later hbc)
    clear hbc
    go_wp2_with fail
    refine hK.out _ _ ?_ (fun hHeld => ?_)
    · exact HKS.out _ HVS.out
    clear hK K
    try simp only [Act.put, p9a, p9z, p9s]
    refine wpAnyH_ready (rs := [5]) (by kernel_rfl) (by simp) ?_
    refine AllReadyH.cons (by simp only [q9a, q9s, q9z]; rfl) (fun K hK => ?_) AllReadyH.nil
    go_simp
    refine (H4b.out _).mono ?_
    rintro _ wc1 ⟨rfl, hbc⟩
    replace HVS := Lib.hid (HVS.out.later hbc)
    clear hbc
    go_wp2_with fail
    refine hK.out _ _ ?_ (fun hHeld => ?_)
    · exact HKS.out _ HVS.out
    clear hK K
    try simp only [Act.put, p9a, p9z, p9s]
    refine k9 6 ?_ (y := ?_) (h := ?_)
    rotate_left 1
    · (intro w' hSw; (try dsimp only at hSw); go_simp; try with_reducible rfl)
    try simp only [Act.put, p9a, p9z, p9s]
    refine wpAnyH_ready (rs := [10]) (by kernel_rfl) (by simp) ?_
    refine AllReadyH.cons (by simp only [q9a, q9s, q9z]; rfl) (fun K hK => ?_) AllReadyH.nil
    go_simp
    refine (H2a.out _).mono ?_
    rintro _ wc2 ⟨rfl, hbc⟩
    replace HVS := Lib.hid (HVS.out.later hbc)
    clear hbc
    go_wp2_with fail
    refine hK.out _ _ ?_ (fun hHeld => ?_)
    · exact HKS.out _ HVS.out
    clear hK K
    try simp only [Act.put, p9a, p9z, p9s]
    refine k9 11 ?_ (y := ?_) (h := ?_)
    rotate_left 1
    · (intro w' hSw; (try dsimp only at hSw); go_simp; try with_reducible rfl)
    try simp only [Act.put, p9a, p9z, p9s]
    refine wpAnyH_ready (rs := [15]) (by kernel_rfl) (by simp) ?_
    refine AllReadyH.cons (by simp only [q9a, q9s, q9z]; rfl) (fun K hK => ?_) AllReadyH.nil
    go_simp
    refine (H2b.out _).mono ?_
    rintro _ wc3 ⟨rfl, hbc⟩
    replace HVS := Lib.hid (HVS.out.later hbc)
    clear hbc
    go_wp2_with fail
    refine hK.out _ _ ?_ (fun hHeld => ?_)
    · exact HKS.out _ HVS.out
    clear hK K
    try simp only [Act.put, p9a, p9z, p9s]
    refine k9 16 ?_ (y := ?_) (h := ?_)
    rotate_left 1
    · (intro w' hSw; (try dsimp only at hSw); go_simp; try with_reducible rfl)
    try simp only [Act.put, p9a, p9z, p9s]
    refine wpAnyH_ready (rs := [19]) (by kernel_rfl) (by simp) ?_
    refine AllReadyH.cons (by simp only [q9a, q9s, q9z]; rfl) (fun K hK => ?_) AllReadyH.nil
    go_simp
    refine (H4c.out _).mono ?_
    rintro _ wc4 ⟨rfl, hbc⟩
    replace HVS := Lib.hid (HVS.out.later hbc)
    clear hbc
    go_wp2_with fail
    refine hK.out _ _ ?_ (fun hHeld => ?_)
    · exact HKS.out _ HVS.out
    clear hK K
    try simp only [Act.put, p9a, p9z, p9s]
    refine k9 20 ?_ (y := ?_) (h := ?_)
    rotate_left 1
    · (intro w' hSw; (try dsimp only at hSw); go_simp; try with_reducible rfl)
    try simp only [Act.put, p9a, p9z, p9s]
    refine k9 22 ?_ (y := ?_) (h := ?_)
    rotate_left 1
    · (intro w' hSw; (try dsimp only at hSw); go_simp; try with_reducible rfl)
    try simp only [Act.put, p9a, p9z, p9s]
    refine k9 23 ?_ (y := ?_) (h := ?_)
    rotate_left 1
    · (intro w' hSw; (try dsimp only at hSw); go_simp; try with_reducible rfl)
    try simp only [Act.put, p9a, p9z, p9s]
    refine wpAnyH_done (by kernel_rfl) ?_ _
    refine NoPanic.normal ?_
    clear hHeld HKS
    go_wp2_with fail
    go_ret
    exact ⟨by rw [← HV.out]; rfl, HVS.out.2⟩
set_option maxHeartbeats 8000000 in
theorem rvalue_2 (fl : Int) (tsn tag win ppid st ssn outs ins : Nat) (gaps : List (Nat × Nat)) (dups : List Nat) (items : List Item) (text : ByteArray) (b1 : tsn < 4294967296) (b2 : tag < 4294967296) (b3 : win < 4294967296) (b4 : ppid < 4294967296) (b5 : st < 65536) (b6 : ssn < 65536) (b7 : outs < 65536) (b8 : ins < 65536)
    (htext : text = noB) (hb : (buildB items).2 = 0) (g d it : Value) (w : World) (hp : Parts w ⟨2, fl, tsn, tag, win, ppid, st, ssn, outs, ins, gaps, dups, items, text⟩ g d it) (R : ByteArray) (hR : R = ⟨(valueL ⟨2, fl, tsn, tag, win, ppid, st, ssn, outs, ins, gaps, dups, items, text⟩).toArray⟩) :
    Calls Tryz.prog 54 #[.agg (cellsC ⟨2, fl, tsn, tag, win, ppid, st, ssn, outs, ins, gaps, dups, items, text⟩ g d it)] w fun e w' => e = .returned (.string R) ∧ Below w.heap.size w w' := by
  have HV := Lib.hid (value_2 fl tsn tag win ppid st ssn outs ins gaps dups items)
  rw [← htext, ← hR] at HV
  clear hR htext
  obtain ⟨⟨A1, k1, rfl⟩, ⟨A2, k2, rfl⟩, ⟨A3, k3, rfl⟩⟩ := hp.slices
  obtain ⟨r1, r2, r3⟩ := build_ok hb
  obtain ⟨q1, q2⟩ := rowL_many items
  have HB0 := Lib.hid ((Below.refl w.heap.size w).alloc (Nat.le_refl _) (.cells #[.int .i64 2, .int .i64 fl, .int .u32 (tsn : Int), .int .u32 (tag : Int), .int .u32 (win : Int), .int .u32 (ppid : Int), .int .u16 (st : Int), .int .u16 (ssn : Int), .int .u16 (outs : Int), .int .u16 (ins : Int), .slice A1 gaps.length k1, .slice A2 dups.length k2, .slice A3 items.length k3, .string text] 74))
  have HBU := Lib.hid (rbuild_any items (by omega) (fun x hx => by have := q2 x hx; omega) _ _ (hp.items.below HB0.out))
  rw [hb, r3] at HBU
  obtain ⟨A, kk, he, hcap, hmax, hcells⟩ := hp.items
  cases he
  have hi' : (items.length : Int) ≤ 1000 := by omega
  dsimp only [cellsC] at *
  have H4a := Lib.hid (fun W => rfour_any tag b2 W)
  have H4b := Lib.hid (fun W => rfour_any win b3 W)
  have H2a := Lib.hid (fun W => rtwo_any outs b7 W)
  have H2b := Lib.hid (fun W => rtwo_any ins b8 W)
  have H4c := Lib.hid (fun W => rfour_any tsn b1 W)
  have vouts : IntKind.i64.wrap (outs : Int) = (outs : Int) := by rw [IntKind.wrap_i64]; omega
  have vins : IntKind.i64.wrap (ins : Int) = (ins : Int) := by rw [IntKind.wrap_i64]; omega
  have z1 : (be32B tag).size = 4 := rfl
  have z2 : (be32B win).size = 4 := rfl
  have z3 : (twoB outs).size = 2 := rfl
  have z4 : (twoB ins).size = 2 := rfl
  have z5 : (be32B tsn).size = 4 := rfl
  generalize hg1 : be32B tag = e1 at *
  generalize hg2 : be32B win = e2 at *
  generalize hg3 : twoB outs = e3 at *
  generalize hg4 : twoB ins = e4 at *
  generalize hg5 : be32B tsn = e5 at *
  clear hg1 hg2 hg3 hg4 hg5
  by_cases hitems : items = []
  case pos =>
    have hn : items = [] := hitems
    have i0 : ¬ (0 : Int) < (items.length : Int) := by rw [hn]; decide
    have hrb : (⟨(rowL items).toArray⟩ : ByteArray) = ⟨#[]⟩ := by rw [hn]; rfl
    have hib : (⟨(itemsL items).toArray⟩ : ByteArray) = ⟨#[]⟩ := by rw [hn]; rfl
    rw [hrb] at HBU
    try rw [hib] at HV
    clear hrb hib hn hitems
    clear hp hcells r1 r2 r3 q1 q2 hb HB0 
    go_enter Tryz.func54, Tryz.ntmps54
    go_wp2_with fail
    refine HBU.out.mono ?_
    rintro _ w1 ⟨rfl, hb1⟩
    have HX := Lib.hid ((hb1.block _ (by rw [World.size_alloc]; omega)).trans (heap_alloc_new w (.cells #[.int .i64 2, .int .i64 fl, .int .u32 (tsn : Int), .int .u32 (tag : Int), .int .u32 (win : Int), .int .u32 (ppid : Int), .int .u16 (st : Int), .int .u16 (ssn : Int), .int .u16 (outs : Int), .int .u16 (ins : Int), .slice A1 gaps.length k1, .slice A2 dups.length k2, .slice A3 items.length k3, .string text] 74)))
    have HVS := Lib.hid (show ValS w #[.int .i64 2, .int .i64 fl, .int .u32 (tsn : Int), .int .u32 (tag : Int), .int .u32 (win : Int), .int .u32 (ppid : Int), .int .u16 (st : Int), .int .u16 (ssn : Int), .int .u16 (outs : Int), .int .u16 (ins : Int), .slice A1 gaps.length k1, .slice A2 dups.length k2, .slice A3 items.length k3, .string text] w1 from ⟨HX.out, ((Below.refl _ w).alloc (Nat.le_refl _) (.cells #[.int .i64 2, .int .i64 fl, .int .u32 (tsn : Int), .int .u32 (tag : Int), .int .u32 (win : Int), .int .u32 (ppid : Int), .int .u16 (st : Int), .int .u16 (ssn : Int), .int .u16 (outs : Int), .int .u16 (ins : Int), .slice A1 gaps.length k1, .slice A2 dups.length k2, .slice A3 items.length k3, .string text] 74)).trans (hb1.mono (by rw [World.size_alloc]; omega))⟩)
    clear hb1
    have c0 : w1.cell? ⟨w.heap.size, 0, none⟩ = some (.int .i64 2) := by rw [cell_in HX.out]; rfl
    have c1 : w1.cell? ⟨w.heap.size, 1, none⟩ = some (.int .i64 fl) := by rw [cell_in HX.out]; rfl
    have c2 : w1.cell? ⟨w.heap.size, 2, none⟩ = some (.int .u32 (tsn : Int)) := by rw [cell_in HX.out]; rfl
    have c3 : w1.cell? ⟨w.heap.size, 3, none⟩ = some (.int .u32 (tag : Int)) := by rw [cell_in HX.out]; rfl
    have c4 : w1.cell? ⟨w.heap.size, 4, none⟩ = some (.int .u32 (win : Int)) := by rw [cell_in HX.out]; rfl
    have c5 : w1.cell? ⟨w.heap.size, 5, none⟩ = some (.int .u32 (ppid : Int)) := by rw [cell_in HX.out]; rfl
    have c6 : w1.cell? ⟨w.heap.size, 6, none⟩ = some (.int .u16 (st : Int)) := by rw [cell_in HX.out]; rfl
    have c7 : w1.cell? ⟨w.heap.size, 7, none⟩ = some (.int .u16 (ssn : Int)) := by rw [cell_in HX.out]; rfl
    have c8 : w1.cell? ⟨w.heap.size, 8, none⟩ = some (.int .u16 (outs : Int)) := by rw [cell_in HX.out]; rfl
    have c9 : w1.cell? ⟨w.heap.size, 9, none⟩ = some (.int .u16 (ins : Int)) := by rw [cell_in HX.out]; rfl
    have c10 : w1.cell? ⟨w.heap.size, 10, none⟩ = some (.slice A1 gaps.length k1) := by rw [cell_in HX.out]; rfl
    have c11 : w1.cell? ⟨w.heap.size, 11, none⟩ = some (.slice A2 dups.length k2) := by rw [cell_in HX.out]; rfl
    have c12 : w1.cell? ⟨w.heap.size, 12, none⟩ = some (.slice A3 items.length k3) := by rw [cell_in HX.out]; rfl
    have c13 : w1.cell? ⟨w.heap.size, 13, none⟩ = some (.string text) := by rw [cell_in HX.out]; rfl
    clear HX HBU
    go_wp2_with fail
    have HKS := Lib.hid (fun W (h : ValS w #[.int .i64 2, .int .i64 fl, .int .u32 (tsn : Int), .int .u32 (tag : Int), .int .u32 (win : Int), .int .u32 (ppid : Int), .int .u16 (st : Int), .int .u16 (ssn : Int), .int .u16 (outs : Int), .int .u16 (ins : Int), .slice A1 gaps.length k1, .slice A2 dups.length k2, .slice A3 items.length k3, .string text] W) => show W.cell? ⟨w.heap.size, 3, none⟩ = some (.int .u32 (tag : Int)) ∧ W.cell? ⟨w.heap.size, 4, none⟩ = some (.int .u32 (win : Int)) ∧ W.cell? ⟨w.heap.size, 8, none⟩ = some (.int .u16 (outs : Int)) ∧ W.cell? ⟨w.heap.size, 9, none⟩ = some (.int .u16 (ins : Int)) ∧ W.cell? ⟨w.heap.size, 2, none⟩ = some (.int .u32 (tsn : Int)) from ⟨by rw [cell_in h.1]; rfl, by rw [cell_in h.1]; rfl, by rw [cell_in h.1]; rfl, by rw [cell_in h.1]; rfl, by rw [cell_in h.1]; rfl⟩)
    clear c0 c1 c2 c3 c4 c5 c6 c7 c8 c9 c10 c11 c12 c13
    replace HVS := Lib.hid HVS.out.drew
    refine wp_region_noPanic ?_
    refine wp_region_held_drew (S := (fun w' => w'.cell? ⟨w.heap.size, 3, none⟩ = some (.int .u32 (tag : Int)) ∧ w'.cell? ⟨w.heap.size, 4, none⟩ = some (.int .u32 (win : Int)) ∧ w'.cell? ⟨w.heap.size, 8, none⟩ = some (.int .u16 (outs : Int)) ∧ w'.cell? ⟨w.heap.size, 9, none⟩ = some (.int .u16 (ins : Int)) ∧ w'.cell? ⟨w.heap.size, 2, none⟩ = some (.int .u32 (tsn : Int)))) (by kernel_rfl) ?_ (fun hHeld => ?_)
    · exact HKS.out _ HVS.out
    refine k9 0 ?_ (y := ?_) (h := ?_)
    rotate_left 1
    · (intro w' hSw; (try dsimp only at hSw); go_simp; try with_reducible rfl)
    try simp only [Act.put, p9a, p9z, p9s]
    refine k9 1 ?_ (y := ?_) (h := ?_)
    rotate_left 1
    · (intro w' hSw; (try dsimp only at hSw); go_simp; try with_reducible rfl)
    try simp only [Act.put, p9a, p9z, p9s]
    refine k9 3 ?_ (y := ?_) (h := ?_)
    rotate_left 1
    · (intro w' hSw; (try dsimp only at hSw); go_simp; try with_reducible rfl)
    try simp only [Act.put, p9a, p9z, p9s]
    refine k9 4 ?_ (y := ?_) (h := ?_)
    rotate_left 1
    · (intro w' hSw; (try dsimp only at hSw); go_simp; try with_reducible rfl)
    try simp only [Act.put, p9a, p9z, p9s]
    refine k9 7 ?_ (y := ?_) (h := ?_)
    rotate_left 1
    · (intro w' hSw; (try dsimp only at hSw); go_simp; try with_reducible rfl)
    try simp only [Act.put, p9a, p9z, p9s]
    refine k9 8 ?_ (y := ?_) (h := ?_)
    rotate_left 1
    · (intro w' hSw; (try dsimp only at hSw); go_simp; try with_reducible rfl)
    try simp only [Act.put, p9a, p9z, p9s]
    refine k9 9 ?_ (y := ?_) (h := ?_)
    rotate_left 1
    · (intro w' hSw; (try dsimp only at hSw); go_simp; try with_reducible rfl)
    try simp only [Act.put, p9a, p9z, p9s]
    refine k9 12 ?_ (y := ?_) (h := ?_)
    rotate_left 1
    · (intro w' hSw; (try dsimp only at hSw); go_simp; try with_reducible rfl)
    try simp only [Act.put, p9a, p9z, p9s]
    refine k9 13 ?_ (y := ?_) (h := ?_)
    rotate_left 1
    · (intro w' hSw; (try dsimp only at hSw); go_simp; try with_reducible rfl)
    try simp only [Act.put, p9a, p9z, p9s]
    refine k9 14 ?_ (y := ?_) (h := ?_)
    rotate_left 1
    · (intro w' hSw; (try dsimp only at hSw); go_simp; try with_reducible rfl)
    try simp only [Act.put, p9a, p9z, p9s]
    refine k9 17 ?_ (y := ?_) (h := ?_)
    rotate_left 1
    · (intro w' hSw; (try dsimp only at hSw); go_simp; try with_reducible rfl)
    try simp only [Act.put, p9a, p9z, p9s]
    refine k9 18 ?_ (y := ?_) (h := ?_)
    rotate_left 1
    · (intro w' hSw; (try dsimp only at hSw); go_simp; try with_reducible rfl)
    try simp only [Act.put, p9a, p9z, p9s]
    refine k9 21 ?_ (y := ?_) (h := ?_)
    rotate_left 1
    · (intro w' hSw; (try dsimp only at hSw); go_simp; try with_reducible rfl)
    try simp only [Act.put, p9a, p9z, p9s]
    refine wpAnyH_ready (rs := [2]) (by kernel_rfl) (by simp) ?_
    refine AllReadyH.cons (by simp only [q9a, q9s, q9z]; rfl) (fun K hK => ?_) AllReadyH.nil
    go_simp
    refine (H4a.out _).mono ?_
    rintro _ wc0 ⟨rfl, hbc⟩
    replace HVS := Lib.hid (HVS.out.later hbc)
    clear hbc
    go_wp2_with fail
    refine hK.out _ _ ?_ (fun hHeld => ?_)
    · exact HKS.out _ HVS.out
    clear hK K
    try simp only [Act.put, p9a, p9z, p9s]
    refine wpAnyH_ready (rs := [5]) (by kernel_rfl) (by simp) ?_
    refine AllReadyH.cons (by simp only [q9a, q9s, q9z]; rfl) (fun K hK => ?_) AllReadyH.nil
    go_simp
    refine (H4b.out _).mono ?_
    rintro _ wc1 ⟨rfl, hbc⟩
    replace HVS := Lib.hid (HVS.out.later hbc)
    clear hbc
    go_wp2_with fail
    refine hK.out _ _ ?_ (fun hHeld => ?_)
    · exact HKS.out _ HVS.out
    clear hK K
    try simp only [Act.put, p9a, p9z, p9s]
    refine k9 6 ?_ (y := ?_) (h := ?_)
    rotate_left 1
    · (intro w' hSw; (try dsimp only at hSw); go_simp; try with_reducible rfl)
    try simp only [Act.put, p9a, p9z, p9s]
    refine wpAnyH_ready (rs := [10]) (by kernel_rfl) (by simp) ?_
    refine AllReadyH.cons (by simp only [q9a, q9s, q9z]; rfl) (fun K hK => ?_) AllReadyH.nil
    go_simp
    refine (H2a.out _).mono ?_
    rintro _ wc2 ⟨rfl, hbc⟩
    replace HVS := Lib.hid (HVS.out.later hbc)
    clear hbc
    go_wp2_with fail
    refine hK.out _ _ ?_ (fun hHeld => ?_)
    · exact HKS.out _ HVS.out
    clear hK K
    try simp only [Act.put, p9a, p9z, p9s]
    refine k9 11 ?_ (y := ?_) (h := ?_)
    rotate_left 1
    · (intro w' hSw; (try dsimp only at hSw); go_simp; try with_reducible rfl)
    try simp only [Act.put, p9a, p9z, p9s]
    refine wpAnyH_ready (rs := [15]) (by kernel_rfl) (by simp) ?_
    refine AllReadyH.cons (by simp only [q9a, q9s, q9z]; rfl) (fun K hK => ?_) AllReadyH.nil
    go_simp
    refine (H2b.out _).mono ?_
    rintro _ wc3 ⟨rfl, hbc⟩
    replace HVS := Lib.hid (HVS.out.later hbc)
    clear hbc
    go_wp2_with fail
    refine hK.out _ _ ?_ (fun hHeld => ?_)
    · exact HKS.out _ HVS.out
    clear hK K
    try simp only [Act.put, p9a, p9z, p9s]
    refine k9 16 ?_ (y := ?_) (h := ?_)
    rotate_left 1
    · (intro w' hSw; (try dsimp only at hSw); go_simp; try with_reducible rfl)
    try simp only [Act.put, p9a, p9z, p9s]
    refine wpAnyH_ready (rs := [19]) (by kernel_rfl) (by simp) ?_
    refine AllReadyH.cons (by simp only [q9a, q9s, q9z]; rfl) (fun K hK => ?_) AllReadyH.nil
    go_simp
    refine (H4c.out _).mono ?_
    rintro _ wc4 ⟨rfl, hbc⟩
    replace HVS := Lib.hid (HVS.out.later hbc)
    clear hbc
    go_wp2_with fail
    refine hK.out _ _ ?_ (fun hHeld => ?_)
    · exact HKS.out _ HVS.out
    clear hK K
    try simp only [Act.put, p9a, p9z, p9s]
    refine k9 20 ?_ (y := ?_) (h := ?_)
    rotate_left 1
    · (intro w' hSw; (try dsimp only at hSw); go_simp; try with_reducible rfl)
    try simp only [Act.put, p9a, p9z, p9s]
    refine k9 22 ?_ (y := ?_) (h := ?_)
    rotate_left 1
    · (intro w' hSw; (try dsimp only at hSw); go_simp; try with_reducible rfl)
    try simp only [Act.put, p9a, p9z, p9s]
    refine k9 23 ?_ (y := ?_) (h := ?_)
    rotate_left 1
    · (intro w' hSw; (try dsimp only at hSw); go_simp; try with_reducible rfl)
    try simp only [Act.put, p9a, p9z, p9s]
    refine wpAnyH_done (by kernel_rfl) ?_ _
    refine NoPanic.normal ?_
    clear hHeld HKS
    go_wp2_with fail
    go_ret
    exact ⟨by rw [← HV.out]; rfl, HVS.out.2⟩
  case neg =>
    have hpos : 0 < items.length := List.length_pos_iff.2 hitems
    obtain ⟨b, off, rfl, hb', hc⟩ := hcells (by omega)
    obtain ⟨j, hj⟩ : ∃ j, items.length = j + 1 := ⟨items.length - 1, by omega⟩
    have hlp := lastPad_last items (by omega)
    have hcut := cut_items items
    have hc1 := (hc j (by omega)).2
    have hjx : items[items.length - 1]'(by omega) = items[j]'(by omega) := by congr 1; omega
    rw [hjx] at hlp
    have hxs := q2 (items[j]'(by omega)) (List.getElem_mem _)
    generalize items[j]'(by omega) = x at *
    obtain ⟨xa, xt⟩ := x
    dsimp only at hc1 hlp hxs
    have HPD := Lib.hid (fun W => rpad_any (xt.size : Int) (by omega) (by omega) W)
    rw [padI_nat, ← hlp] at HPD
    have hle := lastPad_le items
    generalize lastPad items = p at *
    have hsz : (⟨(rowL items).toArray⟩ : ByteArray).size = (rowL items).length := toB_size _
    have y1 : IntKind.i64.wrap ((items.length : Int) - 1) = (j : Int) := by rw [IntKind.wrap_i64]; omega
    have y2 : IntKind.i64.wrap (((⟨(rowL items).toArray⟩ : ByteArray).size : Int) - (p : Int)) = (((rowL items).length - p : Nat) : Int) := by rw [hsz, IntKind.wrap_i64]; omega
    have y3 : (0 : Int) ≤ (((rowL items).length - p : Nat) : Int) := by omega
    have y4 : (((rowL items).length - p : Nat) : Int) ≤ ((⟨(rowL items).toArray⟩ : ByteArray).size : Int) := by rw [hsz]; omega
    have y5 : (0 : Int) ≤ (j : Int) := by omega
    have y6 : (j : Int) < (items.length : Int) := by omega
    have i0 : (0 : Int) < (items.length : Int) := by omega
    have hibs : (⟨(itemsL items).toArray⟩ : ByteArray).size ≤ 4000 := by rw [toB_size, itemsL_length]; omega
    generalize (rowL items).length - p = q at *
    generalize (⟨(itemsL items).toArray⟩ : ByteArray) = ib at *
    generalize (⟨(rowL items).toArray⟩ : ByteArray) = rb at *
    have y7 : rb.size ≤ 4000 := by omega
    have z6 : ¬ (9223372036854775807 < 16 + ib.size) := by omega
    clear hp hcells r1 r2 r3 q1 q2 hb HB0 hc hj hjx hlp hle hxs hsz hpos hitems
    go_enter Tryz.func54, Tryz.ntmps54
    go_wp2_with fail
    refine HBU.out.mono ?_
    rintro _ w1 ⟨rfl, hb1⟩
    have HX := Lib.hid ((hb1.block _ (by rw [World.size_alloc]; omega)).trans (heap_alloc_new w (.cells #[.int .i64 2, .int .i64 fl, .int .u32 (tsn : Int), .int .u32 (tag : Int), .int .u32 (win : Int), .int .u32 (ppid : Int), .int .u16 (st : Int), .int .u16 (ssn : Int), .int .u16 (outs : Int), .int .u16 (ins : Int), .slice A1 gaps.length k1, .slice A2 dups.length k2, .slice (some ⟨b, off, none⟩) items.length k3, .string text] 74)))
    have HVS := Lib.hid (show ValS w #[.int .i64 2, .int .i64 fl, .int .u32 (tsn : Int), .int .u32 (tag : Int), .int .u32 (win : Int), .int .u32 (ppid : Int), .int .u16 (st : Int), .int .u16 (ssn : Int), .int .u16 (outs : Int), .int .u16 (ins : Int), .slice A1 gaps.length k1, .slice A2 dups.length k2, .slice (some ⟨b, off, none⟩) items.length k3, .string text] w1 from ⟨HX.out, ((Below.refl _ w).alloc (Nat.le_refl _) (.cells #[.int .i64 2, .int .i64 fl, .int .u32 (tsn : Int), .int .u32 (tag : Int), .int .u32 (win : Int), .int .u32 (ppid : Int), .int .u16 (st : Int), .int .u16 (ssn : Int), .int .u16 (outs : Int), .int .u16 (ins : Int), .slice A1 gaps.length k1, .slice A2 dups.length k2, .slice (some ⟨b, off, none⟩) items.length k3, .string text] 74)).trans (hb1.mono (by rw [World.size_alloc]; omega))⟩)
    clear hb1
    have c0 : w1.cell? ⟨w.heap.size, 0, none⟩ = some (.int .i64 2) := by rw [cell_in HX.out]; rfl
    have c1 : w1.cell? ⟨w.heap.size, 1, none⟩ = some (.int .i64 fl) := by rw [cell_in HX.out]; rfl
    have c2 : w1.cell? ⟨w.heap.size, 2, none⟩ = some (.int .u32 (tsn : Int)) := by rw [cell_in HX.out]; rfl
    have c3 : w1.cell? ⟨w.heap.size, 3, none⟩ = some (.int .u32 (tag : Int)) := by rw [cell_in HX.out]; rfl
    have c4 : w1.cell? ⟨w.heap.size, 4, none⟩ = some (.int .u32 (win : Int)) := by rw [cell_in HX.out]; rfl
    have c5 : w1.cell? ⟨w.heap.size, 5, none⟩ = some (.int .u32 (ppid : Int)) := by rw [cell_in HX.out]; rfl
    have c6 : w1.cell? ⟨w.heap.size, 6, none⟩ = some (.int .u16 (st : Int)) := by rw [cell_in HX.out]; rfl
    have c7 : w1.cell? ⟨w.heap.size, 7, none⟩ = some (.int .u16 (ssn : Int)) := by rw [cell_in HX.out]; rfl
    have c8 : w1.cell? ⟨w.heap.size, 8, none⟩ = some (.int .u16 (outs : Int)) := by rw [cell_in HX.out]; rfl
    have c9 : w1.cell? ⟨w.heap.size, 9, none⟩ = some (.int .u16 (ins : Int)) := by rw [cell_in HX.out]; rfl
    have c10 : w1.cell? ⟨w.heap.size, 10, none⟩ = some (.slice A1 gaps.length k1) := by rw [cell_in HX.out]; rfl
    have c11 : w1.cell? ⟨w.heap.size, 11, none⟩ = some (.slice A2 dups.length k2) := by rw [cell_in HX.out]; rfl
    have c12 : w1.cell? ⟨w.heap.size, 12, none⟩ = some (.slice (some ⟨b, off, none⟩) items.length k3) := by rw [cell_in HX.out]; rfl
    have c13 : w1.cell? ⟨w.heap.size, 13, none⟩ = some (.string text) := by rw [cell_in HX.out]; rfl
    have hd1 := (HVS.out.2.cell (p := ⟨b, off + j * 2 + 1, none⟩) hb').trans hc1
    clear HX hc1 HBU
    go_wp2_with fail
    refine (HPD.out _).mono ?_
    rintro _ w2 ⟨rfl, rfl⟩
    go_wp2_with fail
    have HKS := Lib.hid (fun W (h : ValS w #[.int .i64 2, .int .i64 fl, .int .u32 (tsn : Int), .int .u32 (tag : Int), .int .u32 (win : Int), .int .u32 (ppid : Int), .int .u16 (st : Int), .int .u16 (ssn : Int), .int .u16 (outs : Int), .int .u16 (ins : Int), .slice A1 gaps.length k1, .slice A2 dups.length k2, .slice (some ⟨b, off, none⟩) items.length k3, .string text] W) => show W.cell? ⟨w.heap.size, 3, none⟩ = some (.int .u32 (tag : Int)) ∧ W.cell? ⟨w.heap.size, 4, none⟩ = some (.int .u32 (win : Int)) ∧ W.cell? ⟨w.heap.size, 8, none⟩ = some (.int .u16 (outs : Int)) ∧ W.cell? ⟨w.heap.size, 9, none⟩ = some (.int .u16 (ins : Int)) ∧ W.cell? ⟨w.heap.size, 2, none⟩ = some (.int .u32 (tsn : Int)) from ⟨by rw [cell_in h.1]; rfl, by rw [cell_in h.1]; rfl, by rw [cell_in h.1]; rfl, by rw [cell_in h.1]; rfl, by rw [cell_in h.1]; rfl⟩)
    clear c0 c1 c2 c3 c4 c5 c6 c7 c8 c9 c10 c11 c12 c13
    replace HVS := Lib.hid HVS.out.drew
    refine wp_region_noPanic ?_
    refine wp_region_held_drew (S := (fun w' => w'.cell? ⟨w.heap.size, 3, none⟩ = some (.int .u32 (tag : Int)) ∧ w'.cell? ⟨w.heap.size, 4, none⟩ = some (.int .u32 (win : Int)) ∧ w'.cell? ⟨w.heap.size, 8, none⟩ = some (.int .u16 (outs : Int)) ∧ w'.cell? ⟨w.heap.size, 9, none⟩ = some (.int .u16 (ins : Int)) ∧ w'.cell? ⟨w.heap.size, 2, none⟩ = some (.int .u32 (tsn : Int)))) (by kernel_rfl) ?_ (fun hHeld => ?_)
    · exact HKS.out _ HVS.out
    refine k9 0 ?_ (y := ?_) (h := ?_)
    rotate_left 1
    · (intro w' hSw; (try dsimp only at hSw); go_simp; try with_reducible rfl)
    try simp only [Act.put, p9a, p9z, p9s]
    refine k9 1 ?_ (y := ?_) (h := ?_)
    rotate_left 1
    · (intro w' hSw; (try dsimp only at hSw); go_simp; try with_reducible rfl)
    try simp only [Act.put, p9a, p9z, p9s]
    refine k9 3 ?_ (y := ?_) (h := ?_)
    rotate_left 1
    · (intro w' hSw; (try dsimp only at hSw); go_simp; try with_reducible rfl)
    try simp only [Act.put, p9a, p9z, p9s]
    refine k9 4 ?_ (y := ?_) (h := ?_)
    rotate_left 1
    · (intro w' hSw; (try dsimp only at hSw); go_simp; try with_reducible rfl)
    try simp only [Act.put, p9a, p9z, p9s]
    refine k9 7 ?_ (y := ?_) (h := ?_)
    rotate_left 1
    · (intro w' hSw; (try dsimp only at hSw); go_simp; try with_reducible rfl)
    try simp only [Act.put, p9a, p9z, p9s]
    refine k9 8 ?_ (y := ?_) (h := ?_)
    rotate_left 1
    · (intro w' hSw; (try dsimp only at hSw); go_simp; try with_reducible rfl)
    try simp only [Act.put, p9a, p9z, p9s]
    refine k9 9 ?_ (y := ?_) (h := ?_)
    rotate_left 1
    · (intro w' hSw; (try dsimp only at hSw); go_simp; try with_reducible rfl)
    try simp only [Act.put, p9a, p9z, p9s]
    refine k9 12 ?_ (y := ?_) (h := ?_)
    rotate_left 1
    · (intro w' hSw; (try dsimp only at hSw); go_simp; try with_reducible rfl)
    try simp only [Act.put, p9a, p9z, p9s]
    refine k9 13 ?_ (y := ?_) (h := ?_)
    rotate_left 1
    · (intro w' hSw; (try dsimp only at hSw); go_simp; try with_reducible rfl)
    try simp only [Act.put, p9a, p9z, p9s]
    refine k9 14 ?_ (y := ?_) (h := ?_)
    rotate_left 1
    · (intro w' hSw; (try dsimp only at hSw); go_simp; try with_reducible rfl)
    try simp only [Act.put, p9a, p9z, p9s]
    refine k9 17 ?_ (y := ?_) (h := ?_)
    rotate_left 1
    · (intro w' hSw; (try dsimp only at hSw); go_simp; try with_reducible rfl)
    try simp only [Act.put, p9a, p9z, p9s]
    refine k9 18 ?_ (y := ?_) (h := ?_)
    rotate_left 1
    · (intro w' hSw; (try dsimp only at hSw); go_simp; try with_reducible rfl)
    try simp only [Act.put, p9a, p9z, p9s]
    refine k9 21 ?_ (y := ?_) (h := ?_)
    rotate_left 1
    · (intro w' hSw; (try dsimp only at hSw); go_simp; try with_reducible rfl)
    try simp only [Act.put, p9a, p9z, p9s]
    refine wpAnyH_ready (rs := [2]) (by kernel_rfl) (by simp) ?_
    refine AllReadyH.cons (by simp only [q9a, q9s, q9z]; rfl) (fun K hK => ?_) AllReadyH.nil
    go_simp
    refine (H4a.out _).mono ?_
    rintro _ wc0 ⟨rfl, hbc⟩
    replace HVS := Lib.hid (HVS.out.later hbc)
    clear hbc
    go_wp2_with fail
    refine hK.out _ _ ?_ (fun hHeld => ?_)
    · exact HKS.out _ HVS.out
    clear hK K
    try simp only [Act.put, p9a, p9z, p9s]
    refine wpAnyH_ready (rs := [5]) (by kernel_rfl) (by simp) ?_
    refine AllReadyH.cons (by simp only [q9a, q9s, q9z]; rfl) (fun K hK => ?_) AllReadyH.nil
    go_simp
    refine (H4b.out _).mono ?_
    rintro _ wc1 ⟨rfl, hbc⟩
    replace HVS := Lib.hid (HVS.out.later hbc)
    clear hbc
    go_wp2_with fail
    refine hK.out _ _ ?_ (fun hHeld => ?_)
    · exact HKS.out _ HVS.out
    clear hK K
    try simp only [Act.put, p9a, p9z, p9s]
    refine k9 6 ?_ (y := ?_) (h := ?_)
    rotate_left 1
    · (intro w' hSw; (try dsimp only at hSw); go_simp; try with_reducible rfl)
    try simp only [Act.put, p9a, p9z, p9s]
    refine wpAnyH_ready (rs := [10]) (by kernel_rfl) (by simp) ?_
    refine AllReadyH.cons (by simp only [q9a, q9s, q9z]; rfl) (fun K hK => ?_) AllReadyH.nil
    go_simp
    refine (H2a.out _).mono ?_
    rintro _ wc2 ⟨rfl, hbc⟩
    replace HVS := Lib.hid (HVS.out.later hbc)
    clear hbc
    go_wp2_with fail
    refine hK.out _ _ ?_ (fun hHeld => ?_)
    · exact HKS.out _ HVS.out
    clear hK K
    try simp only [Act.put, p9a, p9z, p9s]
    refine k9 11 ?_ (y := ?_) (h := ?_)
    rotate_left 1
    · (intro w' hSw; (try dsimp only at hSw); go_simp; try with_reducible rfl)
    try simp only [Act.put, p9a, p9z, p9s]
    refine wpAnyH_ready (rs := [15]) (by kernel_rfl) (by simp) ?_
    refine AllReadyH.cons (by simp only [q9a, q9s, q9z]; rfl) (fun K hK => ?_) AllReadyH.nil
    go_simp
    refine (H2b.out _).mono ?_
    rintro _ wc3 ⟨rfl, hbc⟩
    replace HVS := Lib.hid (HVS.out.later hbc)
    clear hbc
    go_wp2_with fail
    refine hK.out _ _ ?_ (fun hHeld => ?_)
    · exact HKS.out _ HVS.out
    clear hK K
    try simp only [Act.put, p9a, p9z, p9s]
    refine k9 16 ?_ (y := ?_) (h := ?_)
    rotate_left 1
    · (intro w' hSw; (try dsimp only at hSw); go_simp; try with_reducible rfl)
    try simp only [Act.put, p9a, p9z, p9s]
    refine wpAnyH_ready (rs := [19]) (by kernel_rfl) (by simp) ?_
    refine AllReadyH.cons (by simp only [q9a, q9s, q9z]; rfl) (fun K hK => ?_) AllReadyH.nil
    go_simp
    refine (H4c.out _).mono ?_
    rintro _ wc4 ⟨rfl, hbc⟩
    replace HVS := Lib.hid (HVS.out.later hbc)
    clear hbc
    go_wp2_with fail
    refine hK.out _ _ ?_ (fun hHeld => ?_)
    · exact HKS.out _ HVS.out
    clear hK K
    try simp only [Act.put, p9a, p9z, p9s]
    refine k9 20 ?_ (y := ?_) (h := ?_)
    rotate_left 1
    · (intro w' hSw; (try dsimp only at hSw); go_simp; try with_reducible rfl)
    try simp only [Act.put, p9a, p9z, p9s]
    refine k9 22 ?_ (y := ?_) (h := ?_)
    rotate_left 1
    · (intro w' hSw; (try dsimp only at hSw); go_simp; try with_reducible rfl)
    try simp only [Act.put, p9a, p9z, p9s]
    refine k9 23 ?_ (y := ?_) (h := ?_)
    rotate_left 1
    · (intro w' hSw; (try dsimp only at hSw); go_simp; try with_reducible rfl)
    try simp only [Act.put, p9a, p9z, p9s]
    refine wpAnyH_done (by kernel_rfl) ?_ _
    refine NoPanic.normal ?_
    clear hHeld HKS
    go_wp2_with fail
    go_ret
    exact ⟨by rw [← HV.out]; rfl, HVS.out.2⟩
end Go.Proofs.YtlbaockipeojhaaGreat
end
section
namespace Go.Proofs.YtlbaockipeojhaaGreat
open Go.RowKit
set_option linter.unusedVariables false
set_option linter.unusedSimpArgs false
set_option maxRecDepth 100000

theorem app_three (a b c : ByteArray) : a ++ b ++ c = a ++ (b ++ c) := by
  apply bytes_ext
  simp
set_option maxHeartbeats 8000000 in
theorem rvalue_3 (fl : Int) (tsn tag win ppid st ssn outs ins : Nat) (gaps : List (Nat × Nat)) (dups : List Nat) (items : List Item) (text : ByteArray) (b1 : tsn < 4294967296) (b2 : tag < 4294967296) (b3 : win < 4294967296) (b4 : ppid < 4294967296) (b5 : st < 65536) (b6 : ssn < 65536) (b7 : outs < 65536) (b8 : ins < 65536)
    (hitems : items = []) (htext : text = noB) (hgl : gaps.length ≤ 100) (hdl : dups.length ≤ 100) (wg : ∀ g ∈ gaps, g.1 < 65536 ∧ g.2 < 65536) (wd : ∀ d ∈ dups, d < 4294967296) (hb : (buildB items).2 = 0) (g d it : Value) (w : World) (hp : Parts w ⟨3, fl, tsn, tag, win, ppid, st, ssn, outs, ins, gaps, dups, items, text⟩ g d it) (R : ByteArray) (hR : R = ⟨(valueL ⟨3, fl, tsn, tag, win, ppid, st, ssn, outs, ins, gaps, dups, items, text⟩).toArray⟩) :
    Calls Tryz.prog 54 #[.agg (cellsC ⟨3, fl, tsn, tag, win, ppid, st, ssn, outs, ins, gaps, dups, items, text⟩ g d it)] w fun e w' => e = .returned (.string R) ∧ Below w.heap.size w w' := by
  have hv := value_3 fl tsn tag win ppid st ssn outs ins gaps dups
  rw [← htext, ← hitems, ← hR] at hv
  clear hR htext
  obtain ⟨A1, k1, heg, _, hmaxg, hcg⟩ := hp.gaps
  obtain ⟨A2, k2, hed, _, hmaxd, hcd⟩ := hp.dups
  dsimp only at heg hed
  subst heg
  subst hed
  obtain ⟨A3, k3, rfl⟩ := hp.slices.2.2
  obtain ⟨r1, r2, r3⟩ := build_ok hb
  obtain ⟨q1, q2⟩ := rowL_many items
  have HB0 := Lib.hid ((Below.refl w.heap.size w).alloc (Nat.le_refl _) (.cells #[.int .i64 3, .int .i64 fl, .int .u32 (tsn : Int), .int .u32 (tag : Int), .int .u32 (win : Int), .int .u32 (ppid : Int), .int .u16 (st : Int), .int .u16 (ssn : Int), .int .u16 (outs : Int), .int .u16 (ins : Int), .slice A1 gaps.length k1, .slice A2 dups.length k2, .slice A3 items.length k3, .string text] 74))
  have HBU := Lib.hid (rbuild_any items (by omega) (fun x hx => by have := q2 x hx; omega) _ _ (hp.items.below HB0.out))
  rw [hb, r3] at HBU
  obtain ⟨A, kk, he, hcap, hmax, hcells⟩ := hp.items
  cases he
  have hi' : (items.length : Int) ≤ 1000 := by omega
  dsimp only [cellsC] at *
  have H4a := Lib.hid (fun W => rfour_any tsn b1 W)
  have H4b := Lib.hid (fun W => rfour_any win b3 W)
  have H2a := Lib.hid (fun W => rtwo_any gaps.length (by omega) W)
  have H2b := Lib.hid (fun W => rtwo_any dups.length (by omega) W)
  have HCG := Lib.hid hcg
  have HCD := Lib.hid hcd
  have HWG := Lib.hid wg
  have HWD := Lib.hid wd
  have z1 : (be32B tsn).size = 4 := rfl
  have z2 : (be32B win).size = 4 := rfl
  have z3 : (twoB gaps.length).size = 2 := rfl
  have z4 : (twoB dups.length).size = 2 := rfl
  have hps : (be32B tsn ++ be32B win ++ twoB gaps.length ++ twoB dups.length).size = 12 := by simp only [ByteArray.size_append, z1, z2, z3, z4]
  have HPP := Lib.hid (show ∃ P, P = be32B tsn ++ be32B win ++ twoB gaps.length ++ twoB dups.length from ⟨_, rfl⟩)
  have HV := Lib.hid (show be32B tsn ++ be32B win ++ twoB gaps.length ++ twoB dups.length ++ ⟨(gapsL gaps ++ dupsL dups).toArray⟩ = R from hv)
  have HPS := Lib.hid hps
  clear hv hps HPP hcg hcd wg wd
  generalize be32B tsn = e1 at *
  generalize be32B win = e2 at *
  generalize twoB gaps.length = e3 at *
  generalize twoB dups.length = e4 at *
  have hgl' : (gaps.length : Int) ≤ 100 := by omega
  have hdl' : (dups.length : Int) ≤ 100 := by omega
  have hn : items = [] := hitems
  have i0 : ¬ (0 : Int) < (items.length : Int) := by rw [hn]; decide
  have hrb : (⟨(rowL items).toArray⟩ : ByteArray) = ⟨#[]⟩ := by rw [hn]; rfl
  have hib : (⟨(itemsL items).toArray⟩ : ByteArray) = ⟨#[]⟩ := by rw [hn]; rfl
  rw [hrb] at HBU
  skip
  clear hrb hib hn hitems
  clear hp hcells r1 r2 r3 q1 q2 hb HB0 
  go_enter Tryz.func54, Tryz.ntmps54
  go_wp2_with fail
  refine HBU.out.mono ?_
  rintro _ w1 ⟨rfl, hb1⟩
  have HX := Lib.hid ((hb1.block _ (by rw [World.size_alloc]; omega)).trans (heap_alloc_new w (.cells #[.int .i64 3, .int .i64 fl, .int .u32 (tsn : Int), .int .u32 (tag : Int), .int .u32 (win : Int), .int .u32 (ppid : Int), .int .u16 (st : Int), .int .u16 (ssn : Int), .int .u16 (outs : Int), .int .u16 (ins : Int), .slice A1 gaps.length k1, .slice A2 dups.length k2, .slice A3 items.length k3, .string text] 74)))
  have HVS := Lib.hid (show ValS w #[.int .i64 3, .int .i64 fl, .int .u32 (tsn : Int), .int .u32 (tag : Int), .int .u32 (win : Int), .int .u32 (ppid : Int), .int .u16 (st : Int), .int .u16 (ssn : Int), .int .u16 (outs : Int), .int .u16 (ins : Int), .slice A1 gaps.length k1, .slice A2 dups.length k2, .slice A3 items.length k3, .string text] w1 from ⟨HX.out, ((Below.refl _ w).alloc (Nat.le_refl _) (.cells #[.int .i64 3, .int .i64 fl, .int .u32 (tsn : Int), .int .u32 (tag : Int), .int .u32 (win : Int), .int .u32 (ppid : Int), .int .u16 (st : Int), .int .u16 (ssn : Int), .int .u16 (outs : Int), .int .u16 (ins : Int), .slice A1 gaps.length k1, .slice A2 dups.length k2, .slice A3 items.length k3, .string text] 74)).trans (hb1.mono (by rw [World.size_alloc]; omega))⟩)
  clear hb1
  have c0 : w1.cell? ⟨w.heap.size, 0, none⟩ = some (.int .i64 3) := by rw [cell_in HX.out]; rfl
  have c1 : w1.cell? ⟨w.heap.size, 1, none⟩ = some (.int .i64 fl) := by rw [cell_in HX.out]; rfl
  have c2 : w1.cell? ⟨w.heap.size, 2, none⟩ = some (.int .u32 (tsn : Int)) := by rw [cell_in HX.out]; rfl
  have c3 : w1.cell? ⟨w.heap.size, 3, none⟩ = some (.int .u32 (tag : Int)) := by rw [cell_in HX.out]; rfl
  have c4 : w1.cell? ⟨w.heap.size, 4, none⟩ = some (.int .u32 (win : Int)) := by rw [cell_in HX.out]; rfl
  have c5 : w1.cell? ⟨w.heap.size, 5, none⟩ = some (.int .u32 (ppid : Int)) := by rw [cell_in HX.out]; rfl
  have c6 : w1.cell? ⟨w.heap.size, 6, none⟩ = some (.int .u16 (st : Int)) := by rw [cell_in HX.out]; rfl
  have c7 : w1.cell? ⟨w.heap.size, 7, none⟩ = some (.int .u16 (ssn : Int)) := by rw [cell_in HX.out]; rfl
  have c8 : w1.cell? ⟨w.heap.size, 8, none⟩ = some (.int .u16 (outs : Int)) := by rw [cell_in HX.out]; rfl
  have c9 : w1.cell? ⟨w.heap.size, 9, none⟩ = some (.int .u16 (ins : Int)) := by rw [cell_in HX.out]; rfl
  have c10 : w1.cell? ⟨w.heap.size, 10, none⟩ = some (.slice A1 gaps.length k1) := by rw [cell_in HX.out]; rfl
  have c11 : w1.cell? ⟨w.heap.size, 11, none⟩ = some (.slice A2 dups.length k2) := by rw [cell_in HX.out]; rfl
  have c12 : w1.cell? ⟨w.heap.size, 12, none⟩ = some (.slice A3 items.length k3) := by rw [cell_in HX.out]; rfl
  have c13 : w1.cell? ⟨w.heap.size, 13, none⟩ = some (.string text) := by rw [cell_in HX.out]; rfl
  clear HX HBU
  go_wp2_with fail
  have HKS := Lib.hid (fun W (h : ValS w #[.int .i64 3, .int .i64 fl, .int .u32 (tsn : Int), .int .u32 (tag : Int), .int .u32 (win : Int), .int .u32 (ppid : Int), .int .u16 (st : Int), .int .u16 (ssn : Int), .int .u16 (outs : Int), .int .u16 (ins : Int), .slice A1 gaps.length k1, .slice A2 dups.length k2, .slice A3 items.length k3, .string text] W) => show W.cell? ⟨w.heap.size, 2, none⟩ = some (.int .u32 (tsn : Int)) ∧ W.cell? ⟨w.heap.size, 4, none⟩ = some (.int .u32 (win : Int)) ∧ W.cell? ⟨w.heap.size, 10, none⟩ = some (.slice A1 gaps.length k1) ∧ W.cell? ⟨w.heap.size, 11, none⟩ = some (.slice A2 dups.length k2) from ⟨by rw [cell_in h.1]; rfl, by rw [cell_in h.1]; rfl, by rw [cell_in h.1]; rfl, by rw [cell_in h.1]; rfl⟩)
  clear c0 c1 c2 c3 c4 c5 c6 c7 c8 c9 c10 c11 c12 c13
  replace HVS := Lib.hid HVS.out.drew
  refine wp_region_noPanic ?_
  refine wp_region_held_drew (S := (fun w' => w'.cell? ⟨w.heap.size, 2, none⟩ = some (.int .u32 (tsn : Int)) ∧ w'.cell? ⟨w.heap.size, 4, none⟩ = some (.int .u32 (win : Int)) ∧ w'.cell? ⟨w.heap.size, 10, none⟩ = some (.slice A1 gaps.length k1) ∧ w'.cell? ⟨w.heap.size, 11, none⟩ = some (.slice A2 dups.length k2))) (by kernel_rfl) ?_ (fun hHeld => ?_)
  · exact HKS.out _ HVS.out
  refine k9 0 ?_ (y := ?_) (h := ?_)
  rotate_left 1
  · (intro w' hSw; (try dsimp only at hSw); go_simp; try with_reducible rfl)
  try simp only [Act.put, p9a, p9z, p9s]
  refine k9 1 ?_ (y := ?_) (h := ?_)
  rotate_left 1
  · (intro w' hSw; (try dsimp only at hSw); go_simp; try with_reducible rfl)
  try simp only [Act.put, p9a, p9z, p9s]
  refine k9 3 ?_ (y := ?_) (h := ?_)
  rotate_left 1
  · (intro w' hSw; (try dsimp only at hSw); go_simp; try with_reducible rfl)
  try simp only [Act.put, p9a, p9z, p9s]
  refine k9 4 ?_ (y := ?_) (h := ?_)
  rotate_left 1
  · (intro w' hSw; (try dsimp only at hSw); go_simp; try with_reducible rfl)
  try simp only [Act.put, p9a, p9z, p9s]
  refine k9 7 ?_ (y := ?_) (h := ?_)
  rotate_left 1
  · (intro w' hSw; (try dsimp only at hSw); go_simp; try with_reducible rfl)
  try simp only [Act.put, p9a, p9z, p9s]
  refine k9 8 ?_ (y := ?_) (h := ?_)
  rotate_left 1
  · (intro w' hSw; (try dsimp only at hSw); go_simp; try with_reducible rfl)
  try simp only [Act.put, p9a, p9z, p9s]
  refine k9 9 ?_ (y := ?_) (h := ?_)
  rotate_left 1
  · (intro w' hSw; (try dsimp only at hSw); go_simp; try with_reducible rfl)
  try simp only [Act.put, p9a, p9z, p9s]
  refine k9 12 ?_ (y := ?_) (h := ?_)
  rotate_left 1
  · (intro w' hSw; (try dsimp only at hSw); go_simp; try with_reducible rfl)
  try simp only [Act.put, p9a, p9z, p9s]
  refine k9 13 ?_ (y := ?_) (h := ?_)
  rotate_left 1
  · (intro w' hSw; (try dsimp only at hSw); go_simp; try with_reducible rfl)
  try simp only [Act.put, p9a, p9z, p9s]
  refine k9 14 ?_ (y := ?_) (h := ?_)
  rotate_left 1
  · (intro w' hSw; (try dsimp only at hSw); go_simp; try with_reducible rfl)
  try simp only [Act.put, p9a, p9z, p9s]
  refine wpAnyH_ready (rs := [2]) (by kernel_rfl) (by simp) ?_
  refine AllReadyH.cons (by simp only [q9a, q9s, q9z]; rfl) (fun K hK => ?_) AllReadyH.nil
  go_simp
  refine (H4a.out _).mono ?_
  rintro _ wc0 ⟨rfl, hbc⟩
  replace HVS := Lib.hid (HVS.out.later hbc)
  clear hbc
  go_wp2_with fail
  refine hK.out _ _ ?_ (fun hHeld => ?_)
  · exact HKS.out _ HVS.out
  clear hK K
  try simp only [Act.put, p9a, p9z, p9s]
  refine wpAnyH_ready (rs := [5]) (by kernel_rfl) (by simp) ?_
  refine AllReadyH.cons (by simp only [q9a, q9s, q9z]; rfl) (fun K hK => ?_) AllReadyH.nil
  go_simp
  refine (H4b.out _).mono ?_
  rintro _ wc1 ⟨rfl, hbc⟩
  replace HVS := Lib.hid (HVS.out.later hbc)
  clear hbc
  go_wp2_with fail
  refine hK.out _ _ ?_ (fun hHeld => ?_)
  · exact HKS.out _ HVS.out
  clear hK K
  try simp only [Act.put, p9a, p9z, p9s]
  refine k9 6 ?_ (y := ?_) (h := ?_)
  rotate_left 1
  · (intro w' hSw; (try dsimp only at hSw); go_simp; try with_reducible rfl)
  try simp only [Act.put, p9a, p9z, p9s]
  refine wpAnyH_ready (rs := [10]) (by kernel_rfl) (by simp) ?_
  refine AllReadyH.cons (by simp only [q9a, q9s, q9z]; rfl) (fun K hK => ?_) AllReadyH.nil
  go_simp
  refine (H2a.out _).mono ?_
  rintro _ wc2 ⟨rfl, hbc⟩
  replace HVS := Lib.hid (HVS.out.later hbc)
  clear hbc
  go_wp2_with fail
  refine hK.out _ _ ?_ (fun hHeld => ?_)
  · exact HKS.out _ HVS.out
  clear hK K
  try simp only [Act.put, p9a, p9z, p9s]
  refine k9 11 ?_ (y := ?_) (h := ?_)
  rotate_left 1
  · (intro w' hSw; (try dsimp only at hSw); go_simp; try with_reducible rfl)
  try simp only [Act.put, p9a, p9z, p9s]
  refine wpAnyH_ready (rs := [15]) (by kernel_rfl) (by simp) ?_
  refine AllReadyH.cons (by simp only [q9a, q9s, q9z]; rfl) (fun K hK => ?_) AllReadyH.nil
  go_simp
  refine (H2b.out _).mono ?_
  rintro _ wc3 ⟨rfl, hbc⟩
  replace HVS := Lib.hid (HVS.out.later hbc)
  clear hbc
  go_wp2_with fail
  refine hK.out _ _ ?_ (fun hHeld => ?_)
  · exact HKS.out _ HVS.out
  clear hK K
  try simp only [Act.put, p9a, p9z, p9s]
  refine k9 16 ?_ (y := ?_) (h := ?_)
  rotate_left 1
  · (intro w' hSw; (try dsimp only at hSw); go_simp; try with_reducible rfl)
  try simp only [Act.put, p9a, p9z, p9s]
  refine k9 17 ?_ (y := ?_) (h := ?_)
  rotate_left 1
  · (intro w' hSw; (try dsimp only at hSw); go_simp; try with_reducible rfl)
  try simp only [Act.put, p9a, p9z, p9s]
  refine wpAnyH_done (by kernel_rfl) ?_ _
  refine NoPanic.normal ?_
  clear hHeld HKS
  replace HPS := Lib.hid HPS.out
  generalize e1 ++ e2 ++ e3 ++ e4 = P at *
  clear H4a H4b H2a H2b z1 z2 z3 z4
  have hps := HPS.out
  have HP0 := Lib.hid (show P ++ ⟨(gapsL (gaps.take 0)).toArray⟩ = P from append_noB P)
  have HP1 := Lib.hid (show gaps.take gaps.length = gaps from List.take_length)
  have HGT := Lib.hid (fun k (h : k < gaps.length) => vgaps_take gaps k h)
  go_wp2_with fail
  go_loopw [5, 6] (fun s i wr => ∃ k : Nat, k ≤ gaps.length ∧ i = .int .i64 k ∧ Hid (s = .string (P ++ ⟨(gapsL (gaps.take k)).toArray⟩) ∧ ValS w #[.int .i64 3, .int .i64 fl, .int .u32 (tsn : Int), .int .u32 (tag : Int), .int .u32 (win : Int), .int .u32 (ppid : Int), .int .u16 (st : Int), .int .u16 (ssn : Int), .int .u16 (outs : Int), .int .u16 (ins : Int), .slice A1 gaps.length k1, .slice A2 dups.length k2, .slice A3 items.length k3, .string text] wr)) (fun _ i _ => gaps.length - (intOf i).toNat)
  case atStart => exact ⟨0, Nat.zero_le _, rfl, Lib.hid ⟨by rw [HP0.out], HVS.out⟩⟩
  case round =>
    obtain ⟨k, hk, rfl, HQ⟩ := hrel
    obtain ⟨hse, hvs⟩ := HQ.out
    have HV2 := Lib.hid hvs
    have c10 : wr.cell? ⟨w.heap.size, 10, none⟩ = some (.slice A1 gaps.length k1) := by rw [cell_in hvs.1]; rfl
    clear HQ hvs
    by_cases hlt : k < gaps.length
    · obtain ⟨b, off, rfl, hb', hc⟩ := HCG.out (by omega)
      obtain ⟨hc0, hc1⟩ := hc k hlt
      have hg := HWG.out gaps[k] (List.getElem_mem hlt)
      have hgt := HGT.out k hlt
      have hsz : (P ++ ⟨(gapsL (gaps.take k)).toArray⟩ : ByteArray).size ≤ 412 := by
        have hh := toB_size (gapsL (gaps.take k)); rw [gapsL_length, List.length_take] at hh; rw [ByteArray.size_append]; omega
      generalize gaps[k] = x at *
      obtain ⟨x, y⟩ := x
      dsimp only at hc0 hc1 hg hgt
      obtain ⟨hg1, hg2⟩ := hg
      have HKS := Lib.hid (fun W (h : ValS w #[.int .i64 3, .int .i64 fl, .int .u32 (tsn : Int), .int .u32 (tag : Int), .int .u32 (win : Int), .int .u32 (ppid : Int), .int .u16 (st : Int), .int .u16 (ssn : Int), .int .u16 (outs : Int), .int .u16 (ins : Int), .slice (some ⟨b, off, none⟩) gaps.length k1, .slice A2 dups.length k2, .slice A3 items.length k3, .string text] W) => show W.cell? ⟨w.heap.size, 10, none⟩ = some (.slice (some ⟨b, off, none⟩) gaps.length k1) ∧ W.cell? ⟨b, off + k * 2, none⟩ = some (.int .u16 (x : Int)) ∧ W.cell? ⟨b, off + k * 2 + 1, none⟩ = some (.int .u16 (y : Int)) from ⟨by rw [cell_in h.1]; rfl, (h.2.cell (p := ⟨b, off + k * 2, none⟩) hb').trans hc0, (h.2.cell (p := ⟨b, off + k * 2 + 1, none⟩) hb').trans hc1⟩)
      have H2x := Lib.hid (fun W => rtwo_any x hg1 W)
      have H2y := Lib.hid (fun W => rtwo_any y hg2 W)
      have v1 : IntKind.i64.wrap (x : Int) = (x : Int) := by rw [IntKind.wrap_i64]; omega
      have v2 : IntKind.i64.wrap (y : Int) = (y : Int) := by rw [IntKind.wrap_i64]; omega
      have q4 : (0 : Int) ≤ (k : Int) := by omega
      have q5 : (k : Int) < (gaps.length : Int) := by omega
      have z1 : (twoB x).size = 2 := rfl
      have z2 : (twoB y).size = 2 := rfl
      have HE := Lib.hid (show P ++ ⟨(gapsL (gaps.take (k + 1))).toArray⟩ = P ++ ⟨(gapsL (gaps.take k)).toArray⟩ ++ twoB x ++ twoB y from by rw [hgt, app_three, app_three, app_three])
      generalize (P ++ ⟨(gapsL (gaps.take k)).toArray⟩ : ByteArray) = s0 at *
      generalize twoB x = e5 at *
      generalize twoB y = e6 at *
      subst hse
      have z3 : ¬ (9223372036854775807 < s0.size + 2) := by omega
      have z4 : ¬ (9223372036854775807 < s0.size + 2 + 2) := by omega
      have z5 : ¬ (9223372036854775807 < s0.size + 4) := by omega
      clear hc hc0 hc1 hgt hg1 hg2 HVS
      have HVS := HV2
      clear HV2
      go_wp2_with fail
      clear c10
      replace HVS := Lib.hid HVS.out.drew
      refine wp_region_noPanic ?_
      refine wp_region_held_drew (S := (fun w' => w'.cell? ⟨w.heap.size, 10, none⟩ = some (.slice (some ⟨b, off, none⟩) gaps.length k1) ∧ w'.cell? ⟨b, off + k * 2, none⟩ = some (.int .u16 (x : Int)) ∧ w'.cell? ⟨b, off + k * 2 + 1, none⟩ = some (.int .u16 (y : Int)))) (by kernel_rfl) ?_ (fun hHeld => ?_)
      · exact HKS.out _ HVS.out
      refine k9 0 ?_ (y := ?_) (h := ?_)
      rotate_left 1
      · (intro w' hSw; (try dsimp only at hSw); go_simp; try with_reducible rfl)
      try simp only [Act.put, p9a, p9z, p9s]
      refine k9 1 ?_ (y := ?_) (h := ?_)
      rotate_left 1
      · (intro w' hSw; (try dsimp only at hSw); go_simp; try with_reducible rfl)
      try simp only [Act.put, p9a, p9z, p9s]
      refine k9 2 ?_ (y := ?_) (h := ?_)
      rotate_left 1
      · (intro w' hSw; (try dsimp only at hSw); go_simp; try with_reducible rfl)
      try simp only [Act.put, p9a, p9z, p9s]
      refine k9 3 ?_ (y := ?_) (h := ?_)
      rotate_left 1
      · (intro w' hSw; (try dsimp only at hSw); go_simp; try with_reducible rfl)
      try simp only [Act.put, p9a, p9z, p9s]
      refine k9 4 ?_ (y := ?_) (h := ?_)
      rotate_left 1
      · (intro w' hSw; (try dsimp only at hSw); go_simp; try with_reducible rfl)
      try simp only [Act.put, p9a, p9z, p9s]
      refine k9 5 ?_ (y := ?_) (h := ?_)
      rotate_left 1
      · (intro w' hSw; (try dsimp only at hSw); go_simp; try with_reducible rfl)
      try simp only [Act.put, p9a, p9z, p9s]
      refine k9 6 ?_ (y := ?_) (h := ?_)
      rotate_left 1
      · (intro w' hSw; (try dsimp only at hSw); go_simp; try with_reducible rfl)
      try simp only [Act.put, p9a, p9z, p9s]
      refine k9 7 ?_ (y := ?_) (h := ?_)
      rotate_left 1
      · (intro w' hSw; (try dsimp only at hSw); go_simp; try with_reducible rfl)
      try simp only [Act.put, p9a, p9z, p9s]
      refine k9 10 ?_ (y := ?_) (h := ?_)
      rotate_left 1
      · (intro w' hSw; (try dsimp only at hSw); go_simp; try with_reducible rfl)
      try simp only [Act.put, p9a, p9z, p9s]
      refine k9 11 ?_ (y := ?_) (h := ?_)
      rotate_left 1
      · (intro w' hSw; (try dsimp only at hSw); go_simp; try with_reducible rfl)
      try simp only [Act.put, p9a, p9z, p9s]
      refine k9 12 ?_ (y := ?_) (h := ?_)
      rotate_left 1
      · (intro w' hSw; (try dsimp only at hSw); go_simp; try with_reducible rfl)
      try simp only [Act.put, p9a, p9z, p9s]
      refine k9 13 ?_ (y := ?_) (h := ?_)
      rotate_left 1
      · (intro w' hSw; (try dsimp only at hSw); go_simp; try with_reducible rfl)
      try simp only [Act.put, p9a, p9z, p9s]
      refine k9 14 ?_ (y := ?_) (h := ?_)
      rotate_left 1
      · (intro w' hSw; (try dsimp only at hSw); go_simp; try with_reducible rfl)
      try simp only [Act.put, p9a, p9z, p9s]
      refine k9 15 ?_ (y := ?_) (h := ?_)
      rotate_left 1
      · (intro w' hSw; (try dsimp only at hSw); go_simp; try with_reducible rfl)
      try simp only [Act.put, p9a, p9z, p9s]
      refine k9 16 ?_ (y := ?_) (h := ?_)
      rotate_left 1
      · (intro w' hSw; (try dsimp only at hSw); go_simp; try with_reducible rfl)
      try simp only [Act.put, p9a, p9z, p9s]
      refine wpAnyH_ready (rs := [8]) (by kernel_rfl) (by simp) ?_
      refine AllReadyH.cons (by simp only [q9a, q9s, q9z]; rfl) (fun K hK => ?_) AllReadyH.nil
      go_simp
      refine (H2x.out _).mono ?_
      rintro _ wc0 ⟨rfl, hbc⟩
      replace HVS := Lib.hid (HVS.out.later hbc)
      clear hbc
      go_wp2_with fail
      refine hK.out _ _ ?_ (fun hHeld => ?_)
      · exact HKS.out _ HVS.out
      clear hK K
      try simp only [Act.put, p9a, p9z, p9s]
      refine k9 9 ?_ (y := ?_) (h := ?_)
      rotate_left 1
      · (intro w' hSw; (try dsimp only at hSw); go_simp; try with_reducible rfl)
      try simp only [Act.put, p9a, p9z, p9s]
      refine wpAnyH_ready (rs := [17]) (by kernel_rfl) (by simp) ?_
      refine AllReadyH.cons (by simp only [q9a, q9s, q9z]; rfl) (fun K hK => ?_) AllReadyH.nil
      go_simp
      refine (H2y.out _).mono ?_
      rintro _ wc1 ⟨rfl, hbc⟩
      replace HVS := Lib.hid (HVS.out.later hbc)
      clear hbc
      go_wp2_with fail
      refine hK.out _ _ ?_ (fun hHeld => ?_)
      · exact HKS.out _ HVS.out
      clear hK K
      try simp only [Act.put, p9a, p9z, p9s]
      refine k9 18 ?_ (y := ?_) (h := ?_)
      rotate_left 1
      · (intro w' hSw; (try dsimp only at hSw); go_simp; try with_reducible rfl)
      try simp only [Act.put, p9a, p9z, p9s]
      refine k9 19 ?_ (y := ?_) (h := ?_)
      rotate_left 1
      · (intro w' hSw; (try dsimp only at hSw); go_simp; try with_reducible rfl)
      try simp only [Act.put, p9a, p9z, p9s]
      refine wpAnyH_done (by kernel_rfl) ?_ _
      refine NoPanic.normal ?_
      clear hHeld HKS
      skip
      go_wp2_with fail
      go_roundw
      case rel => exact ⟨k + 1, by omega, by go_num, Lib.hid ⟨by rw [HE.out], HVS.out⟩⟩
      case measure => simp [intOf]; omega
    · obtain rfl : k = gaps.length := by omega
      rw [HP1.out] at hse
      have hsz : (P ++ ⟨(gapsL gaps).toArray⟩ : ByteArray).size ≤ 412 := by
        have hh := toB_size (gapsL gaps); rw [gapsL_length] at hh; rw [ByteArray.size_append]; omega
      have HE2 := Lib.hid (show P ++ ⟨(gapsL gaps).toArray⟩ ++ ⟨(dupsL dups).toArray⟩ = R from by rw [← HV.out, app_three]; congr 1)
      clear HGT HP0 HP1 HCG HWG
      generalize (P ++ ⟨(gapsL gaps).toArray⟩ : ByteArray) = P2 at *
      subst hse
      have HQ0 := Lib.hid (show P2 ++ ⟨(dupsL (dups.take 0)).toArray⟩ = P2 from append_noB P2)
      have HQ1 := Lib.hid (show dups.take dups.length = dups from List.take_length)
      have HDT := Lib.hid (fun k (h : k < dups.length) => vdups_take dups k h)
      go_wp2_with fail
      go_loopw [5, 7] (fun s i wr => ∃ k : Nat, k ≤ dups.length ∧ i = .int .i64 k ∧ Hid (s = .string (P2 ++ ⟨(dupsL (dups.take k)).toArray⟩) ∧ ValS w #[.int .i64 3, .int .i64 fl, .int .u32 (tsn : Int), .int .u32 (tag : Int), .int .u32 (win : Int), .int .u32 (ppid : Int), .int .u16 (st : Int), .int .u16 (ssn : Int), .int .u16 (outs : Int), .int .u16 (ins : Int), .slice A1 gaps.length k1, .slice A2 dups.length k2, .slice A3 items.length k3, .string text] wr)) (fun _ i _ => dups.length - (intOf i).toNat)
      case atStart => exact ⟨0, Nat.zero_le _, rfl, Lib.hid ⟨by rw [HQ0.out], HV2.out⟩⟩
      case round =>
        clear c10 HV2
        obtain ⟨k, hk, rfl, HQ⟩ := hrel
        obtain ⟨hse, hvs⟩ := HQ.out
        have HV2 := Lib.hid hvs
        have c11 : wr.cell? ⟨w.heap.size, 11, none⟩ = some (.slice A2 dups.length k2) := by rw [cell_in hvs.1]; rfl
        clear HQ hvs
        by_cases hlt : k < dups.length
        · obtain ⟨b, off, rfl, hb', hc⟩ := HCD.out (by omega)
          have hc0 := hc k hlt
          rw [getElem!_pos dups k hlt] at hc0
          have hg := HWD.out dups[k] (List.getElem_mem hlt)
          have hgt := HDT.out k hlt
          have hs2 : (P2 ++ ⟨(dupsL (dups.take k)).toArray⟩ : ByteArray).size ≤ 812 := by
            have hh := toB_size (dupsL (dups.take k)); rw [dupsL_length, List.length_take] at hh; rw [ByteArray.size_append]; omega
          generalize dups[k] = x at *
          have d0 : wr.cell? ⟨b, off + k, none⟩ = some (.int .u32 (x : Int)) := (HV2.out.2.cell (p := ⟨b, off + k, none⟩) hb').trans hc0
          have H4x := Lib.hid (fun W => rfour_any x hg W)
          have q4 : (0 : Int) ≤ (k : Int) := by omega
          have q5 : (k : Int) < (dups.length : Int) := by omega
          have z1 : (be32B x).size = 4 := rfl
          have HE := Lib.hid (show P2 ++ ⟨(dupsL (dups.take (k + 1))).toArray⟩ = P2 ++ ⟨(dupsL (dups.take k)).toArray⟩ ++ be32B x from by rw [hgt, app_three])
          generalize (P2 ++ ⟨(dupsL (dups.take k)).toArray⟩ : ByteArray) = s0 at *
          generalize be32B x = e5 at *
          subst hse
          have z3 : ¬ (9223372036854775807 < s0.size + 4) := by omega
          clear hc hc0 hgt hg
          go_wp2_with fail
          refine (H4x.out _).mono ?_
          rintro _ w5 ⟨rfl, hb5⟩
          have HVS := Lib.hid (HV2.out.later hb5)
          clear HV2 c11 hb5 d0
          go_wp2_with fail
          go_roundw
          case rel => exact ⟨k + 1, by omega, by go_num, Lib.hid ⟨by rw [HE.out], HVS.out⟩⟩
          case measure => simp [intOf]; omega
        · obtain rfl : k = dups.length := by omega
          rw [HQ1.out, HE2.out] at hse
          subst hse
          go_wp2_with fail
          go_ret
          exact ⟨rfl, HV2.out.2⟩
end Go.Proofs.YtlbaockipeojhaaGreat
end
section
namespace Go.Proofs.YtlbaockipeojhaaGreat
open Go.RowKit
set_option linter.unusedVariables false
set_option linter.unusedSimpArgs false
set_option maxRecDepth 100000

set_option maxHeartbeats 8000000 in
theorem rvalue_7 (fl : Int) (tsn tag win ppid st ssn outs ins : Nat) (gaps : List (Nat × Nat)) (dups : List Nat) (items : List Item) (text : ByteArray) (b1 : tsn < 4294967296) (b2 : tag < 4294967296) (b3 : win < 4294967296) (b4 : ppid < 4294967296) (b5 : st < 65536) (b6 : ssn < 65536) (b7 : outs < 65536) (b8 : ins < 65536)
    (hitems : items = []) (htext : text = noB) (hb : (buildB items).2 = 0) (g d it : Value) (w : World) (hp : Parts w ⟨7, fl, tsn, tag, win, ppid, st, ssn, outs, ins, gaps, dups, items, text⟩ g d it) (R : ByteArray) (hR : R = ⟨(valueL ⟨7, fl, tsn, tag, win, ppid, st, ssn, outs, ins, gaps, dups, items, text⟩).toArray⟩) :
    Calls Tryz.prog 54 #[.agg (cellsC ⟨7, fl, tsn, tag, win, ppid, st, ssn, outs, ins, gaps, dups, items, text⟩ g d it)] w fun e w' => e = .returned (.string R) ∧ Below w.heap.size w w' := by
  have HV := Lib.hid (value_7 fl tsn tag win ppid st ssn outs ins gaps dups)
  rw [← htext, ← hitems, ← hR] at HV
  clear hR htext
  obtain ⟨⟨A1, k1, rfl⟩, ⟨A2, k2, rfl⟩, ⟨A3, k3, rfl⟩⟩ := hp.slices
  obtain ⟨r1, r2, r3⟩ := build_ok hb
  obtain ⟨q1, q2⟩ := rowL_many items
  have HB0 := Lib.hid ((Below.refl w.heap.size w).alloc (Nat.le_refl _) (.cells #[.int .i64 7, .int .i64 fl, .int .u32 (tsn : Int), .int .u32 (tag : Int), .int .u32 (win : Int), .int .u32 (ppid : Int), .int .u16 (st : Int), .int .u16 (ssn : Int), .int .u16 (outs : Int), .int .u16 (ins : Int), .slice A1 gaps.length k1, .slice A2 dups.length k2, .slice A3 items.length k3, .string text] 74))
  have HBU := Lib.hid (rbuild_any items (by omega) (fun x hx => by have := q2 x hx; omega) _ _ (hp.items.below HB0.out))
  rw [hb, r3] at HBU
  obtain ⟨A, kk, he, hcap, hmax, hcells⟩ := hp.items
  cases he
  have hi' : (items.length : Int) ≤ 1000 := by omega
  dsimp only [cellsC] at *
  have H4a := Lib.hid (fun W => rfour_any tsn b1 W)
  generalize be32B tsn = e1 at *
  have hn : items = [] := hitems
  have i0 : ¬ (0 : Int) < (items.length : Int) := by rw [hn]; decide
  have hrb : (⟨(rowL items).toArray⟩ : ByteArray) = ⟨#[]⟩ := by rw [hn]; rfl
  have hib : (⟨(itemsL items).toArray⟩ : ByteArray) = ⟨#[]⟩ := by rw [hn]; rfl
  rw [hrb] at HBU
  try rw [hib] at HV
  clear hrb hib hn hitems
  clear hp hcells r1 r2 r3 q1 q2 hb HB0 
  go_enter Tryz.func54, Tryz.ntmps54
  go_wp2_with fail
  refine HBU.out.mono ?_
  rintro _ w1 ⟨rfl, hb1⟩
  have HX := Lib.hid ((hb1.block _ (by rw [World.size_alloc]; omega)).trans (heap_alloc_new w (.cells #[.int .i64 7, .int .i64 fl, .int .u32 (tsn : Int), .int .u32 (tag : Int), .int .u32 (win : Int), .int .u32 (ppid : Int), .int .u16 (st : Int), .int .u16 (ssn : Int), .int .u16 (outs : Int), .int .u16 (ins : Int), .slice A1 gaps.length k1, .slice A2 dups.length k2, .slice A3 items.length k3, .string text] 74)))
  have HVS := Lib.hid (show ValS w #[.int .i64 7, .int .i64 fl, .int .u32 (tsn : Int), .int .u32 (tag : Int), .int .u32 (win : Int), .int .u32 (ppid : Int), .int .u16 (st : Int), .int .u16 (ssn : Int), .int .u16 (outs : Int), .int .u16 (ins : Int), .slice A1 gaps.length k1, .slice A2 dups.length k2, .slice A3 items.length k3, .string text] w1 from ⟨HX.out, ((Below.refl _ w).alloc (Nat.le_refl _) (.cells #[.int .i64 7, .int .i64 fl, .int .u32 (tsn : Int), .int .u32 (tag : Int), .int .u32 (win : Int), .int .u32 (ppid : Int), .int .u16 (st : Int), .int .u16 (ssn : Int), .int .u16 (outs : Int), .int .u16 (ins : Int), .slice A1 gaps.length k1, .slice A2 dups.length k2, .slice A3 items.length k3, .string text] 74)).trans (hb1.mono (by rw [World.size_alloc]; omega))⟩)
  clear hb1
  have c0 : w1.cell? ⟨w.heap.size, 0, none⟩ = some (.int .i64 7) := by rw [cell_in HX.out]; rfl
  have c1 : w1.cell? ⟨w.heap.size, 1, none⟩ = some (.int .i64 fl) := by rw [cell_in HX.out]; rfl
  have c2 : w1.cell? ⟨w.heap.size, 2, none⟩ = some (.int .u32 (tsn : Int)) := by rw [cell_in HX.out]; rfl
  have c3 : w1.cell? ⟨w.heap.size, 3, none⟩ = some (.int .u32 (tag : Int)) := by rw [cell_in HX.out]; rfl
  have c4 : w1.cell? ⟨w.heap.size, 4, none⟩ = some (.int .u32 (win : Int)) := by rw [cell_in HX.out]; rfl
  have c5 : w1.cell? ⟨w.heap.size, 5, none⟩ = some (.int .u32 (ppid : Int)) := by rw [cell_in HX.out]; rfl
  have c6 : w1.cell? ⟨w.heap.size, 6, none⟩ = some (.int .u16 (st : Int)) := by rw [cell_in HX.out]; rfl
  have c7 : w1.cell? ⟨w.heap.size, 7, none⟩ = some (.int .u16 (ssn : Int)) := by rw [cell_in HX.out]; rfl
  have c8 : w1.cell? ⟨w.heap.size, 8, none⟩ = some (.int .u16 (outs : Int)) := by rw [cell_in HX.out]; rfl
  have c9 : w1.cell? ⟨w.heap.size, 9, none⟩ = some (.int .u16 (ins : Int)) := by rw [cell_in HX.out]; rfl
  have c10 : w1.cell? ⟨w.heap.size, 10, none⟩ = some (.slice A1 gaps.length k1) := by rw [cell_in HX.out]; rfl
  have c11 : w1.cell? ⟨w.heap.size, 11, none⟩ = some (.slice A2 dups.length k2) := by rw [cell_in HX.out]; rfl
  have c12 : w1.cell? ⟨w.heap.size, 12, none⟩ = some (.slice A3 items.length k3) := by rw [cell_in HX.out]; rfl
  have c13 : w1.cell? ⟨w.heap.size, 13, none⟩ = some (.string text) := by rw [cell_in HX.out]; rfl
  clear HX HBU
  go_wp2_with fail
  refine (H4a.out _).mono ?_
  rintro _ w2 ⟨rfl, hb2⟩
  replace HVS := Lib.hid (HVS.out.later hb2)
  clear hb2 c0 c1 c2 c3 c4 c5 c6 c7 c8 c9 c10 c11 c12 c13
  go_wp2_with fail
  go_ret
  exact ⟨by rw [← HV.out]; rfl, HVS.out.2⟩
set_option maxHeartbeats 8000000 in
theorem rvalue_d (ty : Int) (fl : Int) (tsn tag win ppid st ssn outs ins : Nat) (gaps : List (Nat × Nat)) (dups : List Nat) (items : List Item) (text : ByteArray) (b1 : tsn < 4294967296) (b2 : tag < 4294967296) (b3 : win < 4294967296) (b4 : ppid < 4294967296) (b5 : st < 65536) (b6 : ssn < 65536) (b7 : outs < 65536) (b8 : ins < 65536)
    (t0 : ¬ ty = 0) (t1 : ¬ ty = 1) (t2 : ¬ ty = 2) (t3 : ¬ ty = 3) (t7 : ¬ ty = 7) (ht : text.size ≤ 1000) (hb : (buildB items).2 = 0) (g d it : Value) (w : World) (hp : Parts w ⟨ty, fl, tsn, tag, win, ppid, st, ssn, outs, ins, gaps, dups, items, text⟩ g d it) (R : ByteArray) (hR : R = ⟨(valueL ⟨ty, fl, tsn, tag, win, ppid, st, ssn, outs, ins, gaps, dups, items, text⟩).toArray⟩) :
    Calls Tryz.prog 54 #[.agg (cellsC ⟨ty, fl, tsn, tag, win, ppid, st, ssn, outs, ins, gaps, dups, items, text⟩ g d it)] w fun e w' => e = .returned (.string R) ∧ Below w.heap.size w w' := by
  have HV := Lib.hid (value_d fl tsn tag win ppid st ssn outs ins gaps dups items text t0 t1 t2 t3 t7)
  rw [← hR] at HV
  clear hR
  obtain ⟨⟨A1, k1, rfl⟩, ⟨A2, k2, rfl⟩, ⟨A3, k3, rfl⟩⟩ := hp.slices
  obtain ⟨r1, r2, r3⟩ := build_ok hb
  obtain ⟨q1, q2⟩ := rowL_many items
  have HB0 := Lib.hid ((Below.refl w.heap.size w).alloc (Nat.le_refl _) (.cells #[.int .i64 ty, .int .i64 fl, .int .u32 (tsn : Int), .int .u32 (tag : Int), .int .u32 (win : Int), .int .u32 (ppid : Int), .int .u16 (st : Int), .int .u16 (ssn : Int), .int .u16 (outs : Int), .int .u16 (ins : Int), .slice A1 gaps.length k1, .slice A2 dups.length k2, .slice A3 items.length k3, .string text] 74))
  have HBU := Lib.hid (rbuild_any items (by omega) (fun x hx => by have := q2 x hx; omega) _ _ (hp.items.below HB0.out))
  rw [hb, r3] at HBU
  obtain ⟨A, kk, he, hcap, hmax, hcells⟩ := hp.items
  cases he
  have hi' : (items.length : Int) ≤ 1000 := by omega
  dsimp only [cellsC] at *
  by_cases hitems : items = []
  case pos =>
    have hn : items = [] := hitems
    have i0 : ¬ (0 : Int) < (items.length : Int) := by rw [hn]; decide
    have hrb : (⟨(rowL items).toArray⟩ : ByteArray) = ⟨#[]⟩ := by rw [hn]; rfl
    have hib : (⟨(itemsL items).toArray⟩ : ByteArray) = ⟨#[]⟩ := by rw [hn]; rfl
    rw [hrb] at HBU
    try rw [hib] at HV
    clear hrb hib hn hitems
    clear hp hcells r1 r2 r3 q1 q2 hb HB0 
    go_enter Tryz.func54, Tryz.ntmps54
    go_wp2_with fail
    refine HBU.out.mono ?_
    rintro _ w1 ⟨rfl, hb1⟩
    have HX := Lib.hid ((hb1.block _ (by rw [World.size_alloc]; omega)).trans (heap_alloc_new w (.cells #[.int .i64 ty, .int .i64 fl, .int .u32 (tsn : Int), .int .u32 (tag : Int), .int .u32 (win : Int), .int .u32 (ppid : Int), .int .u16 (st : Int), .int .u16 (ssn : Int), .int .u16 (outs : Int), .int .u16 (ins : Int), .slice A1 gaps.length k1, .slice A2 dups.length k2, .slice A3 items.length k3, .string text] 74)))
    have HVS := Lib.hid (show ValS w #[.int .i64 ty, .int .i64 fl, .int .u32 (tsn : Int), .int .u32 (tag : Int), .int .u32 (win : Int), .int .u32 (ppid : Int), .int .u16 (st : Int), .int .u16 (ssn : Int), .int .u16 (outs : Int), .int .u16 (ins : Int), .slice A1 gaps.length k1, .slice A2 dups.length k2, .slice A3 items.length k3, .string text] w1 from ⟨HX.out, ((Below.refl _ w).alloc (Nat.le_refl _) (.cells #[.int .i64 ty, .int .i64 fl, .int .u32 (tsn : Int), .int .u32 (tag : Int), .int .u32 (win : Int), .int .u32 (ppid : Int), .int .u16 (st : Int), .int .u16 (ssn : Int), .int .u16 (outs : Int), .int .u16 (ins : Int), .slice A1 gaps.length k1, .slice A2 dups.length k2, .slice A3 items.length k3, .string text] 74)).trans (hb1.mono (by rw [World.size_alloc]; omega))⟩)
    clear hb1
    have c0 : w1.cell? ⟨w.heap.size, 0, none⟩ = some (.int .i64 ty) := by rw [cell_in HX.out]; rfl
    have c1 : w1.cell? ⟨w.heap.size, 1, none⟩ = some (.int .i64 fl) := by rw [cell_in HX.out]; rfl
    have c2 : w1.cell? ⟨w.heap.size, 2, none⟩ = some (.int .u32 (tsn : Int)) := by rw [cell_in HX.out]; rfl
    have c3 : w1.cell? ⟨w.heap.size, 3, none⟩ = some (.int .u32 (tag : Int)) := by rw [cell_in HX.out]; rfl
    have c4 : w1.cell? ⟨w.heap.size, 4, none⟩ = some (.int .u32 (win : Int)) := by rw [cell_in HX.out]; rfl
    have c5 : w1.cell? ⟨w.heap.size, 5, none⟩ = some (.int .u32 (ppid : Int)) := by rw [cell_in HX.out]; rfl
    have c6 : w1.cell? ⟨w.heap.size, 6, none⟩ = some (.int .u16 (st : Int)) := by rw [cell_in HX.out]; rfl
    have c7 : w1.cell? ⟨w.heap.size, 7, none⟩ = some (.int .u16 (ssn : Int)) := by rw [cell_in HX.out]; rfl
    have c8 : w1.cell? ⟨w.heap.size, 8, none⟩ = some (.int .u16 (outs : Int)) := by rw [cell_in HX.out]; rfl
    have c9 : w1.cell? ⟨w.heap.size, 9, none⟩ = some (.int .u16 (ins : Int)) := by rw [cell_in HX.out]; rfl
    have c10 : w1.cell? ⟨w.heap.size, 10, none⟩ = some (.slice A1 gaps.length k1) := by rw [cell_in HX.out]; rfl
    have c11 : w1.cell? ⟨w.heap.size, 11, none⟩ = some (.slice A2 dups.length k2) := by rw [cell_in HX.out]; rfl
    have c12 : w1.cell? ⟨w.heap.size, 12, none⟩ = some (.slice A3 items.length k3) := by rw [cell_in HX.out]; rfl
    have c13 : w1.cell? ⟨w.heap.size, 13, none⟩ = some (.string text) := by rw [cell_in HX.out]; rfl
    clear HX HBU
    go_wp2_with fail
    go_ret
    exact ⟨by rw [← HV.out]; rfl, HVS.out.2⟩
  case neg =>
    have hpos : 0 < items.length := List.length_pos_iff.2 hitems
    obtain ⟨b, off, rfl, hb', hc⟩ := hcells (by omega)
    obtain ⟨j, hj⟩ : ∃ j, items.length = j + 1 := ⟨items.length - 1, by omega⟩
    have hlp := lastPad_last items (by omega)
    have hcut := cut_items items
    have hc1 := (hc j (by omega)).2
    have hjx : items[items.length - 1]'(by omega) = items[j]'(by omega) := by congr 1; omega
    rw [hjx] at hlp
    have hxs := q2 (items[j]'(by omega)) (List.getElem_mem _)
    generalize items[j]'(by omega) = x at *
    obtain ⟨xa, xt⟩ := x
    dsimp only at hc1 hlp hxs
    have HPD := Lib.hid (fun W => rpad_any (xt.size : Int) (by omega) (by omega) W)
    rw [padI_nat, ← hlp] at HPD
    have hle := lastPad_le items
    generalize lastPad items = p at *
    have hsz : (⟨(rowL items).toArray⟩ : ByteArray).size = (rowL items).length := toB_size _
    have y1 : IntKind.i64.wrap ((items.length : Int) - 1) = (j : Int) := by rw [IntKind.wrap_i64]; omega
    have y2 : IntKind.i64.wrap (((⟨(rowL items).toArray⟩ : ByteArray).size : Int) - (p : Int)) = (((rowL items).length - p : Nat) : Int) := by rw [hsz, IntKind.wrap_i64]; omega
    have y3 : (0 : Int) ≤ (((rowL items).length - p : Nat) : Int) := by omega
    have y4 : (((rowL items).length - p : Nat) : Int) ≤ ((⟨(rowL items).toArray⟩ : ByteArray).size : Int) := by rw [hsz]; omega
    have y5 : (0 : Int) ≤ (j : Int) := by omega
    have y6 : (j : Int) < (items.length : Int) := by omega
    have i0 : (0 : Int) < (items.length : Int) := by omega
    have hibs : (⟨(itemsL items).toArray⟩ : ByteArray).size ≤ 4000 := by rw [toB_size, itemsL_length]; omega
    generalize (rowL items).length - p = q at *
    generalize (⟨(itemsL items).toArray⟩ : ByteArray) = ib at *
    generalize (⟨(rowL items).toArray⟩ : ByteArray) = rb at *
    have y7 : rb.size ≤ 4000 := by omega
    have z6 : ¬ (9223372036854775807 < ib.size + text.size) := by omega
    clear hp hcells r1 r2 r3 q1 q2 hb HB0 hc hj hjx hlp hle hxs hsz hpos hitems
    go_enter Tryz.func54, Tryz.ntmps54
    go_wp2_with fail
    refine HBU.out.mono ?_
    rintro _ w1 ⟨rfl, hb1⟩
    have HX := Lib.hid ((hb1.block _ (by rw [World.size_alloc]; omega)).trans (heap_alloc_new w (.cells #[.int .i64 ty, .int .i64 fl, .int .u32 (tsn : Int), .int .u32 (tag : Int), .int .u32 (win : Int), .int .u32 (ppid : Int), .int .u16 (st : Int), .int .u16 (ssn : Int), .int .u16 (outs : Int), .int .u16 (ins : Int), .slice A1 gaps.length k1, .slice A2 dups.length k2, .slice (some ⟨b, off, none⟩) items.length k3, .string text] 74)))
    have HVS := Lib.hid (show ValS w #[.int .i64 ty, .int .i64 fl, .int .u32 (tsn : Int), .int .u32 (tag : Int), .int .u32 (win : Int), .int .u32 (ppid : Int), .int .u16 (st : Int), .int .u16 (ssn : Int), .int .u16 (outs : Int), .int .u16 (ins : Int), .slice A1 gaps.length k1, .slice A2 dups.length k2, .slice (some ⟨b, off, none⟩) items.length k3, .string text] w1 from ⟨HX.out, ((Below.refl _ w).alloc (Nat.le_refl _) (.cells #[.int .i64 ty, .int .i64 fl, .int .u32 (tsn : Int), .int .u32 (tag : Int), .int .u32 (win : Int), .int .u32 (ppid : Int), .int .u16 (st : Int), .int .u16 (ssn : Int), .int .u16 (outs : Int), .int .u16 (ins : Int), .slice A1 gaps.length k1, .slice A2 dups.length k2, .slice (some ⟨b, off, none⟩) items.length k3, .string text] 74)).trans (hb1.mono (by rw [World.size_alloc]; omega))⟩)
    clear hb1
    have c0 : w1.cell? ⟨w.heap.size, 0, none⟩ = some (.int .i64 ty) := by rw [cell_in HX.out]; rfl
    have c1 : w1.cell? ⟨w.heap.size, 1, none⟩ = some (.int .i64 fl) := by rw [cell_in HX.out]; rfl
    have c2 : w1.cell? ⟨w.heap.size, 2, none⟩ = some (.int .u32 (tsn : Int)) := by rw [cell_in HX.out]; rfl
    have c3 : w1.cell? ⟨w.heap.size, 3, none⟩ = some (.int .u32 (tag : Int)) := by rw [cell_in HX.out]; rfl
    have c4 : w1.cell? ⟨w.heap.size, 4, none⟩ = some (.int .u32 (win : Int)) := by rw [cell_in HX.out]; rfl
    have c5 : w1.cell? ⟨w.heap.size, 5, none⟩ = some (.int .u32 (ppid : Int)) := by rw [cell_in HX.out]; rfl
    have c6 : w1.cell? ⟨w.heap.size, 6, none⟩ = some (.int .u16 (st : Int)) := by rw [cell_in HX.out]; rfl
    have c7 : w1.cell? ⟨w.heap.size, 7, none⟩ = some (.int .u16 (ssn : Int)) := by rw [cell_in HX.out]; rfl
    have c8 : w1.cell? ⟨w.heap.size, 8, none⟩ = some (.int .u16 (outs : Int)) := by rw [cell_in HX.out]; rfl
    have c9 : w1.cell? ⟨w.heap.size, 9, none⟩ = some (.int .u16 (ins : Int)) := by rw [cell_in HX.out]; rfl
    have c10 : w1.cell? ⟨w.heap.size, 10, none⟩ = some (.slice A1 gaps.length k1) := by rw [cell_in HX.out]; rfl
    have c11 : w1.cell? ⟨w.heap.size, 11, none⟩ = some (.slice A2 dups.length k2) := by rw [cell_in HX.out]; rfl
    have c12 : w1.cell? ⟨w.heap.size, 12, none⟩ = some (.slice (some ⟨b, off, none⟩) items.length k3) := by rw [cell_in HX.out]; rfl
    have c13 : w1.cell? ⟨w.heap.size, 13, none⟩ = some (.string text) := by rw [cell_in HX.out]; rfl
    have hd1 := (HVS.out.2.cell (p := ⟨b, off + j * 2 + 1, none⟩) hb').trans hc1
    clear HX hc1 HBU
    go_wp2_with fail
    refine (HPD.out _).mono ?_
    rintro _ w2 ⟨rfl, rfl⟩
    go_wp2_with fail
    go_ret
    exact ⟨by rw [← HV.out]; rfl, HVS.out.2⟩
end Go.Proofs.YtlbaockipeojhaaGreat
end
