/-
  A chunk made of its value: contracts. A chunk read from bytes: contracts.
-/
import Derived.Test.YtlbaockipeojhaaGreatGet
import Derived.Test.YtlbaockipeojhaaGreatMeant
import Derived.Test.YtlbaockipeojhaaGreatParse
import Derived.Test.YtlbaockipeojhaaGreatCk
import Derived.Test.YtlbaockipeojhaaGreatTail
section
namespace Go.Proofs.YtlbaockipeojhaaGreat
open Go.RowKit
set_option linter.unusedVariables false
set_option linter.unusedSimpArgs false
set_option maxRecDepth 100000

theorem setter_32 (r : Nat) (w : World) : Calls Tryz.prog 113 #[.pointer (some ⟨r, 0, none⟩)] w fun e w' => e = .returned (.func (.func 122) #[] #[.pointer (some ⟨w.heap.size, 0, none⟩)]) ∧ w' = w.alloc (.cells #[.pointer (some ⟨r, 0, none⟩)] 130) := by
  go_enter Tryz.func113, Tryz.ntmps113
  go_wp2
  go_ret
  exact ⟨rfl, rfl⟩
theorem setter_16 (r : Nat) (w : World) : Calls Tryz.prog 114 #[.pointer (some ⟨r, 0, none⟩)] w fun e w' => e = .returned (.func (.func 124) #[] #[.pointer (some ⟨w.heap.size, 0, none⟩)]) ∧ w' = w.alloc (.cells #[.pointer (some ⟨r, 0, none⟩)] 130) := by
  go_enter Tryz.func114, Tryz.ntmps114
  go_wp2
  go_ret
  exact ⟨rfl, rfl⟩
/-- The cells of a chunk that has its type and its flags alone. -/
def cells0 (k f : Int) : Array Value := cellsC (zeroC k f) (.slice none 0 0) (.slice none 0 0) (.slice none 0 0)
/-- What a chunk, a reader and two captured ones lie in, each just made. -/
theorem begin_facts (w : World) (k f : Int) (v : ByteArray) :
    let W := ((((w.alloc (.cells (cells0 0 0) 52)).alloc (.cells #[.string v, .bool false] 132)).alloc (.cells (cells0 k f) 52)).alloc (.cells #[.pointer (some ⟨w.heap.size + 1, 0, none⟩)] 130)).alloc (.cells #[.pointer (some ⟨w.heap.size + 1, 0, none⟩)] 130)
    W.heap[w.heap.size]? = some (.cells (cells0 0 0) 52 (0, 0)) ∧ W.heap[w.heap.size + 1]? = some (.cells #[.string v, .bool false] 132 (0, 0)) ∧ W.heap[w.heap.size + 2]? = some (.cells (cells0 k f) 52 (0, 0)) ∧
      W.heap[w.heap.size + 3]? = some (.cells #[.pointer (some ⟨w.heap.size + 1, 0, none⟩)] 130 (0, 0)) ∧ W.heap[w.heap.size + 4]? = some (.cells #[.pointer (some ⟨w.heap.size + 1, 0, none⟩)] 130 (0, 0)) ∧ Below w.heap.size w W := by
  intro W
  have key : ∀ (X : World) (o : Obj) (n : Nat), X.heap.size = n → (X.alloc o).heap[n]? = some o ∧ (X.alloc o).heap.size = n + 1 ∧ ∀ j, j < n → (X.alloc o).heap[j]? = X.heap[j]? := by
    intro X o n hn
    subst hn
    exact ⟨heap_alloc_new X o, World.size_alloc _ _, fun j hj => Below.heap_alloc _ _ _ hj⟩
  obtain ⟨a1, a2, a3⟩ := key w (.cells (cells0 0 0) 52) _ rfl
  have d1 : Below w.heap.size w (w.alloc (.cells (cells0 0 0) 52)) := (Below.refl _ _).alloc (Nat.le_refl _) _
  generalize hW1 : w.alloc (.cells (cells0 0 0) 52) = W1 at *
  obtain ⟨b1, b2, b3⟩ := key W1 (.cells #[.string v, .bool false] 132) _ a2
  have d2 := d1.alloc (by omega) (.cells #[.string v, .bool false] 132)
  generalize hW2 : W1.alloc (.cells #[.string v, .bool false] 132) = W2 at *
  obtain ⟨c1, c2, c3⟩ := key W2 (.cells (cells0 k f) 52) _ b2
  have d3 := d2.alloc (by omega) (.cells (cells0 k f) 52)
  generalize hW3 : W2.alloc (.cells (cells0 k f) 52) = W3 at *
  obtain ⟨e1, e2, e3⟩ := key W3 (.cells #[.pointer (some ⟨w.heap.size + 1, 0, none⟩)] 130) _ c2
  have d4 := d3.alloc (by omega) (.cells #[.pointer (some ⟨w.heap.size + 1, 0, none⟩)] 130)
  generalize hW4 : W3.alloc (.cells #[.pointer (some ⟨w.heap.size + 1, 0, none⟩)] 130) = W4 at *
  obtain ⟨f1, f2, f3⟩ := key W4 (.cells #[.pointer (some ⟨w.heap.size + 1, 0, none⟩)] 130) _ e2
  have d5 := d4.alloc (by omega) (.cells #[.pointer (some ⟨w.heap.size + 1, 0, none⟩)] 130)
  have e4 : W = W4.alloc (.cells #[.pointer (some ⟨w.heap.size + 1, 0, none⟩)] 130) := by rw [← hW4, ← hW3, ← hW2, ← hW1]
  rw [e4]
  refine ⟨?_, ?_, ?_, ?_, f1, d5⟩
  · rw [f3 _ (by omega), e3 _ (by omega), c3 _ (by omega), b3 _ (by omega), a1]
  · rw [f3 _ (by omega), e3 _ (by omega), c3 _ (by omega), b1]
  · rw [f3 _ (by omega), e3 _ (by omega), c1]
  · rw [f3 _ (by omega), e1]
/-- A chunk is handed back, and whether it is right; where it lies. -/
def ValQ (c : Ck) (ok : Bool) (w : World) (e : Ending) (w' : World) : Prop :=
  ∃ g d it, e = .returned (.tuple #[.agg (cellsC c g d it), .bool ok]) ∧ Parts w' c g d it ∧ (∀ j, (g.ownBlock = some j ∨ d.ownBlock = some j ∨ it.ownBlock = some j) → w.heap.size ≤ j) ∧ Below w.heap.size w w'
section
variable {k f : Int} {v s : ByteArray} {a b c d e g h i : Nat} {q : Bool}
theorem parseV_text (hs : setNums (zeroC k f) v false = (⟨k, f, a, b, c, d, e, g, h, i, [], [], [], noB⟩, s, q)) (t3 : k ≠ 3) (hi : hasItems k = false) : parseV k f v = (⟨k, f, a, b, c, d, e, g, h, i, [], [], [], s⟩, !q && formedB ⟨k, f, a, b, c, d, e, g, h, i, [], [], [], s⟩) := by
  unfold parseV
  rw [hs]
  dsimp only
  rw [if_neg t3, hi]
  cases q <;> rfl
theorem parseV_items (hs : setNums (zeroC k f) v false = (⟨k, f, a, b, c, d, e, g, h, i, [], [], [], noB⟩, s, q)) (t3 : k ≠ 3) (hi : hasItems k = true) : parseV k f v = (⟨k, f, a, b, c, d, e, g, h, i, [], [], (parseB s).1, noB⟩, !q && decide ((parseB s).2.2 = 0) && formedB ⟨k, f, a, b, c, d, e, g, h, i, [], [], (parseB s).1, noB⟩) := by
  unfold parseV
  rw [hs]
  dsimp only
  rw [if_neg t3, hi]
  rfl
theorem parseV_sack (hs : setNums (zeroC 3 f) v false = (⟨3, f, a, b, c, d, e, g, h, i, [], [], [], noB⟩, s, q)) : parseV 3 f v = (⟨3, f, a, b, c, d, e, g, h, i, (repsS s q).1, (repsS s q).2.1, [], (repsS s q).2.2.1⟩, !(repsS s q).2.2.2 && formedB ⟨3, f, a, b, c, d, e, g, h, i, (repsS s q).1, (repsS s q).2.1, [], (repsS s q).2.2.1⟩) := by
  have hi : hasItems 3 = false := rfl
  unfold parseV
  rw [hs]
  dsimp only
  rw [if_pos rfl, hi]
  generalize repsS s q = R
  obtain ⟨x, y, z, t⟩ := R
  cases t <;> rfl
end
theorem reps_lens (s : ByteArray) (b : Bool) : (repsS s b).1.length ≤ 65535 ∧ (repsS s b).2.1.length ≤ 65535 ∧ (repsS s b).2.2.1.size ≤ s.size := by
  unfold repsS
  dsimp only
  have h1 := rd16_fst s b
  have h2 := rd16_fst (rd16 s b).2.1 (rd16 s b).2.2
  have h3 := rd_size16 s b
  have h4 := rd_size16 (rd16 s b).2.1 (rd16 s b).2.2
  split
  · refine ⟨by simp only [gapsAt, List.length_map, List.length_range]; omega, by simp only [dupsAt, List.length_map, List.length_range]; omega, Nat.zero_le _⟩
  · exact ⟨Nat.zero_le _, Nat.zero_le _, by dsimp only; omega⟩
set_option maxHeartbeats 16000000 in
theorem parseVal_any (k f : Int) (v : ByteArray) (hv : v.size ≤ 4000) (w : World) :
    Calls Tryz.prog 91 #[.int .i64 k, .int .i64 f, .string v] w (ValQ (parseV k f v).1 (parseV k f v).2 w) := by
  obtain ⟨s0, s1, s2, s3, s4, s5⟩ := begin_facts w k f v
  have HN := Lib.hid (numbers_set (w.heap.size + 2) (w.heap.size + 1) (w.heap.size + 3) (w.heap.size + 4) (zeroC k f) _ _ _ v (by omega) false _ s2 s1 s3 s4 (by omega) (by omega) (by omega))
  have HB := Lib.hid s5
  have HX0 := Lib.hid s0
  clear s0 s1 s2 s3 s4 s5
  have HV := Lib.hid (show setNums (zeroC k f) v false = setNums (zeroC k f) v false from rfl)
  obtain ⟨a, b, c, d, e, g, h, i, hset, w1, w2, -, hle⟩ := set_facts k f v
  generalize hR : setNums (zeroC k f) v false = R at HN hset hle
  obtain ⟨C1, s1, b1⟩ := R
  clear HV
  have HV := Lib.hid hR
  clear hR
  dsimp only at hset hle HN
  subst hset
  unfold cells0 at *
  dsimp only [cellsC, zeroC] at *
  have HWF := Lib.hid (fun ga du it te hg hd => wf_nums k f a b c d e g h i w1.1 w1.2.1 w1.2.2.1 w1.2.2.2 w2.1 w2.2.1 w2.2.2.1 w2.2.2.2 ga du it te hg hd)
  have HCS := Lib.hid ckSize
  have HGD := Lib.hid (reps_facts s1 b1)
  have HRN := Lib.hid (reps_lens s1 b1)
  have HLE := Lib.hid hle
  clear w1 w2
  have HF := Lib.hid (fun W => formOf_any k W)
  by_cases t3 : k = 3
  · subst t3
    have hfd : ∀ W, (Instr.field 116 (.agg #[.int .i64 0, .int .i64 0, .int .i64 0, .int .i64 0, .int .i64 0, .int .i64 100]) 4).run Tryz.prog W = .ok (.int .i64 0) W := fun _ => by kernel_rfl
    have hfA : formA 3 = #[.int .i64 0, .int .i64 0, .int .i64 0, .int .i64 0, .int .i64 0, .int .i64 100] := rfl
    rw [hfA] at HF
    clear hfA
    rw [parseV_sack HV.out]
    dsimp only
    have HRP := Lib.hid (fun W h => reps_any (w.heap.size + 1) s1 (by omega) b1 W h)
    generalize repsS s1 b1 = P at *
    obtain ⟨G, D, s2, b2⟩ := P
    dsimp only at HRP HGD HRN ⊢
    have hs2 : s2.size ≤ 4000 := by have := HRN.out.2.2; omega
    have HFM := Lib.hid (fun gx dx W hp => formed_any ⟨3, f, a, b, c, d, e, g, h, i, G, D, [], s2⟩ (HWF.out G D [] s2 HGD.out.1 HGD.out.2.1) (by have := HRN.out.1; show G.length ≤ _; omega) (by have := HRN.out.2.1; show D.length ≤ _; omega) (by simp) (by show s2.size ≤ _; omega) gx dx (.slice none 0 0) W hp)
    generalize formedB ⟨3, f, a, b, c, d, e, g, h, i, G, D, [], s2⟩ = fb at *
    clear HV HWF HGD HRN
    dsimp only [cellsC] at HFM
    go_enter Tryz.func91, Tryz.ntmps91
    go_wp2_with (first
    | (go_at_call 113; ((with_reducible refine (setter_32 _ _).mono ?_); rintro e w1 ⟨rfl, rfl⟩))
    | (go_at_call 114; ((with_reducible refine (setter_16 _ _).mono ?_); rintro e w1 ⟨rfl, rfl⟩)))
    refine HN.out.mono ?_
    rintro _ w1 ⟨rfl, hb, hr, ht⟩
    have HXo := Lib.hid ((ht.block w.heap.size (by omega)).trans HX0.out)
    have HXb := Lib.hid hb
    have HXr := Lib.hid hr
    replace HB := Lib.hid (HB.out.trans (ht.below (B := w.heap.size) fun j hj => by omega))
    clear hb hr ht HN HX0
    have hlt : w.heap.size + 2 < w1.heap.size := (Array.getElem?_eq_some_iff.1 HXb.out).1
    go_wp2_with fail
    refine (HRP.out _ HXr.out).mono ?_
    rintro _ w2 ⟨gv, dv, rfl, rg, rd, hr2, gg, ag, ad⟩
    obtain ⟨A1, k1, rfl, -⟩ := id rg
    obtain ⟨A2, k2, rfl, -⟩ := id rd
    replace HXb := Lib.hid ((gg.block _ (by omega) (by simp)).trans HXb.out)
    replace HXo := Lib.hid ((gg.block _ (by omega) (by simp)).trans HXo.out)
    replace HXr := Lib.hid hr2
    replace HB := Lib.hid (HB.out.grown gg HB.out.size fun j hj => by injection hj with hj; omega)
    have e10 : w2.cell? ⟨w.heap.size + 2, 10, none⟩ = some (.slice none 0 0) := by rw [cell_in HXb.out]; rfl
    have f10 : w2.frozen? ⟨w.heap.size + 2, 10, none⟩ = false := frozen_of_row HXb.out 10
    have e11 : w2.cell? ⟨w.heap.size + 2, 11, none⟩ = some (.slice none 0 0) := by rw [cell_in HXb.out]; rfl
    have f11 : w2.frozen? ⟨w.heap.size + 2, 11, none⟩ = false := frozen_of_row HXb.out 11
    have HXb4 := Lib.hid (show ((w2.setCell ⟨w.heap.size + 2, 10, none⟩ (.slice A1 G.length k1)).setCell ⟨w.heap.size + 2, 11, none⟩ (.slice A2 D.length k2)).heap[w.heap.size + 2]? = some (.cells #[.int .i64 3, .int .i64 f, .int .u32 (a : Int), .int .u32 (b : Int), .int .u32 (c : Int), .int .u32 (d : Int), .int .u16 (e : Int), .int .u16 (g : Int), .int .u16 (h : Int), .int .u16 (i : Int), .slice A1 G.length k1, .slice A2 D.length k2, .slice none 0 0, .string noB] 52 (0, 0)) from by have := row_set (row_set HXb.out 10 (.slice A1 G.length k1)) 11 (.slice A2 D.length k2); simpa using this)
    have HXo4 := Lib.hid (((Below.heap_setCell (w2.setCell ⟨w.heap.size + 2, 10, none⟩ (.slice A1 G.length k1)) ⟨w.heap.size + 2, 11, none⟩ (.slice A2 D.length k2) (w.heap.size) (by simp)).trans (Below.heap_setCell w2 ⟨w.heap.size + 2, 10, none⟩ (.slice A1 G.length k1) (w.heap.size) (by simp))).trans HXo.out)
    have HXr4 := Lib.hid (((Below.heap_setCell (w2.setCell ⟨w.heap.size + 2, 10, none⟩ (.slice A1 G.length k1)) ⟨w.heap.size + 2, 11, none⟩ (.slice A2 D.length k2) (w.heap.size + 1) (by simp)).trans (Below.heap_setCell w2 ⟨w.heap.size + 2, 10, none⟩ (.slice A1 G.length k1) (w.heap.size + 1) (by simp))).trans HXr.out)
    have HB4 := Lib.hid ((HB.out.setCell (p := ⟨w.heap.size + 2, 10, none⟩) (by simp) (.slice A1 G.length k1)).setCell (p := ⟨w.heap.size + 2, 11, none⟩) (by simp) (.slice A2 D.length k2))
    have HRG := Lib.hid (rg.keep (w' := ((w2.setCell ⟨w.heap.size + 2, 10, none⟩ (.slice A1 G.length k1)).setCell ⟨w.heap.size + 2, 11, none⟩ (.slice A2 D.length k2))) (Nat.le_of_eq (by simp [World.setCell])) (fun j hj => (Below.heap_setCell (w2.setCell ⟨w.heap.size + 2, 10, none⟩ (.slice A1 G.length k1)) ⟨w.heap.size + 2, 11, none⟩ (.slice A2 D.length k2) j (by have := ag j hj; show j ≠ w.heap.size + 2; omega)).trans (Below.heap_setCell w2 ⟨w.heap.size + 2, 10, none⟩ (.slice A1 G.length k1) j (by have := ag j hj; show j ≠ w.heap.size + 2; omega))))
    have HRD := Lib.hid (rd.keep (w' := ((w2.setCell ⟨w.heap.size + 2, 10, none⟩ (.slice A1 G.length k1)).setCell ⟨w.heap.size + 2, 11, none⟩ (.slice A2 D.length k2))) (Nat.le_of_eq (by simp [World.setCell])) (fun j hj => (Below.heap_setCell (w2.setCell ⟨w.heap.size + 2, 10, none⟩ (.slice A1 G.length k1)) ⟨w.heap.size + 2, 11, none⟩ (.slice A2 D.length k2) j (by have := ad j hj; show j ≠ w.heap.size + 2; omega)).trans (Below.heap_setCell w2 ⟨w.heap.size + 2, 10, none⟩ (.slice A1 G.length k1) j (by have := ad j hj; show j ≠ w.heap.size + 2; omega))))
    have AG := Lib.hid ag
    have AD := Lib.hid ad
    clear HXb HXo HXr HB rg rd hr2 gg ag ad
    have HXb := Lib.hid HXb4.out
    have HXo := Lib.hid HXo4.out
    have HXr := Lib.hid HXr4.out
    have HB := Lib.hid HB4.out
    clear HXb4 HXo4 HXr4 HB4
    go_wp2_with fail
    refine (HF.out _).mono ?_
    rintro _ w3 ⟨rfl, hb⟩
    replace HRG := Lib.hid (HRG.out.below hb)
    replace HRD := Lib.hid (HRD.out.below hb)
    replace HXo := Lib.hid ((hb.block _ (Array.getElem?_eq_some_iff.1 HXo.out).1).trans HXo.out)
    replace HXb := Lib.hid ((hb.block _ (Array.getElem?_eq_some_iff.1 HXb.out).1).trans HXb.out)
    replace HXr := Lib.hid ((hb.block _ (Array.getElem?_eq_some_iff.1 HXr.out).1).trans HXr.out)
    replace HB := Lib.hid (HB.out.trans (hb.mono HB.out.size))
    clear hb
    clear e10 e11 f10 f11
    have r0 : w3.cell? ⟨w.heap.size + 1, 0, none⟩ = some (.string s2) := by rw [cell_in HXr.out]; rfl
    go_wp2_with fail
    refine (clone_any s2 _ (by omega)).mono ?_
    rintro _ w5 ⟨rfl, hb⟩
    have hbp := hb
    replace HXo := Lib.hid ((hb.block _ (Array.getElem?_eq_some_iff.1 HXo.out).1).trans HXo.out)
    replace HXb := Lib.hid ((hb.block _ (Array.getElem?_eq_some_iff.1 HXb.out).1).trans HXb.out)
    replace HXr := Lib.hid ((hb.block _ (Array.getElem?_eq_some_iff.1 HXr.out).1).trans HXr.out)
    replace HB := Lib.hid (HB.out.trans (hb.mono HB.out.size))
    clear hb
    clear r0
    have e13 : w5.cell? ⟨w.heap.size + 2, 13, none⟩ = some (.string noB) := by rw [cell_in HXb.out]; rfl
    have f13 : w5.frozen? ⟨w.heap.size + 2, 13, none⟩ = false := frozen_of_row HXb.out 13
    have HXb4 := Lib.hid (show (w5.setCell ⟨w.heap.size + 2, 13, none⟩ (.string s2)).heap[w.heap.size + 2]? = some (.cells #[.int .i64 3, .int .i64 f, .int .u32 (a : Int), .int .u32 (b : Int), .int .u32 (c : Int), .int .u32 (d : Int), .int .u16 (e : Int), .int .u16 (g : Int), .int .u16 (h : Int), .int .u16 (i : Int), .slice A1 G.length k1, .slice A2 D.length k2, .slice none 0 0, .string s2] 52 (0, 0)) from by have := row_set HXb.out 13 (.string s2); simpa using this)
    have HXo4 := Lib.hid ((Below.heap_setCell w5 ⟨w.heap.size + 2, 13, none⟩ (.string s2) (w.heap.size) (by simp)).trans HXo.out)
    have HXr4 := Lib.hid ((Below.heap_setCell w5 ⟨w.heap.size + 2, 13, none⟩ (.string s2) (w.heap.size + 1) (by simp)).trans HXr.out)
    have HB4 := Lib.hid (HB.out.setCell (p := ⟨w.heap.size + 2, 13, none⟩) (by simp) (.string s2))
    clear HXb HXo HXr HB
    have ne4 : ∀ j, w1.heap.size ≤ j → (w5.setCell ⟨w.heap.size + 2, 13, none⟩ (.string s2)).heap[j]? = w5.heap[j]? := fun j hj => Below.heap_setCell _ _ _ _ (by show j ≠ w.heap.size + 2; omega)
    have HT := Lib.hid (show TailS w ⟨3, f, a, b, c, d, e, g, h, i, G, D, [], s2⟩ (.slice A1 G.length k1) (.slice A2 D.length k2) (.slice none 0 0) s2 b2 (w5.setCell ⟨w.heap.size + 2, 13, none⟩ (.string s2)) from ⟨HXb4.out, HXr4.out, ⟨_, by rfl, HXo4.out⟩, ⟨(HRG.out.below hbp).keep (Nat.le_of_eq (by simp [World.setCell])) (fun j hj => ne4 j (AG.out j hj)), (HRD.out.below hbp).keep (Nat.le_of_eq (by simp [World.setCell])) (fun j hj => ne4 j (AD.out j hj)), RowI.nil _⟩, HB4.out, fun j hj => by rcases hj with hj | hj | hj; have := AG.out _ hj; omega; have := AD.out _ hj; omega; cases hj⟩)
    clear HXb4 HXr4 HXo4 HB4 hbp HRG HRD AG AD ne4
    have HFM1 := Lib.hid (fun W hp => HFM.out (.slice A1 G.length k1) (.slice A2 D.length k2) W hp)
    clear HFM
    have HFM := Lib.hid HFM1.out
    clear HFM1
    go_wp2_with fail
    cases b2 with
    | true =>
      refine wp_region_noPanic ?_
      refine wp_region_held_drew (S := (TailS w ⟨3, f, a, b, c, d, e, g, h, i, G, D, [], s2⟩ (.slice A1 G.length k1) (.slice A2 D.length k2) (.slice none 0 0) s2 true)) (by kernel_rfl) ?_ (fun hHeld => ?_)
      · exact HT.out.drew
      clear HT
      refine k7 0 _ (y := yieldsIf_load_mid (by rfl) 52 (.tmp 8) rfl _ 0 (by rfl) _ _ (fun W h => h.range) Tryz.underlying52 rfl HCS.out) (h := ?_)
      try simp only [Act.put, p9a, p9z, p9s]
      refine k9 1 ?_ (y := ?_) (h := ?_)
      rotate_left 1
      · (intro w' hSw; have hq := hSw.wrong; clear hSw; go_simp; try with_reducible rfl)
      try simp only [Act.put, p9a, p9z, p9s]
      refine k9 2 ?_ (y := ?_) (h := ?_)
      rotate_left 1
      · (intro w' hSw; have hq := hSw.wrong; clear hSw; go_simp; try with_reducible rfl)
      try simp only [Act.put, p9a, p9z, p9s]
      refine k9 3 ?_ (y := ?_) (h := ?_)
      rotate_left 1
      · (intro w' hSw; have hq := hSw.wrong; clear hSw; go_simp; try with_reducible rfl)
      try simp only [Act.put, p9a, p9z, p9s]
      refine k9 4 ?_ (y := ?_) (h := ?_)
      rotate_left 1
      · (intro w' hSw; have hq := hSw.wrong; clear hSw; go_simp; try with_reducible rfl)
      try simp only [Act.put, p9a, p9z, p9s]
      refine k9 5 ?_ (y := ?_) (h := ?_)
      rotate_left 1
      · (intro w' hSw; have hq := hSw.wrong; clear hSw; go_simp; try with_reducible rfl)
      try simp only [Act.put, p9a, p9z, p9s]
      refine k9 6 ?_ (y := ?_) (h := ?_)
      rotate_left 1
      · (intro w' hSw; have hq := hSw.wrong; clear hSw; go_simp; try with_reducible rfl)
      try simp only [Act.put, p9a, p9z, p9s]
      refine k8 7 (h := ?_)
      try simp only [Act.put, p9a, p9z, p9s]
      refine k8 8 (h := ?_)
      try simp only [Act.put, p9a, p9z, p9s]
      refine k9 9 ?_ (y := ?_) (h := ?_)
      rotate_left 1
      · (intro w' hSw; have hq := hSw.wrong; clear hSw; go_simp; try with_reducible rfl)
      try simp only [Act.put, p9a, p9z, p9s]
      refine k9 10 ?_ (y := ?_) (h := ?_)
      rotate_left 1
      · (intro w' hSw; have hq := hSw.wrong; clear hSw; go_simp; try with_reducible rfl)
      try simp only [Act.put, p9a, p9z, p9s]
      refine k8 11 (h := ?_)
      try simp only [Act.put, p9a, p9z, p9s]
      refine k8 12 (h := ?_)
      try simp only [Act.put, p9a, p9z, p9s]
      refine k9 13 ?_ (y := ?_) (h := ?_)
      rotate_left 1
      · (intro w' hSw; have hq := hSw.wrong; clear hSw; go_simp; try with_reducible rfl)
      try simp only [Act.put, p9a, p9z, p9s]
      refine wpAnyH_ready (rs := [14]) (by kernel_rfl) (by simp) ?_
      refine AllReadyH.cons (by simp only [q9a, q9s, q9z]; rfl) (fun K hK => ?_) AllReadyH.nil
      have hset := hHeld.set #[.int .i64 3, .int .i64 f, .int .u32 (a : Int), .int .u32 (b : Int), .int .u32 (c : Int), .int .u32 (d : Int), .int .u16 (e : Int), .int .u16 (g : Int), .int .u16 (h : Int), .int .u16 (i : Int), .slice A1 G.length k1, .slice A2 D.length k2, .slice none 0 0, .string s2] rfl
      rw [if_pos (by rfl)]
      obtain ⟨old, ho1, ho2⟩ := hHeld.back
      refine wp_store_row 52 (.tmp 6) (.tmp 51) rfl w.heap.size #[.int .i64 3, .int .i64 f, .int .u32 (a : Int), .int .u32 (b : Int), .int .u32 (c : Int), .int .u32 (d : Int), .int .u16 (e : Int), .int .u16 (g : Int), .int .u16 (h : Int), .int .u16 (i : Int), .slice A1 G.length k1, .slice A2 D.length k2, .slice none 0 0, .string s2] (by rfl) (by rfl) 52 old ho2 HCS.out (by rw [ho1]; rfl) hHeld.parts.one ?_
      refine hK.out _ _ ?_ (fun hHeld => ?_)
      · exact hset.1
      clear hK K
      try simp only [Act.put, p9a, p9z, p9s]
      refine k9 15 ?_ (y := ?_) (h := ?_)
      rotate_left 1
      · (intro w' hSw; have hq := hSw.wrong; clear hSw; go_simp; try with_reducible rfl)
      try simp only [Act.put, p9a, p9z, p9s]
      refine wpAnyH_done (by kernel_rfl) ?_ _
      refine NoPanic.normal ?_
      have HE := Lib.hid hset
      clear hHeld hset ho1 ho2
      go_wp2_with fail
      exact bodyPost_ret (v := .tuple #[.agg #[.int .i64 3, .int .i64 f, .int .u32 (a : Int), .int .u32 (b : Int), .int .u32 (c : Int), .int .u32 (d : Int), .int .u16 (e : Int), .int .u16 (g : Int), .int .u16 (h : Int), .int .u16 (i : Int), .slice A1 G.length k1, .slice A2 D.length k2, .slice none 0 0, .string s2], .bool false]) (results_row1 Tryz.results91 _ _ w.heap.size _ #[.int .i64 3, .int .i64 f, .int .u32 (a : Int), .int .u32 (b : Int), .int .u32 (c : Int), .int .u32 (d : Int), .int .u16 (e : Int), .int .u16 (g : Int), .int .u16 (h : Int), .int .u16 (i : Int), .slice A1 G.length k1, .slice A2 D.length k2, .slice none 0 0, .string s2] _ _ (by rfl) HE.out.2 Tryz.underlying52 rfl HCS.out) rfl ⟨_, _, _, rfl, HE.out.1.parts, fun j hj => Nat.le_of_lt (HE.out.1.away j hj), HE.out.1.below⟩
    | false =>
      refine wp_region_noPanic ?_
      refine wp_region_held_drew (S := (TailS w ⟨3, f, a, b, c, d, e, g, h, i, G, D, [], s2⟩ (.slice A1 G.length k1) (.slice A2 D.length k2) (.slice none 0 0) s2 false)) (by kernel_rfl) ?_ (fun hHeld => ?_)
      · exact HT.out.drew
      clear HT
      refine k7 0 _ (y := yieldsIf_load_mid (by rfl) 52 (.tmp 8) rfl _ 0 (by rfl) _ _ (fun W h => h.range) Tryz.underlying52 rfl HCS.out) (h := ?_)
      try simp only [Act.put, p9a, p9z, p9s]
      refine k9 1 ?_ (y := ?_) (h := ?_)
      rotate_left 1
      · (intro w' hSw; have hq := hSw.wrong; clear hSw; go_simp; try with_reducible rfl)
      try simp only [Act.put, p9a, p9z, p9s]
      refine k9 2 ?_ (y := ?_) (h := ?_)
      rotate_left 1
      · (intro w' hSw; have hq := hSw.wrong; clear hSw; go_simp; try with_reducible rfl)
      try simp only [Act.put, p9a, p9z, p9s]
      refine k9 3 ?_ (y := ?_) (h := ?_)
      rotate_left 1
      · (intro w' hSw; have hq := hSw.wrong; clear hSw; go_simp; try with_reducible rfl)
      try simp only [Act.put, p9a, p9z, p9s]
      refine k9 4 ?_ (y := ?_) (h := ?_)
      rotate_left 1
      · (intro w' hSw; have hq := hSw.wrong; clear hSw; go_simp; try with_reducible rfl)
      try simp only [Act.put, p9a, p9z, p9s]
      refine k9 5 ?_ (y := ?_) (h := ?_)
      rotate_left 1
      · (intro w' hSw; have hq := hSw.wrong; clear hSw; go_simp; try with_reducible rfl)
      try simp only [Act.put, p9a, p9z, p9s]
      refine k9 6 ?_ (y := ?_) (h := ?_)
      rotate_left 1
      · (intro w' hSw; have hq := hSw.wrong; clear hSw; go_simp; try with_reducible rfl)
      try simp only [Act.put, p9a, p9z, p9s]
      refine k9 7 ?_ (y := ?_) (h := ?_)
      rotate_left 1
      · (intro w' hSw; have hq := hSw.wrong; clear hSw; go_simp; try with_reducible rfl)
      try simp only [Act.put, p9a, p9z, p9s]
      refine k9 8 ?_ (y := ?_) (h := ?_)
      rotate_left 1
      · (intro w' hSw; have hq := hSw.wrong; clear hSw; go_simp; try with_reducible rfl)
      try simp only [Act.put, p9a, p9z, p9s]
      refine k9 9 ?_ (y := ?_) (h := ?_)
      rotate_left 1
      · (intro w' hSw; have hq := hSw.wrong; clear hSw; go_simp; try with_reducible rfl)
      try simp only [Act.put, p9a, p9z, p9s]
      refine k9 10 ?_ (y := ?_) (h := ?_)
      rotate_left 1
      · (intro w' hSw; have hq := hSw.wrong; clear hSw; go_simp; try with_reducible rfl)
      try simp only [Act.put, p9a, p9z, p9s]
      refine k7 11 _ (y := yieldsIf_load_mid (by rfl) 52 (.tmp 8) rfl _ 0 (by rfl) _ _ (fun W h => h.range) Tryz.underlying52 rfl HCS.out) (h := ?_)
      try simp only [Act.put, p9a, p9z, p9s]
      refine wpAnyH_ready (rs := [12]) (by kernel_rfl) (by simp) ?_
      refine AllReadyH.cons (by simp only [q9a, q9s, q9z]; rfl) (fun K hK => ?_) AllReadyH.nil
      go_simp
      refine (HFM.out _ hHeld.parts).mono ?_
      rintro _ w6 ⟨rfl, hb6⟩
      have hS6 := hHeld.later hb6
      go_wp2_with fail
      refine hK.out _ _ ?_ (fun hHeld => ?_)
      · exact hS6
      clear hK K hS6 hb6
      try simp only [Act.put, p9a, p9z, p9s]
      refine k9 13 ?_ (y := ?_) (h := ?_)
      rotate_left 1
      · (intro w' hSw; have hq := hSw.wrong; clear hSw; go_simp; try with_reducible rfl)
      try simp only [Act.put, p9a, p9z, p9s]
      refine wpAnyH_ready (rs := [14]) (by kernel_rfl) (by simp) ?_
      refine AllReadyH.cons (by simp only [q9a, q9s, q9z]; rfl) (fun K hK => ?_) AllReadyH.nil
      have hset := hHeld.set #[.int .i64 3, .int .i64 f, .int .u32 (a : Int), .int .u32 (b : Int), .int .u32 (c : Int), .int .u32 (d : Int), .int .u16 (e : Int), .int .u16 (g : Int), .int .u16 (h : Int), .int .u16 (i : Int), .slice A1 G.length k1, .slice A2 D.length k2, .slice none 0 0, .string s2] rfl
      rw [if_pos (by rfl)]
      obtain ⟨old, ho1, ho2⟩ := hHeld.back
      refine wp_store_row 52 (.tmp 6) (.tmp 51) rfl w.heap.size #[.int .i64 3, .int .i64 f, .int .u32 (a : Int), .int .u32 (b : Int), .int .u32 (c : Int), .int .u32 (d : Int), .int .u16 (e : Int), .int .u16 (g : Int), .int .u16 (h : Int), .int .u16 (i : Int), .slice A1 G.length k1, .slice A2 D.length k2, .slice none 0 0, .string s2] (by rfl) (by rfl) 52 old ho2 HCS.out (by rw [ho1]; rfl) hHeld.parts.one ?_
      refine hK.out _ _ ?_ (fun hHeld => ?_)
      · exact hset.1
      clear hK K
      try simp only [Act.put, p9a, p9z, p9s]
      refine k9 15 ?_ (y := ?_) (h := ?_)
      rotate_left 1
      · (intro w' hSw; have hq := hSw.wrong; clear hSw; go_simp; try with_reducible rfl)
      try simp only [Act.put, p9a, p9z, p9s]
      refine wpAnyH_done (by kernel_rfl) ?_ _
      refine NoPanic.normal ?_
      have HE := Lib.hid hset
      clear hHeld hset ho1 ho2
      go_wp2_with fail
      exact bodyPost_ret (v := .tuple #[.agg #[.int .i64 3, .int .i64 f, .int .u32 (a : Int), .int .u32 (b : Int), .int .u32 (c : Int), .int .u32 (d : Int), .int .u16 (e : Int), .int .u16 (g : Int), .int .u16 (h : Int), .int .u16 (i : Int), .slice A1 G.length k1, .slice A2 D.length k2, .slice none 0 0, .string s2], .bool fb]) (results_row1 Tryz.results91 _ _ w.heap.size _ #[.int .i64 3, .int .i64 f, .int .u32 (a : Int), .int .u32 (b : Int), .int .u32 (c : Int), .int .u32 (d : Int), .int .u16 (e : Int), .int .u16 (g : Int), .int .u16 (h : Int), .int .u16 (i : Int), .slice A1 G.length k1, .slice A2 D.length k2, .slice none 0 0, .string s2] _ _ (by rfl) HE.out.2 Tryz.underlying52 rfl HCS.out) rfl ⟨_, _, _, rfl, HE.out.1.parts, fun j hj => Nat.le_of_lt (HE.out.1.away j hj), HE.out.1.below⟩
  cases hit : hasItems k with
  | true =>
    unfold formA at HF
    have hit' := of_decide_eq_true hit
    generalize formOf k = FO at HF hit'
    obtain ⟨mf, ⟨ta, tb⟩, ⟨ia, ib⟩, mr⟩ := FO
    dsimp only at HF hit'
    have hfd : ∀ W, (Instr.field 116 (.agg #[.int .i64 mf, .int .i64 ta, .int .i64 tb, .int .i64 ia, .int .i64 ib, .int .i64 mr]) 4).run Tryz.prog W = .ok (.int .i64 ib) W := fun _ => by kernel_rfl
    obtain ⟨s2, rfl⟩ : ∃ s2, s2 = s1 := ⟨_, rfl⟩
    obtain ⟨b2, rfl⟩ : ∃ b2, b2 = b1 := ⟨_, rfl⟩
    have n3 : (k == 3) = false := beq_eq_false_iff_ne.2 t3
    rw [parseV_items HV.out t3 hit]
    dsimp only
    have HPA := Lib.hid (fun W => parse_any s2 (by omega) W)
    have HPC := Lib.hid (parse_count (s := s2))
    generalize parseB s2 = P at *
    obtain ⟨l, at_, er⟩ := P
    dsimp only at HPA HPC ⊢
    have HFM := Lib.hid (fun it W hp => formed_any ⟨k, f, a, b, c, d, e, g, h, i, [], [], l, noB⟩ (HWF.out [] [] l noB (by simp) (by simp)) (by simp) (by simp) (by have := HPC.out; show l.length ≤ _; omega) (Nat.zero_le _) (.slice none 0 0) (.slice none 0 0) it W hp)
    generalize formedB ⟨k, f, a, b, c, d, e, g, h, i, [], [], l, noB⟩ = fb at *
    clear HV HWF HGD HRN hit HPC
    dsimp only [cellsC] at HFM
    go_enter Tryz.func91, Tryz.ntmps91
    go_wp2_with (first
    | (go_at_call 113; ((with_reducible refine (setter_32 _ _).mono ?_); rintro e w1 ⟨rfl, rfl⟩))
    | (go_at_call 114; ((with_reducible refine (setter_16 _ _).mono ?_); rintro e w1 ⟨rfl, rfl⟩)))
    refine HN.out.mono ?_
    rintro _ w1 ⟨rfl, hb, hr, ht⟩
    have HXo := Lib.hid ((ht.block w.heap.size (by omega)).trans HX0.out)
    have HXb := Lib.hid hb
    have HXr := Lib.hid hr
    replace HB := Lib.hid (HB.out.trans (ht.below (B := w.heap.size) fun j hj => by omega))
    clear hb hr ht HN HX0
    go_wp2_with fail
    refine (HF.out _).mono ?_
    rintro _ w2 ⟨rfl, hb⟩
    replace HXo := Lib.hid ((hb.block _ (Array.getElem?_eq_some_iff.1 HXo.out).1).trans HXo.out)
    replace HXb := Lib.hid ((hb.block _ (Array.getElem?_eq_some_iff.1 HXb.out).1).trans HXb.out)
    replace HXr := Lib.hid ((hb.block _ (Array.getElem?_eq_some_iff.1 HXr.out).1).trans HXr.out)
    replace HB := Lib.hid (HB.out.trans (hb.mono HB.out.size))
    clear hb
    have r0 : w2.cell? ⟨w.heap.size + 1, 0, none⟩ = some (.string s2) := by rw [cell_in HXr.out]; rfl
    have hlt : w.heap.size + 2 < w2.heap.size := (Array.getElem?_eq_some_iff.1 HXb.out).1
    go_wp2_with fail
    refine (HPA.out _).mono ?_
    rintro _ w5 ⟨vi, rfl, ho, hb⟩
    obtain ⟨A, cap, rfl, -⟩ := ho.slice
    have hol := ho.lt
    have HRI := Lib.hid (rowI_of_own ho)
    replace HXo := Lib.hid ((hb.block _ (Array.getElem?_eq_some_iff.1 HXo.out).1).trans HXo.out)
    replace HXb := Lib.hid ((hb.block _ (Array.getElem?_eq_some_iff.1 HXb.out).1).trans HXb.out)
    replace HXr := Lib.hid ((hb.block _ (Array.getElem?_eq_some_iff.1 HXr.out).1).trans HXr.out)
    replace HB := Lib.hid (HB.out.trans (hb.mono HB.out.size))
    clear hb
    clear r0 ho
    have e12 : w5.cell? ⟨w.heap.size + 2, 12, none⟩ = some (.slice none 0 0) := by rw [cell_in HXb.out]; rfl
    have f12 : w5.frozen? ⟨w.heap.size + 2, 12, none⟩ = false := frozen_of_row HXb.out 12
    have HXb4 := Lib.hid (show (w5.setCell ⟨w.heap.size + 2, 12, none⟩ (.slice A l.length cap)).heap[w.heap.size + 2]? = some (.cells #[.int .i64 k, .int .i64 f, .int .u32 (a : Int), .int .u32 (b : Int), .int .u32 (c : Int), .int .u32 (d : Int), .int .u16 (e : Int), .int .u16 (g : Int), .int .u16 (h : Int), .int .u16 (i : Int), .slice none 0 0, .slice none 0 0, .slice A l.length cap, .string noB] 52 (0, 0)) from by have := row_set HXb.out 12 (.slice A l.length cap); simpa using this)
    have HXo4 := Lib.hid ((Below.heap_setCell w5 ⟨w.heap.size + 2, 12, none⟩ (.slice A l.length cap) (w.heap.size) (by simp)).trans HXo.out)
    have HXr4 := Lib.hid ((Below.heap_setCell w5 ⟨w.heap.size + 2, 12, none⟩ (.slice A l.length cap) (w.heap.size + 1) (by simp)).trans HXr.out)
    have HB4 := Lib.hid (HB.out.setCell (p := ⟨w.heap.size + 2, 12, none⟩) (by simp) (.slice A l.length cap))
    clear HXb HXo HXr HB
    have HRI4 := Lib.hid (HRI.out.keep (w' := (w5.setCell ⟨w.heap.size + 2, 12, none⟩ (.slice A l.length cap))) (Nat.le_of_eq (by simp [World.setCell])) fun j hj => Below.heap_setCell _ _ _ _ (by have := (hol j hj).1; show j ≠ w.heap.size + 2; omega))
    have HT := Lib.hid (show TailS w ⟨k, f, a, b, c, d, e, g, h, i, [], [], l, noB⟩ (.slice none 0 0) (.slice none 0 0) (.slice A l.length cap) s2 b2 (w5.setCell ⟨w.heap.size + 2, 12, none⟩ (.slice A l.length cap)) from ⟨HXb4.out, HXr4.out, ⟨_, by rfl, HXo4.out⟩, ⟨RowG.nil _, RowN.nil _, HRI4.out⟩, HB4.out, fun j hj => by rcases hj with hj | hj | hj; cases hj; cases hj; have := (hol _ hj).1; omega⟩)
    have HFM1 := Lib.hid (fun W hp => HFM.out (.slice A l.length cap) W hp)
    clear HXb4 HXr4 HXo4 HB4 HRI HRI4 hol HFM
    have HFM := Lib.hid HFM1.out
    clear HFM1
    go_wp2_with fail
    cases b2 with
    | true =>
      refine wp_region_noPanic ?_
      refine wp_region_held_drew (S := (TailS w ⟨k, f, a, b, c, d, e, g, h, i, [], [], l, noB⟩ (.slice none 0 0) (.slice none 0 0) (.slice A l.length cap) s2 true)) (by kernel_rfl) ?_ (fun hHeld => ?_)
      · exact HT.out.drew
      clear HT
      refine k7 0 _ (y := yieldsIf_load_mid (by rfl) 52 (.tmp 8) rfl _ 0 (by rfl) _ _ (fun W h => h.range) Tryz.underlying52 rfl HCS.out) (h := ?_)
      try simp only [Act.put, p9a, p9z, p9s]
      refine k9 1 ?_ (y := ?_) (h := ?_)
      rotate_left 1
      · (intro w' hSw; have hq := hSw.wrong; clear hSw; go_simp; try with_reducible rfl)
      try simp only [Act.put, p9a, p9z, p9s]
      refine k9 2 ?_ (y := ?_) (h := ?_)
      rotate_left 1
      · (intro w' hSw; have hq := hSw.wrong; clear hSw; go_simp; try with_reducible rfl)
      try simp only [Act.put, p9a, p9z, p9s]
      refine k9 3 ?_ (y := ?_) (h := ?_)
      rotate_left 1
      · (intro w' hSw; have hq := hSw.wrong; clear hSw; go_simp; try with_reducible rfl)
      try simp only [Act.put, p9a, p9z, p9s]
      refine k9 4 ?_ (y := ?_) (h := ?_)
      rotate_left 1
      · (intro w' hSw; have hq := hSw.wrong; clear hSw; go_simp; try with_reducible rfl)
      try simp only [Act.put, p9a, p9z, p9s]
      refine k9 5 ?_ (y := ?_) (h := ?_)
      rotate_left 1
      · (intro w' hSw; have hq := hSw.wrong; clear hSw; go_simp; try with_reducible rfl)
      try simp only [Act.put, p9a, p9z, p9s]
      refine k9 6 ?_ (y := ?_) (h := ?_)
      rotate_left 1
      · (intro w' hSw; have hq := hSw.wrong; clear hSw; go_simp; try with_reducible rfl)
      try simp only [Act.put, p9a, p9z, p9s]
      refine k8 7 (h := ?_)
      try simp only [Act.put, p9a, p9z, p9s]
      refine k8 8 (h := ?_)
      try simp only [Act.put, p9a, p9z, p9s]
      refine k9 9 ?_ (y := ?_) (h := ?_)
      rotate_left 1
      · (intro w' hSw; have hq := hSw.wrong; clear hSw; go_simp; try with_reducible rfl)
      try simp only [Act.put, p9a, p9z, p9s]
      refine k9 10 ?_ (y := ?_) (h := ?_)
      rotate_left 1
      · (intro w' hSw; have hq := hSw.wrong; clear hSw; go_simp; try with_reducible rfl)
      try simp only [Act.put, p9a, p9z, p9s]
      refine k8 11 (h := ?_)
      try simp only [Act.put, p9a, p9z, p9s]
      refine k8 12 (h := ?_)
      try simp only [Act.put, p9a, p9z, p9s]
      refine k9 13 ?_ (y := ?_) (h := ?_)
      rotate_left 1
      · (intro w' hSw; have hq := hSw.wrong; clear hSw; go_simp; try with_reducible rfl)
      try simp only [Act.put, p9a, p9z, p9s]
      refine wpAnyH_ready (rs := [14]) (by kernel_rfl) (by simp) ?_
      refine AllReadyH.cons (by simp only [q9a, q9s, q9z]; rfl) (fun K hK => ?_) AllReadyH.nil
      have hset := hHeld.set #[.int .i64 k, .int .i64 f, .int .u32 (a : Int), .int .u32 (b : Int), .int .u32 (c : Int), .int .u32 (d : Int), .int .u16 (e : Int), .int .u16 (g : Int), .int .u16 (h : Int), .int .u16 (i : Int), .slice none 0 0, .slice none 0 0, .slice A l.length cap, .string noB] rfl
      rw [if_pos (by rfl)]
      obtain ⟨old, ho1, ho2⟩ := hHeld.back
      refine wp_store_row 52 (.tmp 6) (.tmp 51) rfl w.heap.size #[.int .i64 k, .int .i64 f, .int .u32 (a : Int), .int .u32 (b : Int), .int .u32 (c : Int), .int .u32 (d : Int), .int .u16 (e : Int), .int .u16 (g : Int), .int .u16 (h : Int), .int .u16 (i : Int), .slice none 0 0, .slice none 0 0, .slice A l.length cap, .string noB] (by rfl) (by rfl) 52 old ho2 HCS.out (by rw [ho1]; rfl) hHeld.parts.one ?_
      refine hK.out _ _ ?_ (fun hHeld => ?_)
      · exact hset.1
      clear hK K
      try simp only [Act.put, p9a, p9z, p9s]
      refine k9 15 ?_ (y := ?_) (h := ?_)
      rotate_left 1
      · (intro w' hSw; have hq := hSw.wrong; clear hSw; go_simp; try with_reducible rfl)
      try simp only [Act.put, p9a, p9z, p9s]
      refine wpAnyH_done (by kernel_rfl) ?_ _
      refine NoPanic.normal ?_
      have HE := Lib.hid hset
      clear hHeld hset ho1 ho2
      go_wp2_with fail
      exact bodyPost_ret (v := .tuple #[.agg #[.int .i64 k, .int .i64 f, .int .u32 (a : Int), .int .u32 (b : Int), .int .u32 (c : Int), .int .u32 (d : Int), .int .u16 (e : Int), .int .u16 (g : Int), .int .u16 (h : Int), .int .u16 (i : Int), .slice none 0 0, .slice none 0 0, .slice A l.length cap, .string noB], .bool false]) (results_row1 Tryz.results91 _ _ w.heap.size _ #[.int .i64 k, .int .i64 f, .int .u32 (a : Int), .int .u32 (b : Int), .int .u32 (c : Int), .int .u32 (d : Int), .int .u16 (e : Int), .int .u16 (g : Int), .int .u16 (h : Int), .int .u16 (i : Int), .slice none 0 0, .slice none 0 0, .slice A l.length cap, .string noB] _ _ (by rfl) HE.out.2 Tryz.underlying52 rfl HCS.out) rfl ⟨_, _, _, rfl, HE.out.1.parts, fun j hj => Nat.le_of_lt (HE.out.1.away j hj), HE.out.1.below⟩
    | false =>
      by_cases h0 : er = 0
      · subst h0
        refine wp_region_noPanic ?_
        refine wp_region_held_drew (S := (TailS w ⟨k, f, a, b, c, d, e, g, h, i, [], [], l, noB⟩ (.slice none 0 0) (.slice none 0 0) (.slice A l.length cap) s2 false)) (by kernel_rfl) ?_ (fun hHeld => ?_)
        · exact HT.out.drew
        clear HT
        refine k7 0 _ (y := yieldsIf_load_mid (by rfl) 52 (.tmp 8) rfl _ 0 (by rfl) _ _ (fun W h => h.range) Tryz.underlying52 rfl HCS.out) (h := ?_)
        try simp only [Act.put, p9a, p9z, p9s]
        refine k9 1 ?_ (y := ?_) (h := ?_)
        rotate_left 1
        · (intro w' hSw; have hq := hSw.wrong; clear hSw; go_simp; try with_reducible rfl)
        try simp only [Act.put, p9a, p9z, p9s]
        refine k9 2 ?_ (y := ?_) (h := ?_)
        rotate_left 1
        · (intro w' hSw; have hq := hSw.wrong; clear hSw; go_simp; try with_reducible rfl)
        try simp only [Act.put, p9a, p9z, p9s]
        refine k9 3 ?_ (y := ?_) (h := ?_)
        rotate_left 1
        · (intro w' hSw; have hq := hSw.wrong; clear hSw; go_simp; try with_reducible rfl)
        try simp only [Act.put, p9a, p9z, p9s]
        refine k9 4 ?_ (y := ?_) (h := ?_)
        rotate_left 1
        · (intro w' hSw; have hq := hSw.wrong; clear hSw; go_simp; try with_reducible rfl)
        try simp only [Act.put, p9a, p9z, p9s]
        refine k9 5 ?_ (y := ?_) (h := ?_)
        rotate_left 1
        · (intro w' hSw; have hq := hSw.wrong; clear hSw; go_simp; try with_reducible rfl)
        try simp only [Act.put, p9a, p9z, p9s]
        refine k9 6 ?_ (y := ?_) (h := ?_)
        rotate_left 1
        · (intro w' hSw; have hq := hSw.wrong; clear hSw; go_simp; try with_reducible rfl)
        try simp only [Act.put, p9a, p9z, p9s]
        refine k9 7 ?_ (y := ?_) (h := ?_)
        rotate_left 1
        · (intro w' hSw; have hq := hSw.wrong; clear hSw; go_simp; try with_reducible rfl)
        try simp only [Act.put, p9a, p9z, p9s]
        refine k9 8 ?_ (y := ?_) (h := ?_)
        rotate_left 1
        · (intro w' hSw; have hq := hSw.wrong; clear hSw; go_simp; try with_reducible rfl)
        try simp only [Act.put, p9a, p9z, p9s]
        refine k9 9 ?_ (y := ?_) (h := ?_)
        rotate_left 1
        · (intro w' hSw; have hq := hSw.wrong; clear hSw; go_simp; try with_reducible rfl)
        try simp only [Act.put, p9a, p9z, p9s]
        refine k9 10 ?_ (y := ?_) (h := ?_)
        rotate_left 1
        · (intro w' hSw; have hq := hSw.wrong; clear hSw; go_simp; try with_reducible rfl)
        try simp only [Act.put, p9a, p9z, p9s]
        refine k7 11 _ (y := yieldsIf_load_mid (by rfl) 52 (.tmp 8) rfl _ 0 (by rfl) _ _ (fun W h => h.range) Tryz.underlying52 rfl HCS.out) (h := ?_)
        try simp only [Act.put, p9a, p9z, p9s]
        refine wpAnyH_ready (rs := [12]) (by kernel_rfl) (by simp) ?_
        refine AllReadyH.cons (by simp only [q9a, q9s, q9z]; rfl) (fun K hK => ?_) AllReadyH.nil
        go_simp
        refine (HFM.out _ hHeld.parts).mono ?_
        rintro _ w6 ⟨rfl, hb6⟩
        have hS6 := hHeld.later hb6
        go_wp2_with fail
        refine hK.out _ _ ?_ (fun hHeld => ?_)
        · exact hS6
        clear hK K hS6 hb6
        try simp only [Act.put, p9a, p9z, p9s]
        refine k9 13 ?_ (y := ?_) (h := ?_)
        rotate_left 1
        · (intro w' hSw; have hq := hSw.wrong; clear hSw; go_simp; try with_reducible rfl)
        try simp only [Act.put, p9a, p9z, p9s]
        refine wpAnyH_ready (rs := [14]) (by kernel_rfl) (by simp) ?_
        refine AllReadyH.cons (by simp only [q9a, q9s, q9z]; rfl) (fun K hK => ?_) AllReadyH.nil
        have hset := hHeld.set #[.int .i64 k, .int .i64 f, .int .u32 (a : Int), .int .u32 (b : Int), .int .u32 (c : Int), .int .u32 (d : Int), .int .u16 (e : Int), .int .u16 (g : Int), .int .u16 (h : Int), .int .u16 (i : Int), .slice none 0 0, .slice none 0 0, .slice A l.length cap, .string noB] rfl
        rw [if_pos (by rfl)]
        obtain ⟨old, ho1, ho2⟩ := hHeld.back
        refine wp_store_row 52 (.tmp 6) (.tmp 51) rfl w.heap.size #[.int .i64 k, .int .i64 f, .int .u32 (a : Int), .int .u32 (b : Int), .int .u32 (c : Int), .int .u32 (d : Int), .int .u16 (e : Int), .int .u16 (g : Int), .int .u16 (h : Int), .int .u16 (i : Int), .slice none 0 0, .slice none 0 0, .slice A l.length cap, .string noB] (by rfl) (by rfl) 52 old ho2 HCS.out (by rw [ho1]; rfl) hHeld.parts.one ?_
        refine hK.out _ _ ?_ (fun hHeld => ?_)
        · exact hset.1
        clear hK K
        try simp only [Act.put, p9a, p9z, p9s]
        refine k9 15 ?_ (y := ?_) (h := ?_)
        rotate_left 1
        · (intro w' hSw; have hq := hSw.wrong; clear hSw; go_simp; try with_reducible rfl)
        try simp only [Act.put, p9a, p9z, p9s]
        refine wpAnyH_done (by kernel_rfl) ?_ _
        refine NoPanic.normal ?_
        have HE := Lib.hid hset
        clear hHeld hset ho1 ho2
        go_wp2_with fail
        exact bodyPost_ret (v := .tuple #[.agg #[.int .i64 k, .int .i64 f, .int .u32 (a : Int), .int .u32 (b : Int), .int .u32 (c : Int), .int .u32 (d : Int), .int .u16 (e : Int), .int .u16 (g : Int), .int .u16 (h : Int), .int .u16 (i : Int), .slice none 0 0, .slice none 0 0, .slice A l.length cap, .string noB], .bool fb]) (results_row1 Tryz.results91 _ _ w.heap.size _ #[.int .i64 k, .int .i64 f, .int .u32 (a : Int), .int .u32 (b : Int), .int .u32 (c : Int), .int .u32 (d : Int), .int .u16 (e : Int), .int .u16 (g : Int), .int .u16 (h : Int), .int .u16 (i : Int), .slice none 0 0, .slice none 0 0, .slice A l.length cap, .string noB] _ _ (by rfl) HE.out.2 Tryz.underlying52 rfl HCS.out) rfl ⟨_, _, _, rfl, HE.out.1.parts, fun j hj => Nat.le_of_lt (HE.out.1.away j hj), HE.out.1.below⟩
      · have HD := Lib.hid (decide_eq_false h0)
        have ke : ((er : Int) == 0) = false := beq_eq_false_iff_ne.2 (by omega)
        clear h0
        refine wp_region_noPanic ?_
        refine wp_region_held_drew (S := (TailS w ⟨k, f, a, b, c, d, e, g, h, i, [], [], l, noB⟩ (.slice none 0 0) (.slice none 0 0) (.slice A l.length cap) s2 false)) (by kernel_rfl) ?_ (fun hHeld => ?_)
        · exact HT.out.drew
        clear HT
        refine k7 0 _ (y := yieldsIf_load_mid (by rfl) 52 (.tmp 8) rfl _ 0 (by rfl) _ _ (fun W h => h.range) Tryz.underlying52 rfl HCS.out) (h := ?_)
        try simp only [Act.put, p9a, p9z, p9s]
        refine k9 1 ?_ (y := ?_) (h := ?_)
        rotate_left 1
        · (intro w' hSw; have hq := hSw.wrong; clear hSw; go_simp; try with_reducible rfl)
        try simp only [Act.put, p9a, p9z, p9s]
        refine k9 2 ?_ (y := ?_) (h := ?_)
        rotate_left 1
        · (intro w' hSw; have hq := hSw.wrong; clear hSw; go_simp; try with_reducible rfl)
        try simp only [Act.put, p9a, p9z, p9s]
        refine k9 3 ?_ (y := ?_) (h := ?_)
        rotate_left 1
        · (intro w' hSw; have hq := hSw.wrong; clear hSw; go_simp; try with_reducible rfl)
        try simp only [Act.put, p9a, p9z, p9s]
        refine k9 4 ?_ (y := ?_) (h := ?_)
        rotate_left 1
        · (intro w' hSw; have hq := hSw.wrong; clear hSw; go_simp; try with_reducible rfl)
        try simp only [Act.put, p9a, p9z, p9s]
        refine k9 5 ?_ (y := ?_) (h := ?_)
        rotate_left 1
        · (intro w' hSw; have hq := hSw.wrong; clear hSw; go_simp; try with_reducible rfl)
        try simp only [Act.put, p9a, p9z, p9s]
        refine k9 6 ?_ (y := ?_) (h := ?_)
        rotate_left 1
        · (intro w' hSw; have hq := hSw.wrong; clear hSw; go_simp; try with_reducible rfl)
        try simp only [Act.put, p9a, p9z, p9s]
        refine k9 7 ?_ (y := ?_) (h := ?_)
        rotate_left 1
        · (intro w' hSw; have hq := hSw.wrong; clear hSw; go_simp; try with_reducible rfl)
        try simp only [Act.put, p9a, p9z, p9s]
        refine k9 8 ?_ (y := ?_) (h := ?_)
        rotate_left 1
        · (intro w' hSw; have hq := hSw.wrong; clear hSw; go_simp; try with_reducible rfl)
        try simp only [Act.put, p9a, p9z, p9s]
        refine k9 9 ?_ (y := ?_) (h := ?_)
        rotate_left 1
        · (intro w' hSw; have hq := hSw.wrong; clear hSw; go_simp; try with_reducible rfl)
        try simp only [Act.put, p9a, p9z, p9s]
        refine k9 10 ?_ (y := ?_) (h := ?_)
        rotate_left 1
        · (intro w' hSw; have hq := hSw.wrong; clear hSw; go_simp; try with_reducible rfl)
        try simp only [Act.put, p9a, p9z, p9s]
        refine k8 11 (h := ?_)
        try simp only [Act.put, p9a, p9z, p9s]
        refine k8 12 (h := ?_)
        try simp only [Act.put, p9a, p9z, p9s]
        refine k9 13 ?_ (y := ?_) (h := ?_)
        rotate_left 1
        · (intro w' hSw; have hq := hSw.wrong; clear hSw; go_simp; try with_reducible rfl)
        try simp only [Act.put, p9a, p9z, p9s]
        refine wpAnyH_ready (rs := [14]) (by kernel_rfl) (by simp) ?_
        refine AllReadyH.cons (by simp only [q9a, q9s, q9z]; rfl) (fun K hK => ?_) AllReadyH.nil
        have hset := hHeld.set #[.int .i64 k, .int .i64 f, .int .u32 (a : Int), .int .u32 (b : Int), .int .u32 (c : Int), .int .u32 (d : Int), .int .u16 (e : Int), .int .u16 (g : Int), .int .u16 (h : Int), .int .u16 (i : Int), .slice none 0 0, .slice none 0 0, .slice A l.length cap, .string noB] rfl
        rw [if_pos (by rfl)]
        obtain ⟨old, ho1, ho2⟩ := hHeld.back
        refine wp_store_row 52 (.tmp 6) (.tmp 51) rfl w.heap.size #[.int .i64 k, .int .i64 f, .int .u32 (a : Int), .int .u32 (b : Int), .int .u32 (c : Int), .int .u32 (d : Int), .int .u16 (e : Int), .int .u16 (g : Int), .int .u16 (h : Int), .int .u16 (i : Int), .slice none 0 0, .slice none 0 0, .slice A l.length cap, .string noB] (by rfl) (by rfl) 52 old ho2 HCS.out (by rw [ho1]; rfl) hHeld.parts.one ?_
        refine hK.out _ _ ?_ (fun hHeld => ?_)
        · exact hset.1
        clear hK K
        try simp only [Act.put, p9a, p9z, p9s]
        refine k9 15 ?_ (y := ?_) (h := ?_)
        rotate_left 1
        · (intro w' hSw; have hq := hSw.wrong; clear hSw; go_simp; try with_reducible rfl)
        try simp only [Act.put, p9a, p9z, p9s]
        refine wpAnyH_done (by kernel_rfl) ?_ _
        refine NoPanic.normal ?_
        have HE := Lib.hid hset
        clear hHeld hset ho1 ho2
        go_wp2_with fail
        exact bodyPost_ret (v := .tuple #[.agg #[.int .i64 k, .int .i64 f, .int .u32 (a : Int), .int .u32 (b : Int), .int .u32 (c : Int), .int .u32 (d : Int), .int .u16 (e : Int), .int .u16 (g : Int), .int .u16 (h : Int), .int .u16 (i : Int), .slice none 0 0, .slice none 0 0, .slice A l.length cap, .string noB], .bool false]) (results_row1 Tryz.results91 _ _ w.heap.size _ #[.int .i64 k, .int .i64 f, .int .u32 (a : Int), .int .u32 (b : Int), .int .u32 (c : Int), .int .u32 (d : Int), .int .u16 (e : Int), .int .u16 (g : Int), .int .u16 (h : Int), .int .u16 (i : Int), .slice none 0 0, .slice none 0 0, .slice A l.length cap, .string noB] _ _ (by rfl) HE.out.2 Tryz.underlying52 rfl HCS.out) rfl ⟨_, _, _, by rw [HD.out]; rfl, HE.out.1.parts, fun j hj => Nat.le_of_lt (HE.out.1.away j hj), HE.out.1.below⟩
  | false =>
    unfold formA at HF
    have hit' := of_decide_eq_false hit
    generalize formOf k = FO at HF hit'
    obtain ⟨mf, ⟨ta, tb⟩, ⟨ia, ib⟩, mr⟩ := FO
    dsimp only at HF hit'
    have hfd : ∀ W, (Instr.field 116 (.agg #[.int .i64 mf, .int .i64 ta, .int .i64 tb, .int .i64 ia, .int .i64 ib, .int .i64 mr]) 4).run Tryz.prog W = .ok (.int .i64 ib) W := fun _ => by kernel_rfl
    obtain ⟨s2, rfl⟩ : ∃ s2, s2 = s1 := ⟨_, rfl⟩
    obtain ⟨b2, rfl⟩ : ∃ b2, b2 = b1 := ⟨_, rfl⟩
    have n3 : (k == 3) = false := beq_eq_false_iff_ne.2 t3
    rw [parseV_text HV.out t3 hit]
    dsimp only
    have HFM := Lib.hid (fun W hp => formed_any ⟨k, f, a, b, c, d, e, g, h, i, [], [], [], s2⟩ (HWF.out [] [] [] s2 (by simp) (by simp)) (by simp) (by simp) (by simp) (by show s2.size ≤ _; omega) (.slice none 0 0) (.slice none 0 0) (.slice none 0 0) W hp)
    generalize formedB ⟨k, f, a, b, c, d, e, g, h, i, [], [], [], s2⟩ = fb at *
    clear HV HWF HGD HRN hit
    dsimp only [cellsC] at HFM
    go_enter Tryz.func91, Tryz.ntmps91
    go_wp2_with (first
    | (go_at_call 113; ((with_reducible refine (setter_32 _ _).mono ?_); rintro e w1 ⟨rfl, rfl⟩))
    | (go_at_call 114; ((with_reducible refine (setter_16 _ _).mono ?_); rintro e w1 ⟨rfl, rfl⟩)))
    refine HN.out.mono ?_
    rintro _ w1 ⟨rfl, hb, hr, ht⟩
    have HXo := Lib.hid ((ht.block w.heap.size (by omega)).trans HX0.out)
    have HXb := Lib.hid hb
    have HXr := Lib.hid hr
    replace HB := Lib.hid (HB.out.trans (ht.below (B := w.heap.size) fun j hj => by omega))
    clear hb hr ht HN HX0
    go_wp2_with fail
    refine (HF.out _).mono ?_
    rintro _ w2 ⟨rfl, hb⟩
    replace HXo := Lib.hid ((hb.block _ (Array.getElem?_eq_some_iff.1 HXo.out).1).trans HXo.out)
    replace HXb := Lib.hid ((hb.block _ (Array.getElem?_eq_some_iff.1 HXb.out).1).trans HXb.out)
    replace HXr := Lib.hid ((hb.block _ (Array.getElem?_eq_some_iff.1 HXr.out).1).trans HXr.out)
    replace HB := Lib.hid (HB.out.trans (hb.mono HB.out.size))
    clear hb
    have r0 : w2.cell? ⟨w.heap.size + 1, 0, none⟩ = some (.string s2) := by rw [cell_in HXr.out]; rfl
    go_wp2_with fail
    refine (clone_any s2 _ (by omega)).mono ?_
    rintro _ w5 ⟨rfl, hb⟩
    have hbp := hb
    replace HXo := Lib.hid ((hb.block _ (Array.getElem?_eq_some_iff.1 HXo.out).1).trans HXo.out)
    replace HXb := Lib.hid ((hb.block _ (Array.getElem?_eq_some_iff.1 HXb.out).1).trans HXb.out)
    replace HXr := Lib.hid ((hb.block _ (Array.getElem?_eq_some_iff.1 HXr.out).1).trans HXr.out)
    replace HB := Lib.hid (HB.out.trans (hb.mono HB.out.size))
    clear hb
    clear r0
    have e13 : w5.cell? ⟨w.heap.size + 2, 13, none⟩ = some (.string noB) := by rw [cell_in HXb.out]; rfl
    have f13 : w5.frozen? ⟨w.heap.size + 2, 13, none⟩ = false := frozen_of_row HXb.out 13
    have HXb4 := Lib.hid (show (w5.setCell ⟨w.heap.size + 2, 13, none⟩ (.string s2)).heap[w.heap.size + 2]? = some (.cells #[.int .i64 k, .int .i64 f, .int .u32 (a : Int), .int .u32 (b : Int), .int .u32 (c : Int), .int .u32 (d : Int), .int .u16 (e : Int), .int .u16 (g : Int), .int .u16 (h : Int), .int .u16 (i : Int), .slice none 0 0, .slice none 0 0, .slice none 0 0, .string s2] 52 (0, 0)) from by have := row_set HXb.out 13 (.string s2); simpa using this)
    have HXo4 := Lib.hid ((Below.heap_setCell w5 ⟨w.heap.size + 2, 13, none⟩ (.string s2) (w.heap.size) (by simp)).trans HXo.out)
    have HXr4 := Lib.hid ((Below.heap_setCell w5 ⟨w.heap.size + 2, 13, none⟩ (.string s2) (w.heap.size + 1) (by simp)).trans HXr.out)
    have HB4 := Lib.hid (HB.out.setCell (p := ⟨w.heap.size + 2, 13, none⟩) (by simp) (.string s2))
    clear HXb HXo HXr HB
    have HT := Lib.hid (show TailS w ⟨k, f, a, b, c, d, e, g, h, i, [], [], [], s2⟩ (.slice none 0 0) (.slice none 0 0) (.slice none 0 0) s2 b2 (w5.setCell ⟨w.heap.size + 2, 13, none⟩ (.string s2)) from ⟨HXb4.out, HXr4.out, ⟨_, by rfl, HXo4.out⟩, ⟨RowG.nil _, RowN.nil _, RowI.nil _⟩, HB4.out, by simp [Value.ownBlock]⟩)
    clear HXb4 HXr4 HXo4 HB4 hbp
    go_wp2_with fail
    cases b2 with
    | true =>
      refine wp_region_noPanic ?_
      refine wp_region_held_drew (S := (TailS w ⟨k, f, a, b, c, d, e, g, h, i, [], [], [], s2⟩ (.slice none 0 0) (.slice none 0 0) (.slice none 0 0) s2 true)) (by kernel_rfl) ?_ (fun hHeld => ?_)
      · exact HT.out.drew
      clear HT
      refine k7 0 _ (y := yieldsIf_load_mid (by rfl) 52 (.tmp 8) rfl _ 0 (by rfl) _ _ (fun W h => h.range) Tryz.underlying52 rfl HCS.out) (h := ?_)
      try simp only [Act.put, p9a, p9z, p9s]
      refine k9 1 ?_ (y := ?_) (h := ?_)
      rotate_left 1
      · (intro w' hSw; have hq := hSw.wrong; clear hSw; go_simp; try with_reducible rfl)
      try simp only [Act.put, p9a, p9z, p9s]
      refine k9 2 ?_ (y := ?_) (h := ?_)
      rotate_left 1
      · (intro w' hSw; have hq := hSw.wrong; clear hSw; go_simp; try with_reducible rfl)
      try simp only [Act.put, p9a, p9z, p9s]
      refine k9 3 ?_ (y := ?_) (h := ?_)
      rotate_left 1
      · (intro w' hSw; have hq := hSw.wrong; clear hSw; go_simp; try with_reducible rfl)
      try simp only [Act.put, p9a, p9z, p9s]
      refine k9 4 ?_ (y := ?_) (h := ?_)
      rotate_left 1
      · (intro w' hSw; have hq := hSw.wrong; clear hSw; go_simp; try with_reducible rfl)
      try simp only [Act.put, p9a, p9z, p9s]
      refine k9 5 ?_ (y := ?_) (h := ?_)
      rotate_left 1
      · (intro w' hSw; have hq := hSw.wrong; clear hSw; go_simp; try with_reducible rfl)
      try simp only [Act.put, p9a, p9z, p9s]
      refine k9 6 ?_ (y := ?_) (h := ?_)
      rotate_left 1
      · (intro w' hSw; have hq := hSw.wrong; clear hSw; go_simp; try with_reducible rfl)
      try simp only [Act.put, p9a, p9z, p9s]
      refine k8 7 (h := ?_)
      try simp only [Act.put, p9a, p9z, p9s]
      refine k8 8 (h := ?_)
      try simp only [Act.put, p9a, p9z, p9s]
      refine k9 9 ?_ (y := ?_) (h := ?_)
      rotate_left 1
      · (intro w' hSw; have hq := hSw.wrong; clear hSw; go_simp; try with_reducible rfl)
      try simp only [Act.put, p9a, p9z, p9s]
      refine k9 10 ?_ (y := ?_) (h := ?_)
      rotate_left 1
      · (intro w' hSw; have hq := hSw.wrong; clear hSw; go_simp; try with_reducible rfl)
      try simp only [Act.put, p9a, p9z, p9s]
      refine k8 11 (h := ?_)
      try simp only [Act.put, p9a, p9z, p9s]
      refine k8 12 (h := ?_)
      try simp only [Act.put, p9a, p9z, p9s]
      refine k9 13 ?_ (y := ?_) (h := ?_)
      rotate_left 1
      · (intro w' hSw; have hq := hSw.wrong; clear hSw; go_simp; try with_reducible rfl)
      try simp only [Act.put, p9a, p9z, p9s]
      refine wpAnyH_ready (rs := [14]) (by kernel_rfl) (by simp) ?_
      refine AllReadyH.cons (by simp only [q9a, q9s, q9z]; rfl) (fun K hK => ?_) AllReadyH.nil
      have hset := hHeld.set #[.int .i64 k, .int .i64 f, .int .u32 (a : Int), .int .u32 (b : Int), .int .u32 (c : Int), .int .u32 (d : Int), .int .u16 (e : Int), .int .u16 (g : Int), .int .u16 (h : Int), .int .u16 (i : Int), .slice none 0 0, .slice none 0 0, .slice none 0 0, .string s2] rfl
      rw [if_pos (by rfl)]
      obtain ⟨old, ho1, ho2⟩ := hHeld.back
      refine wp_store_row 52 (.tmp 6) (.tmp 51) rfl w.heap.size #[.int .i64 k, .int .i64 f, .int .u32 (a : Int), .int .u32 (b : Int), .int .u32 (c : Int), .int .u32 (d : Int), .int .u16 (e : Int), .int .u16 (g : Int), .int .u16 (h : Int), .int .u16 (i : Int), .slice none 0 0, .slice none 0 0, .slice none 0 0, .string s2] (by rfl) (by rfl) 52 old ho2 HCS.out (by rw [ho1]; rfl) hHeld.parts.one ?_
      refine hK.out _ _ ?_ (fun hHeld => ?_)
      · exact hset.1
      clear hK K
      try simp only [Act.put, p9a, p9z, p9s]
      refine k9 15 ?_ (y := ?_) (h := ?_)
      rotate_left 1
      · (intro w' hSw; have hq := hSw.wrong; clear hSw; go_simp; try with_reducible rfl)
      try simp only [Act.put, p9a, p9z, p9s]
      refine wpAnyH_done (by kernel_rfl) ?_ _
      refine NoPanic.normal ?_
      have HE := Lib.hid hset
      clear hHeld hset ho1 ho2
      go_wp2_with fail
      exact bodyPost_ret (v := .tuple #[.agg #[.int .i64 k, .int .i64 f, .int .u32 (a : Int), .int .u32 (b : Int), .int .u32 (c : Int), .int .u32 (d : Int), .int .u16 (e : Int), .int .u16 (g : Int), .int .u16 (h : Int), .int .u16 (i : Int), .slice none 0 0, .slice none 0 0, .slice none 0 0, .string s2], .bool false]) (results_row1 Tryz.results91 _ _ w.heap.size _ #[.int .i64 k, .int .i64 f, .int .u32 (a : Int), .int .u32 (b : Int), .int .u32 (c : Int), .int .u32 (d : Int), .int .u16 (e : Int), .int .u16 (g : Int), .int .u16 (h : Int), .int .u16 (i : Int), .slice none 0 0, .slice none 0 0, .slice none 0 0, .string s2] _ _ (by rfl) HE.out.2 Tryz.underlying52 rfl HCS.out) rfl ⟨_, _, _, rfl, HE.out.1.parts, fun j hj => Nat.le_of_lt (HE.out.1.away j hj), HE.out.1.below⟩
    | false =>
      refine wp_region_noPanic ?_
      refine wp_region_held_drew (S := (TailS w ⟨k, f, a, b, c, d, e, g, h, i, [], [], [], s2⟩ (.slice none 0 0) (.slice none 0 0) (.slice none 0 0) s2 false)) (by kernel_rfl) ?_ (fun hHeld => ?_)
      · exact HT.out.drew
      clear HT
      refine k7 0 _ (y := yieldsIf_load_mid (by rfl) 52 (.tmp 8) rfl _ 0 (by rfl) _ _ (fun W h => h.range) Tryz.underlying52 rfl HCS.out) (h := ?_)
      try simp only [Act.put, p9a, p9z, p9s]
      refine k9 1 ?_ (y := ?_) (h := ?_)
      rotate_left 1
      · (intro w' hSw; have hq := hSw.wrong; clear hSw; go_simp; try with_reducible rfl)
      try simp only [Act.put, p9a, p9z, p9s]
      refine k9 2 ?_ (y := ?_) (h := ?_)
      rotate_left 1
      · (intro w' hSw; have hq := hSw.wrong; clear hSw; go_simp; try with_reducible rfl)
      try simp only [Act.put, p9a, p9z, p9s]
      refine k9 3 ?_ (y := ?_) (h := ?_)
      rotate_left 1
      · (intro w' hSw; have hq := hSw.wrong; clear hSw; go_simp; try with_reducible rfl)
      try simp only [Act.put, p9a, p9z, p9s]
      refine k9 4 ?_ (y := ?_) (h := ?_)
      rotate_left 1
      · (intro w' hSw; have hq := hSw.wrong; clear hSw; go_simp; try with_reducible rfl)
      try simp only [Act.put, p9a, p9z, p9s]
      refine k9 5 ?_ (y := ?_) (h := ?_)
      rotate_left 1
      · (intro w' hSw; have hq := hSw.wrong; clear hSw; go_simp; try with_reducible rfl)
      try simp only [Act.put, p9a, p9z, p9s]
      refine k9 6 ?_ (y := ?_) (h := ?_)
      rotate_left 1
      · (intro w' hSw; have hq := hSw.wrong; clear hSw; go_simp; try with_reducible rfl)
      try simp only [Act.put, p9a, p9z, p9s]
      refine k9 7 ?_ (y := ?_) (h := ?_)
      rotate_left 1
      · (intro w' hSw; have hq := hSw.wrong; clear hSw; go_simp; try with_reducible rfl)
      try simp only [Act.put, p9a, p9z, p9s]
      refine k9 8 ?_ (y := ?_) (h := ?_)
      rotate_left 1
      · (intro w' hSw; have hq := hSw.wrong; clear hSw; go_simp; try with_reducible rfl)
      try simp only [Act.put, p9a, p9z, p9s]
      refine k9 9 ?_ (y := ?_) (h := ?_)
      rotate_left 1
      · (intro w' hSw; have hq := hSw.wrong; clear hSw; go_simp; try with_reducible rfl)
      try simp only [Act.put, p9a, p9z, p9s]
      refine k9 10 ?_ (y := ?_) (h := ?_)
      rotate_left 1
      · (intro w' hSw; have hq := hSw.wrong; clear hSw; go_simp; try with_reducible rfl)
      try simp only [Act.put, p9a, p9z, p9s]
      refine k7 11 _ (y := yieldsIf_load_mid (by rfl) 52 (.tmp 8) rfl _ 0 (by rfl) _ _ (fun W h => h.range) Tryz.underlying52 rfl HCS.out) (h := ?_)
      try simp only [Act.put, p9a, p9z, p9s]
      refine wpAnyH_ready (rs := [12]) (by kernel_rfl) (by simp) ?_
      refine AllReadyH.cons (by simp only [q9a, q9s, q9z]; rfl) (fun K hK => ?_) AllReadyH.nil
      go_simp
      refine (HFM.out _ hHeld.parts).mono ?_
      rintro _ w6 ⟨rfl, hb6⟩
      have hS6 := hHeld.later hb6
      go_wp2_with fail
      refine hK.out _ _ ?_ (fun hHeld => ?_)
      · exact hS6
      clear hK K hS6 hb6
      try simp only [Act.put, p9a, p9z, p9s]
      refine k9 13 ?_ (y := ?_) (h := ?_)
      rotate_left 1
      · (intro w' hSw; have hq := hSw.wrong; clear hSw; go_simp; try with_reducible rfl)
      try simp only [Act.put, p9a, p9z, p9s]
      refine wpAnyH_ready (rs := [14]) (by kernel_rfl) (by simp) ?_
      refine AllReadyH.cons (by simp only [q9a, q9s, q9z]; rfl) (fun K hK => ?_) AllReadyH.nil
      have hset := hHeld.set #[.int .i64 k, .int .i64 f, .int .u32 (a : Int), .int .u32 (b : Int), .int .u32 (c : Int), .int .u32 (d : Int), .int .u16 (e : Int), .int .u16 (g : Int), .int .u16 (h : Int), .int .u16 (i : Int), .slice none 0 0, .slice none 0 0, .slice none 0 0, .string s2] rfl
      rw [if_pos (by rfl)]
      obtain ⟨old, ho1, ho2⟩ := hHeld.back
      refine wp_store_row 52 (.tmp 6) (.tmp 51) rfl w.heap.size #[.int .i64 k, .int .i64 f, .int .u32 (a : Int), .int .u32 (b : Int), .int .u32 (c : Int), .int .u32 (d : Int), .int .u16 (e : Int), .int .u16 (g : Int), .int .u16 (h : Int), .int .u16 (i : Int), .slice none 0 0, .slice none 0 0, .slice none 0 0, .string s2] (by rfl) (by rfl) 52 old ho2 HCS.out (by rw [ho1]; rfl) hHeld.parts.one ?_
      refine hK.out _ _ ?_ (fun hHeld => ?_)
      · exact hset.1
      clear hK K
      try simp only [Act.put, p9a, p9z, p9s]
      refine k9 15 ?_ (y := ?_) (h := ?_)
      rotate_left 1
      · (intro w' hSw; have hq := hSw.wrong; clear hSw; go_simp; try with_reducible rfl)
      try simp only [Act.put, p9a, p9z, p9s]
      refine wpAnyH_done (by kernel_rfl) ?_ _
      refine NoPanic.normal ?_
      have HE := Lib.hid hset
      clear hHeld hset ho1 ho2
      go_wp2_with fail
      exact bodyPost_ret (v := .tuple #[.agg #[.int .i64 k, .int .i64 f, .int .u32 (a : Int), .int .u32 (b : Int), .int .u32 (c : Int), .int .u32 (d : Int), .int .u16 (e : Int), .int .u16 (g : Int), .int .u16 (h : Int), .int .u16 (i : Int), .slice none 0 0, .slice none 0 0, .slice none 0 0, .string s2], .bool fb]) (results_row1 Tryz.results91 _ _ w.heap.size _ #[.int .i64 k, .int .i64 f, .int .u32 (a : Int), .int .u32 (b : Int), .int .u32 (c : Int), .int .u32 (d : Int), .int .u16 (e : Int), .int .u16 (g : Int), .int .u16 (h : Int), .int .u16 (i : Int), .slice none 0 0, .slice none 0 0, .slice none 0 0, .string s2] _ _ (by rfl) HE.out.2 Tryz.underlying52 rfl HCS.out) rfl ⟨_, _, _, rfl, HE.out.1.parts, fun j hj => Nat.le_of_lt (HE.out.1.away j hj), HE.out.1.below⟩
end Go.Proofs.YtlbaockipeojhaaGreat
end
section
namespace Go.Proofs.YtlbaockipeojhaaGreat
open Go.RowKit
set_option linter.unusedVariables false
set_option linter.unusedSimpArgs false
set_option maxRecDepth 100000

theorem rd8_at (s : ByteArray) (a : Nat) (q : Bool) (h : a + 1 ≤ s.size) : rd8 (cutB s a) q = (byteAt s.data.toList a, cutB s (a + 1), q) := by
  unfold rd8
  rw [if_neg (by rw [cut_size]; omega), cut_cut]
  have : (cutB s a).data.toList = s.data.toList.drop a := rfl
  rw [this, byteAt_behind, Nat.add_zero]
theorem head_size (s : ByteArray) (h : 4 ≤ s.size) : (s.extract 0 4).size = 4 := by
  rw [size_list, cut_list, List.drop_zero, List.length_take, ← size_list]
  omega
theorem byteAt_take {L : List UInt8} {i n : Nat} (h : i < n) : byteAt (L.take n) i = byteAt L i := by
  unfold byteAt
  rw [List.getD_eq_getElem?_getD, List.getD_eq_getElem?_getD, List.getElem?_take, if_pos h]
theorem head_bytes (s : ByteArray) : byteAt (s.extract 0 4).data.toList 0 = byteAt s.data.toList 0 ∧ byteAt (s.extract 0 4).data.toList 1 = byteAt s.data.toList 1 ∧ num (s.extract 0 4).data.toList 2 = lenC s := by
  rw [cut_list, List.drop_zero]
  refine ⟨byteAt_take (by omega), byteAt_take (by omega), ?_⟩
  unfold lenC num
  rw [byteAt_take (by omega), byteAt_take (by omega)]
theorem val_is (s : ByteArray) : s.extract 4 (lenC s) = valC s := by
  apply bytes_ext
  rw [cut_list]
  rfl
theorem tail_is (s : ByteArray) (h : lenC s ≤ s.size) : (s.extract (lenC s) (sizeC s)).data.toList = tailC s := by
  rw [cut_list]
  unfold tailC sizeC
  rw [List.take_eq_take_iff, List.length_drop, ← size_list]
  omega
theorem prefix_noughts (l : List UInt8) (h : l.length ≤ 3) : Lib.hasPrefix (⟨#[0, 0, 0]⟩ : ByteArray).data.toList l = decide (l = zerosL l.length) := by
  show l.isPrefixOf [0, 0, 0] = _
  match l, h with
  | [], _ => rfl
  | [a], _ => simp [zerosL, List.isPrefixOf] <;> rfl
  | [a, b], _ => simp [zerosL, List.isPrefixOf] <;> rfl
  | [a, b, c], _ => simp [zerosL, List.isPrefixOf, List.replicate_succ] <;> rfl
theorem tailC_len (s : ByteArray) : (tailC s).length ≤ 3 := by
  unfold tailC
  rw [List.length_take]
  have := padN_lt (lenC s)
  omega
/-- A chunk is handed back, how many bytes it has, and which error is told; where it lies. -/
def ReadQ (c : Ck) (n e : Nat) (w : World) (en : Ending) (w' : World) : Prop :=
  ∃ g d it, en = .returned (.tuple #[.agg (cellsC c g d it), .int .i64 (n : Int), .int .i64 (e : Int)]) ∧ Parts w' c g d it ∧ (∀ j, (g.ownBlock = some j ∨ d.ownBlock = some j ∨ it.ownBlock = some j) → w.heap.size ≤ j) ∧ Below w.heap.size w w'
set_option maxHeartbeats 8000000 in
theorem ckparse_any (s : ByteArray) (hs : s.size ≤ 1000000) (w : World) :
    Calls Tryz.prog 59 #[.string s] w (ReadQ (parseC s).1 (parseC s).2.1 (parseC s).2.2 w) := by
  have HCS := Lib.hid ckSize
  have HONE : Hid ((#[.int .i64 0, .int .i64 0, .int .u32 0, .int .u32 0, .int .u32 0, .int .u32 0, .int .u16 0, .int .u16 0, .int .u16 0, .int .u16 0, .slice none 0 0, .slice none 0 0, .slice none 0 0, .string ⟨#[]⟩] : Array Value).all (·.oneCell') = true) := Lib.hid (by kernel_rfl)
  by_cases h1 : s.size < 4
  · have e : parseC s = (zeroC 0 0, 0, 3) := by unfold parseC; rw [if_pos h1]
    rw [e]
    dsimp only
    have k1 : (s.size : Int) < 4 := by omega
    clear e h1
    go_enter Tryz.func59, Tryz.ntmps59
    go_wp2_with fail
    exact bodyPost_ret (v := .tuple #[.agg #[.int .i64 0, .int .i64 0, .int .u32 0, .int .u32 0, .int .u32 0, .int .u32 0, .int .u16 0, .int .u16 0, .int .u16 0, .int .u16 0, .slice none 0 0, .slice none 0 0, .slice none 0 0, .string ⟨#[]⟩], .int .i64 0, .int .i64 3]) (results_row2 Tryz.results59 _ _ w.heap.size _ #[.int .i64 0, .int .i64 0, .int .u32 0, .int .u32 0, .int .u32 0, .int .u32 0, .int .u16 0, .int .u16 0, .int .u16 0, .int .u16 0, .slice none 0 0, .slice none 0 0, .slice none 0 0, .string ⟨#[]⟩] _ _ (by rfl) (heap_alloc_new w _) Tryz.underlying52 rfl HCS.out) rfl ⟨_, _, _, rfl, Parts.zero _ _ _, by simp [Value.ownBlock], (Below.refl _ _).alloc (Nat.le_refl _) _⟩
  have k1 : (4 : Int) ≤ (s.size : Int) := by omega
  obtain ⟨hb0, hb1, hb2⟩ := head_bytes s
  have hh4 := head_size s (by omega)
  have HVI := Lib.hid (val_is s)
  have HTI := Lib.hid (tail_is s)
  have HTL := Lib.hid (tailC_len s)
  have HSC := Lib.hid (show sizeC s = min (lenC s + padN (lenC s)) s.size from rfl)
  have HV := Lib.hid (show parseC s = if s.size < 4 then (zeroC 0 0, 0, 3) else if s.size < lenC s then (zeroC 0 0, 0, 3) else if lenC s < 4 then (zeroC 0 0, 0, 2) else if 1400 < lenC s then (zeroC 0 0, 0, 4)
    else if (parseV (byteAt s.data.toList 0) (byteAt s.data.toList 1) (valC s)).2 = true ∧ tailC s = zerosL (tailC s).length then ((parseV (byteAt s.data.toList 0) (byteAt s.data.toList 1) (valC s)).1, sizeC s, 0) else (zeroC 0 0, 0, 2) from rfl)
  rw [if_neg h1] at HV
  generalize parseC s = PR at *
  have G1 := read_8 (w.heap.size + 1) (s.extract 0 4) (by omega) false ((w.alloc (.cells #[.int .i64 0, .int .i64 0, .int .u32 0, .int .u32 0, .int .u32 0, .int .u32 0, .int .u16 0, .int .u16 0, .int .u16 0, .int .u16 0, .slice none 0 0, .slice none 0 0, .slice none 0 0, .string ⟨#[]⟩] 52)).alloc (.cells #[.string (s.extract 0 4), .bool false] 132)) (by have := heap_alloc_new (w.alloc (.cells #[.int .i64 0, .int .i64 0, .int .u32 0, .int .u32 0, .int .u32 0, .int .u32 0, .int .u16 0, .int .u16 0, .int .u16 0, .int .u16 0, .slice none 0 0, .slice none 0 0, .slice none 0 0, .string ⟨#[]⟩] 52)) (.cells #[.string (s.extract 0 4), .bool false] 132); rwa [World.size_alloc] at this)
  have G2 := fun W h => read_8 (w.heap.size + 1) (cutB (s.extract 0 4) 1) (by rw [cut_size]; omega) false W h
  have G3 := fun W h => read_16 (w.heap.size + 1) (cutB (s.extract 0 4) 2) (by rw [cut_size]; omega) false W h
  have e1 := rd8_at (s.extract 0 4) 0 false (by omega)
  rw [cut_zero, hb0] at e1
  rw [e1] at G1
  rw [rd8_at (s.extract 0 4) 1 false (by omega), hb1] at G2
  rw [rd16_at (s.extract 0 4) 2 false (by omega), hb2] at G3
  have hk0 := byteAt_lt s.data.toList 0
  have hk1 := byteAt_lt s.data.toList 1
  have hn : lenC s < 65536 := num_lt _ _
  have H1 := Lib.hid G1
  have H2 := Lib.hid G2
  have H3 := Lib.hid G3
  clear G1 G2 G3 e1 hb0 hb1 hb2 hh4 h1
  have HXo := Lib.hid ((Below.heap_alloc (w.alloc (.cells #[.int .i64 0, .int .i64 0, .int .u32 0, .int .u32 0, .int .u32 0, .int .u32 0, .int .u16 0, .int .u16 0, .int .u16 0, .int .u16 0, .slice none 0 0, .slice none 0 0, .slice none 0 0, .string ⟨#[]⟩] 52)) (.cells #[.string (s.extract 0 4), .bool false] 132) w.heap.size (by simp)).trans (heap_alloc_new w _))
  have HB := Lib.hid (((Below.refl w.heap.size w).alloc (Nat.le_refl _) (.cells #[.int .i64 0, .int .i64 0, .int .u32 0, .int .u32 0, .int .u32 0, .int .u32 0, .int .u16 0, .int .u16 0, .int .u16 0, .int .u16 0, .slice none 0 0, .slice none 0 0, .slice none 0 0, .string ⟨#[]⟩] 52)).alloc (by simp) (.cells #[.string (s.extract 0 4), .bool false] 132))
  generalize hx4 : s.extract 0 4 = h4 at *
  generalize byteAt s.data.toList 0 = k at *
  generalize byteAt s.data.toList 1 = f at *
  generalize valC s = v at *
  generalize tailC s = tl at *
  generalize sizeC s = sz at *
  generalize lenC s = n at *
  have q0 : (k : Int) < 256 := by omega
  have q1 : (f : Int) < 256 := by omega
  have q3 : (s.size : Int) ≤ 1000000 := by omega
  by_cases h2 : s.size < n
  · rw [if_pos h2] at HV
    rw [HV.out]
    have k2 : (s.size : Int) < (n : Int) := by omega
    clear HV h2 HVI HTI HTL HSC
    go_enter Tryz.func59, Tryz.ntmps59
    go_wp2_with fail
    refine H1.out.mono ?_
    rintro _ w1 ⟨rfl, hr, ht⟩
    replace HXo := Lib.hid ((ht.block w.heap.size (by omega)).trans HXo.out)
    replace HB := Lib.hid (HB.out.trans (ht.below (B := w.heap.size) fun j hj => by omega))
    have HXr := Lib.hid hr
    clear hr ht H1
    go_wp2_with fail
    refine (H2.out _ HXr.out).mono ?_
    rintro _ w2 ⟨rfl, hr, ht⟩
    replace HXo := Lib.hid ((ht.block w.heap.size (by omega)).trans HXo.out)
    replace HB := Lib.hid (HB.out.trans (ht.below (B := w.heap.size) fun j hj => by omega))
    replace HXr := Lib.hid hr
    clear hr ht H2
    go_wp2_with fail
    refine (H3.out _ HXr.out).mono ?_
    rintro _ w3 ⟨rfl, hr, ht⟩
    replace HXo := Lib.hid ((ht.block w.heap.size (by omega)).trans HXo.out)
    replace HB := Lib.hid (HB.out.trans (ht.below (B := w.heap.size) fun j hj => by omega))
    clear hr ht H3 HXr
    go_wp2_with (refine wpList_store_row rfl 52 (.tmp 2) (.tmp 32) rfl w.heap.size #[.int .i64 0, .int .i64 0, .int .u32 0, .int .u32 0, .int .u32 0, .int .u32 0, .int .u16 0, .int .u16 0, .int .u16 0, .int .u16 0, .slice none 0 0, .slice none 0 0, .slice none 0 0, .string ⟨#[]⟩] rfl rfl 52 #[.int .i64 0, .int .i64 0, .int .u32 0, .int .u32 0, .int .u32 0, .int .u32 0, .int .u16 0, .int .u16 0, .int .u16 0, .int .u16 0, .slice none 0 0, .slice none 0 0, .slice none 0 0, .string ⟨#[]⟩] HXo.out HCS.out rfl HONE.out ?_)
    exact bodyPost_ret (v := .tuple #[.agg #[.int .i64 0, .int .i64 0, .int .u32 0, .int .u32 0, .int .u32 0, .int .u32 0, .int .u16 0, .int .u16 0, .int .u16 0, .int .u16 0, .slice none 0 0, .slice none 0 0, .slice none 0 0, .string ⟨#[]⟩], .int .i64 0, .int .i64 3]) (results_row2 Tryz.results59 _ _ w.heap.size _ #[.int .i64 0, .int .i64 0, .int .u32 0, .int .u32 0, .int .u32 0, .int .u32 0, .int .u16 0, .int .u16 0, .int .u16 0, .int .u16 0, .slice none 0 0, .slice none 0 0, .slice none 0 0, .string ⟨#[]⟩] _ _ (by rfl) (setRow_heap _ _ _ #[.int .i64 0, .int .i64 0, .int .u32 0, .int .u32 0, .int .u32 0, .int .u32 0, .int .u16 0, .int .u16 0, .int .u16 0, .int .u16 0, .slice none 0 0, .slice none 0 0, .slice none 0 0, .string ⟨#[]⟩] _ _ HXo.out) Tryz.underlying52 rfl HCS.out) rfl ⟨_, _, _, rfl, Parts.zero _ _ _, by simp [Value.ownBlock], by rw [setRow_self _ _ _ _ _ HXo.out]; exact HB.out⟩
  rw [if_neg h2] at HV
  have k2 : (n : Int) ≤ (s.size : Int) := by omega
  by_cases h3 : n < 4
  · rw [if_pos h3] at HV
    rw [HV.out]
    have k3 : (n : Int) < 4 := by omega
    clear HV h3 HVI HTI HTL HSC h2
    go_enter Tryz.func59, Tryz.ntmps59
    go_wp2_with fail
    refine H1.out.mono ?_
    rintro _ w1 ⟨rfl, hr, ht⟩
    replace HXo := Lib.hid ((ht.block w.heap.size (by omega)).trans HXo.out)
    replace HB := Lib.hid (HB.out.trans (ht.below (B := w.heap.size) fun j hj => by omega))
    have HXr := Lib.hid hr
    clear hr ht H1
    go_wp2_with fail
    refine (H2.out _ HXr.out).mono ?_
    rintro _ w2 ⟨rfl, hr, ht⟩
    replace HXo := Lib.hid ((ht.block w.heap.size (by omega)).trans HXo.out)
    replace HB := Lib.hid (HB.out.trans (ht.below (B := w.heap.size) fun j hj => by omega))
    replace HXr := Lib.hid hr
    clear hr ht H2
    go_wp2_with fail
    refine (H3.out _ HXr.out).mono ?_
    rintro _ w3 ⟨rfl, hr, ht⟩
    replace HXo := Lib.hid ((ht.block w.heap.size (by omega)).trans HXo.out)
    replace HB := Lib.hid (HB.out.trans (ht.below (B := w.heap.size) fun j hj => by omega))
    clear hr ht H3 HXr
    go_wp2_with (refine wpList_store_row rfl 52 (.tmp 2) (.tmp 36) rfl w.heap.size #[.int .i64 0, .int .i64 0, .int .u32 0, .int .u32 0, .int .u32 0, .int .u32 0, .int .u16 0, .int .u16 0, .int .u16 0, .int .u16 0, .slice none 0 0, .slice none 0 0, .slice none 0 0, .string ⟨#[]⟩] rfl rfl 52 #[.int .i64 0, .int .i64 0, .int .u32 0, .int .u32 0, .int .u32 0, .int .u32 0, .int .u16 0, .int .u16 0, .int .u16 0, .int .u16 0, .slice none 0 0, .slice none 0 0, .slice none 0 0, .string ⟨#[]⟩] HXo.out HCS.out rfl HONE.out ?_)
    exact bodyPost_ret (v := .tuple #[.agg #[.int .i64 0, .int .i64 0, .int .u32 0, .int .u32 0, .int .u32 0, .int .u32 0, .int .u16 0, .int .u16 0, .int .u16 0, .int .u16 0, .slice none 0 0, .slice none 0 0, .slice none 0 0, .string ⟨#[]⟩], .int .i64 0, .int .i64 2]) (results_row2 Tryz.results59 _ _ w.heap.size _ #[.int .i64 0, .int .i64 0, .int .u32 0, .int .u32 0, .int .u32 0, .int .u32 0, .int .u16 0, .int .u16 0, .int .u16 0, .int .u16 0, .slice none 0 0, .slice none 0 0, .slice none 0 0, .string ⟨#[]⟩] _ _ (by rfl) (setRow_heap _ _ _ #[.int .i64 0, .int .i64 0, .int .u32 0, .int .u32 0, .int .u32 0, .int .u32 0, .int .u16 0, .int .u16 0, .int .u16 0, .int .u16 0, .slice none 0 0, .slice none 0 0, .slice none 0 0, .string ⟨#[]⟩] _ _ HXo.out) Tryz.underlying52 rfl HCS.out) rfl ⟨_, _, _, rfl, Parts.zero _ _ _, by simp [Value.ownBlock], by rw [setRow_self _ _ _ _ _ HXo.out]; exact HB.out⟩
  rw [if_neg h3] at HV
  have k3 : (4 : Int) ≤ (n : Int) := by omega
  by_cases h4' : 1400 < n
  · rw [if_pos h4'] at HV
    rw [HV.out]
    have k4 : (1400 : Int) < (n : Int) := by omega
    clear HV h3 HVI HTI HTL HSC h2 h4'
    go_enter Tryz.func59, Tryz.ntmps59
    go_wp2_with fail
    refine H1.out.mono ?_
    rintro _ w1 ⟨rfl, hr, ht⟩
    replace HXo := Lib.hid ((ht.block w.heap.size (by omega)).trans HXo.out)
    replace HB := Lib.hid (HB.out.trans (ht.below (B := w.heap.size) fun j hj => by omega))
    have HXr := Lib.hid hr
    clear hr ht H1
    go_wp2_with fail
    refine (H2.out _ HXr.out).mono ?_
    rintro _ w2 ⟨rfl, hr, ht⟩
    replace HXo := Lib.hid ((ht.block w.heap.size (by omega)).trans HXo.out)
    replace HB := Lib.hid (HB.out.trans (ht.below (B := w.heap.size) fun j hj => by omega))
    replace HXr := Lib.hid hr
    clear hr ht H2
    go_wp2_with fail
    refine (H3.out _ HXr.out).mono ?_
    rintro _ w3 ⟨rfl, hr, ht⟩
    replace HXo := Lib.hid ((ht.block w.heap.size (by omega)).trans HXo.out)
    replace HB := Lib.hid (HB.out.trans (ht.below (B := w.heap.size) fun j hj => by omega))
    clear hr ht H3 HXr
    go_wp2_with (refine wpList_store_row rfl 52 (.tmp 2) (.tmp 40) rfl w.heap.size #[.int .i64 0, .int .i64 0, .int .u32 0, .int .u32 0, .int .u32 0, .int .u32 0, .int .u16 0, .int .u16 0, .int .u16 0, .int .u16 0, .slice none 0 0, .slice none 0 0, .slice none 0 0, .string ⟨#[]⟩] rfl rfl 52 #[.int .i64 0, .int .i64 0, .int .u32 0, .int .u32 0, .int .u32 0, .int .u32 0, .int .u16 0, .int .u16 0, .int .u16 0, .int .u16 0, .slice none 0 0, .slice none 0 0, .slice none 0 0, .string ⟨#[]⟩] HXo.out HCS.out rfl HONE.out ?_)
    exact bodyPost_ret (v := .tuple #[.agg #[.int .i64 0, .int .i64 0, .int .u32 0, .int .u32 0, .int .u32 0, .int .u32 0, .int .u16 0, .int .u16 0, .int .u16 0, .int .u16 0, .slice none 0 0, .slice none 0 0, .slice none 0 0, .string ⟨#[]⟩], .int .i64 0, .int .i64 4]) (results_row2 Tryz.results59 _ _ w.heap.size _ #[.int .i64 0, .int .i64 0, .int .u32 0, .int .u32 0, .int .u32 0, .int .u32 0, .int .u16 0, .int .u16 0, .int .u16 0, .int .u16 0, .slice none 0 0, .slice none 0 0, .slice none 0 0, .string ⟨#[]⟩] _ _ (by rfl) (setRow_heap _ _ _ #[.int .i64 0, .int .i64 0, .int .u32 0, .int .u32 0, .int .u32 0, .int .u32 0, .int .u16 0, .int .u16 0, .int .u16 0, .int .u16 0, .slice none 0 0, .slice none 0 0, .slice none 0 0, .string ⟨#[]⟩] _ _ HXo.out) Tryz.underlying52 rfl HCS.out) rfl ⟨_, _, _, rfl, Parts.zero _ _ _, by simp [Value.ownBlock], by rw [setRow_self _ _ _ _ _ HXo.out]; exact HB.out⟩
  rw [if_neg h4'] at HV
  have k4 : (n : Int) ≤ 1400 := by omega
  have hvi := HVI.out
  have hvs : v.size ≤ 4000 := by
    rw [← hvi, size_list, cut_list, List.length_take]
    omega
  have HPV := Lib.hid (fun W => parseVal_any (k : Int) (f : Int) v hvs W)
  generalize parseV (k : Int) (f : Int) v = PV at *
  obtain ⟨c0, ok⟩ := PV
  dsimp only at HV HPV
  have HPD := Lib.hid (fun W => pad_any (n : Int) (by omega) (by omega) W)
  rw [padI_nat] at HPD
  have hpd := padN_lt n
  generalize padN n = p at *
  have hsz := HSC.out
  have hmin : (min ((n : Int) + (p : Int)) (s.size : Int)) = (sz : Int) := by rw [hsz]; omega
  have r1 : (n : Int) ≤ (sz : Int) := by omega
  have r2 : (sz : Int) ≤ (s.size : Int) := by omega
  have r3 : (p : Int) < 4 := by omega
  have HTI1 := Lib.hid (HTI.out (by omega))
  clear HVI HTI HSC h2 h3 h4' hvs hsz hpd
  have hhp := Tryz.strings_HasPrefix ⟨#[0, 0, 0]⟩ (s.extract n sz)
  rw [HTI1.out, prefix_noughts tl HTL.out] at hhp
  have HHP := Lib.hid hhp
  have HVZ := Lib.hid (fun (h : tl = zerosL tl.length) => decide_eq_true h)
  have HVN := Lib.hid (fun (h : ¬ tl = zerosL tl.length) => decide_eq_false h)
  clear hhp HTI1 HTL
  obtain ⟨ty, fl, tsn, tag, win, ppid, st, ssn, outs, ins, gaps, dups, items, text⟩ := c0
  cases ok with
  | false =>
    rw [if_neg (by simp)] at HV
    rw [HV.out]
    clear HVZ HVN HHP
    go_enter Tryz.func59, Tryz.ntmps59
    go_wp2_with fail
    refine H1.out.mono ?_
    rintro _ w1 ⟨rfl, hr, ht⟩
    replace HXo := Lib.hid ((ht.block w.heap.size (by omega)).trans HXo.out)
    replace HB := Lib.hid (HB.out.trans (ht.below (B := w.heap.size) fun j hj => by omega))
    have HXr := Lib.hid hr
    clear hr ht H1
    go_wp2_with fail
    refine (H2.out _ HXr.out).mono ?_
    rintro _ w2 ⟨rfl, hr, ht⟩
    replace HXo := Lib.hid ((ht.block w.heap.size (by omega)).trans HXo.out)
    replace HB := Lib.hid (HB.out.trans (ht.below (B := w.heap.size) fun j hj => by omega))
    replace HXr := Lib.hid hr
    clear hr ht H2
    go_wp2_with fail
    refine (H3.out _ HXr.out).mono ?_
    rintro _ w3 ⟨rfl, hr, ht⟩
    replace HXo := Lib.hid ((ht.block w.heap.size (by omega)).trans HXo.out)
    replace HB := Lib.hid (HB.out.trans (ht.below (B := w.heap.size) fun j hj => by omega))
    clear hr ht H3 HXr
    have hnw : w.heap.size < w3.heap.size := (Array.getElem?_eq_some_iff.1 HXo.out).1
    go_wp2_with fail
    refine (HPV.out _).mono ?_
    rintro _ w5 ⟨g, d, it, rfl, hp, ha, hb⟩
    obtain ⟨⟨A1, k1', rfl⟩, ⟨A2, k2', rfl⟩, ⟨A3, k3', rfl⟩⟩ := hp.slices
    have HONEC := Lib.hid hp.one
    have HXo5 := Lib.hid ((Below.heap_alloc w5 (.cells #[.int .i64 ty, .int .i64 fl, .int .u32 (tsn : Int), .int .u32 (tag : Int), .int .u32 (win : Int), .int .u32 (ppid : Int), .int .u16 (st : Int), .int .u16 (ssn : Int), .int .u16 (outs : Int), .int .u16 (ins : Int), .slice A1 gaps.length k1', .slice A2 dups.length k2', .slice A3 items.length k3', .string text] 52) _ (by have := hb.size; omega)).trans ((hb.block _ hnw).trans HXo.out))
    have HB5 := Lib.hid ((HB.out.trans (hb.mono HB.out.size)).alloc (Nat.le_trans HB.out.size hb.size) (.cells #[.int .i64 ty, .int .i64 fl, .int .u32 (tsn : Int), .int .u32 (tag : Int), .int .u32 (win : Int), .int .u32 (ppid : Int), .int .u16 (st : Int), .int .u16 (ssn : Int), .int .u16 (outs : Int), .int .u16 (ins : Int), .slice A1 gaps.length k1', .slice A2 dups.length k2', .slice A3 items.length k3', .string text] 52))
    have HPP := Lib.hid (hp.below ((Below.refl _ _).alloc (Nat.le_refl _) (.cells #[.int .i64 ty, .int .i64 fl, .int .u32 (tsn : Int), .int .u32 (tag : Int), .int .u32 (win : Int), .int .u32 (ppid : Int), .int .u16 (st : Int), .int .u16 (ssn : Int), .int .u16 (outs : Int), .int .u16 (ins : Int), .slice A1 gaps.length k1', .slice A2 dups.length k2', .slice A3 items.length k3', .string text] 52)))
    have HA := Lib.hid (fun j hj => Nat.lt_of_lt_of_le hnw (ha j hj))
    dsimp only [cellsC] at HONEC HPP HA ⊢
    clear hp ha hb HXo HB HPV
    go_wp2_with fail
    refine (HPD.out _).mono ?_
    rintro _ w6 ⟨rfl, rfl⟩
    go_wp2_with (refine wpList_store_row rfl 52 (.tmp 2) (.tmp 69) rfl w.heap.size #[.int .i64 0, .int .i64 0, .int .u32 0, .int .u32 0, .int .u32 0, .int .u32 0, .int .u16 0, .int .u16 0, .int .u16 0, .int .u16 0, .slice none 0 0, .slice none 0 0, .slice none 0 0, .string ⟨#[]⟩] rfl rfl 52 #[.int .i64 0, .int .i64 0, .int .u32 0, .int .u32 0, .int .u32 0, .int .u32 0, .int .u16 0, .int .u16 0, .int .u16 0, .int .u16 0, .slice none 0 0, .slice none 0 0, .slice none 0 0, .string ⟨#[]⟩] HXo5.out HCS.out rfl HONE.out ?_)
    exact bodyPost_ret (v := .tuple #[.agg #[.int .i64 0, .int .i64 0, .int .u32 0, .int .u32 0, .int .u32 0, .int .u32 0, .int .u16 0, .int .u16 0, .int .u16 0, .int .u16 0, .slice none 0 0, .slice none 0 0, .slice none 0 0, .string ⟨#[]⟩], .int .i64 0, .int .i64 2]) (results_row2 Tryz.results59 _ _ w.heap.size _ #[.int .i64 0, .int .i64 0, .int .u32 0, .int .u32 0, .int .u32 0, .int .u32 0, .int .u16 0, .int .u16 0, .int .u16 0, .int .u16 0, .slice none 0 0, .slice none 0 0, .slice none 0 0, .string ⟨#[]⟩] _ _ (by rfl) (setRow_heap _ _ _ #[.int .i64 0, .int .i64 0, .int .u32 0, .int .u32 0, .int .u32 0, .int .u32 0, .int .u16 0, .int .u16 0, .int .u16 0, .int .u16 0, .slice none 0 0, .slice none 0 0, .slice none 0 0, .string ⟨#[]⟩] _ _ HXo5.out) Tryz.underlying52 rfl HCS.out) rfl ⟨_, _, _, rfl, Parts.zero _ _ _, by simp [Value.ownBlock], by rw [setRow_self _ _ _ _ _ HXo5.out]; exact HB5.out⟩
  | true =>
    by_cases hz : tl = zerosL tl.length
    · rw [HVZ.out hz] at HHP
      rw [if_pos ⟨rfl, hz⟩] at HV
      rw [HV.out]
      clear HVZ HVN hz
      go_enter Tryz.func59, Tryz.ntmps59
      go_wp2_with fail
      refine H1.out.mono ?_
      rintro _ w1 ⟨rfl, hr, ht⟩
      replace HXo := Lib.hid ((ht.block w.heap.size (by omega)).trans HXo.out)
      replace HB := Lib.hid (HB.out.trans (ht.below (B := w.heap.size) fun j hj => by omega))
      have HXr := Lib.hid hr
      clear hr ht H1
      go_wp2_with fail
      refine (H2.out _ HXr.out).mono ?_
      rintro _ w2 ⟨rfl, hr, ht⟩
      replace HXo := Lib.hid ((ht.block w.heap.size (by omega)).trans HXo.out)
      replace HB := Lib.hid (HB.out.trans (ht.below (B := w.heap.size) fun j hj => by omega))
      replace HXr := Lib.hid hr
      clear hr ht H2
      go_wp2_with fail
      refine (H3.out _ HXr.out).mono ?_
      rintro _ w3 ⟨rfl, hr, ht⟩
      replace HXo := Lib.hid ((ht.block w.heap.size (by omega)).trans HXo.out)
      replace HB := Lib.hid (HB.out.trans (ht.below (B := w.heap.size) fun j hj => by omega))
      clear hr ht H3 HXr
      have hnw : w.heap.size < w3.heap.size := (Array.getElem?_eq_some_iff.1 HXo.out).1
      go_wp2_with fail
      refine (HPV.out _).mono ?_
      rintro _ w5 ⟨g, d, it, rfl, hp, ha, hb⟩
      obtain ⟨⟨A1, k1', rfl⟩, ⟨A2, k2', rfl⟩, ⟨A3, k3', rfl⟩⟩ := hp.slices
      have HONEC := Lib.hid hp.one
      have HXo5 := Lib.hid ((Below.heap_alloc w5 (.cells #[.int .i64 ty, .int .i64 fl, .int .u32 (tsn : Int), .int .u32 (tag : Int), .int .u32 (win : Int), .int .u32 (ppid : Int), .int .u16 (st : Int), .int .u16 (ssn : Int), .int .u16 (outs : Int), .int .u16 (ins : Int), .slice A1 gaps.length k1', .slice A2 dups.length k2', .slice A3 items.length k3', .string text] 52) _ (by have := hb.size; omega)).trans ((hb.block _ hnw).trans HXo.out))
      have HB5 := Lib.hid ((HB.out.trans (hb.mono HB.out.size)).alloc (Nat.le_trans HB.out.size hb.size) (.cells #[.int .i64 ty, .int .i64 fl, .int .u32 (tsn : Int), .int .u32 (tag : Int), .int .u32 (win : Int), .int .u32 (ppid : Int), .int .u16 (st : Int), .int .u16 (ssn : Int), .int .u16 (outs : Int), .int .u16 (ins : Int), .slice A1 gaps.length k1', .slice A2 dups.length k2', .slice A3 items.length k3', .string text] 52))
      have HPP := Lib.hid (hp.below ((Below.refl _ _).alloc (Nat.le_refl _) (.cells #[.int .i64 ty, .int .i64 fl, .int .u32 (tsn : Int), .int .u32 (tag : Int), .int .u32 (win : Int), .int .u32 (ppid : Int), .int .u16 (st : Int), .int .u16 (ssn : Int), .int .u16 (outs : Int), .int .u16 (ins : Int), .slice A1 gaps.length k1', .slice A2 dups.length k2', .slice A3 items.length k3', .string text] 52)))
      have HA := Lib.hid (fun j hj => Nat.lt_of_lt_of_le hnw (ha j hj))
      dsimp only [cellsC] at HONEC HPP HA ⊢
      clear hp ha hb HXo HB HPV
      go_wp2_with fail
      refine (HPD.out _).mono ?_
      rintro _ w6 ⟨rfl, rfl⟩
      go_wp2_with fail
      refine (HHP.out _).mono ?_
      rintro _ w7 ⟨rfl, rfl⟩
      go_wp2_with (refine wpList_store_row rfl 52 (.tmp 2) (.tmp 70) rfl w.heap.size #[.int .i64 ty, .int .i64 fl, .int .u32 (tsn : Int), .int .u32 (tag : Int), .int .u32 (win : Int), .int .u32 (ppid : Int), .int .u16 (st : Int), .int .u16 (ssn : Int), .int .u16 (outs : Int), .int .u16 (ins : Int), .slice A1 gaps.length k1', .slice A2 dups.length k2', .slice A3 items.length k3', .string text] rfl rfl 52 #[.int .i64 0, .int .i64 0, .int .u32 0, .int .u32 0, .int .u32 0, .int .u32 0, .int .u16 0, .int .u16 0, .int .u16 0, .int .u16 0, .slice none 0 0, .slice none 0 0, .slice none 0 0, .string ⟨#[]⟩] HXo5.out HCS.out rfl HONEC.out ?_)
      exact bodyPost_ret (v := .tuple #[.agg #[.int .i64 ty, .int .i64 fl, .int .u32 (tsn : Int), .int .u32 (tag : Int), .int .u32 (win : Int), .int .u32 (ppid : Int), .int .u16 (st : Int), .int .u16 (ssn : Int), .int .u16 (outs : Int), .int .u16 (ins : Int), .slice A1 gaps.length k1', .slice A2 dups.length k2', .slice A3 items.length k3', .string text], .int .i64 (sz : Int), .int .i64 0]) (results_row2 Tryz.results59 _ _ w.heap.size _ #[.int .i64 ty, .int .i64 fl, .int .u32 (tsn : Int), .int .u32 (tag : Int), .int .u32 (win : Int), .int .u32 (ppid : Int), .int .u16 (st : Int), .int .u16 (ssn : Int), .int .u16 (outs : Int), .int .u16 (ins : Int), .slice A1 gaps.length k1', .slice A2 dups.length k2', .slice A3 items.length k3', .string text] _ _ (by rfl) (setRow_heap _ _ _ #[.int .i64 ty, .int .i64 fl, .int .u32 (tsn : Int), .int .u32 (tag : Int), .int .u32 (win : Int), .int .u32 (ppid : Int), .int .u16 (st : Int), .int .u16 (ssn : Int), .int .u16 (outs : Int), .int .u16 (ins : Int), .slice A1 gaps.length k1', .slice A2 dups.length k2', .slice A3 items.length k3', .string text] _ _ HXo5.out) Tryz.underlying52 rfl HCS.out) rfl ⟨_, _, _, rfl, HPP.out.keep (by simp) (fun j hj => setRow_other _ _ _ _ (by have := HA.out j hj; omega)), fun j hj => Nat.le_of_lt (HA.out j hj), below_setRow HB5.out (Nat.le_refl _) _⟩
    · rw [HVN.out hz] at HHP
      rw [if_neg (by rintro ⟨-, h⟩; exact hz h)] at HV
      rw [HV.out]
      clear HVZ HVN hz
      go_enter Tryz.func59, Tryz.ntmps59
      go_wp2_with fail
      refine H1.out.mono ?_
      rintro _ w1 ⟨rfl, hr, ht⟩
      replace HXo := Lib.hid ((ht.block w.heap.size (by omega)).trans HXo.out)
      replace HB := Lib.hid (HB.out.trans (ht.below (B := w.heap.size) fun j hj => by omega))
      have HXr := Lib.hid hr
      clear hr ht H1
      go_wp2_with fail
      refine (H2.out _ HXr.out).mono ?_
      rintro _ w2 ⟨rfl, hr, ht⟩
      replace HXo := Lib.hid ((ht.block w.heap.size (by omega)).trans HXo.out)
      replace HB := Lib.hid (HB.out.trans (ht.below (B := w.heap.size) fun j hj => by omega))
      replace HXr := Lib.hid hr
      clear hr ht H2
      go_wp2_with fail
      refine (H3.out _ HXr.out).mono ?_
      rintro _ w3 ⟨rfl, hr, ht⟩
      replace HXo := Lib.hid ((ht.block w.heap.size (by omega)).trans HXo.out)
      replace HB := Lib.hid (HB.out.trans (ht.below (B := w.heap.size) fun j hj => by omega))
      clear hr ht H3 HXr
      have hnw : w.heap.size < w3.heap.size := (Array.getElem?_eq_some_iff.1 HXo.out).1
      go_wp2_with fail
      refine (HPV.out _).mono ?_
      rintro _ w5 ⟨g, d, it, rfl, hp, ha, hb⟩
      obtain ⟨⟨A1, k1', rfl⟩, ⟨A2, k2', rfl⟩, ⟨A3, k3', rfl⟩⟩ := hp.slices
      have HONEC := Lib.hid hp.one
      have HXo5 := Lib.hid ((Below.heap_alloc w5 (.cells #[.int .i64 ty, .int .i64 fl, .int .u32 (tsn : Int), .int .u32 (tag : Int), .int .u32 (win : Int), .int .u32 (ppid : Int), .int .u16 (st : Int), .int .u16 (ssn : Int), .int .u16 (outs : Int), .int .u16 (ins : Int), .slice A1 gaps.length k1', .slice A2 dups.length k2', .slice A3 items.length k3', .string text] 52) _ (by have := hb.size; omega)).trans ((hb.block _ hnw).trans HXo.out))
      have HB5 := Lib.hid ((HB.out.trans (hb.mono HB.out.size)).alloc (Nat.le_trans HB.out.size hb.size) (.cells #[.int .i64 ty, .int .i64 fl, .int .u32 (tsn : Int), .int .u32 (tag : Int), .int .u32 (win : Int), .int .u32 (ppid : Int), .int .u16 (st : Int), .int .u16 (ssn : Int), .int .u16 (outs : Int), .int .u16 (ins : Int), .slice A1 gaps.length k1', .slice A2 dups.length k2', .slice A3 items.length k3', .string text] 52))
      have HPP := Lib.hid (hp.below ((Below.refl _ _).alloc (Nat.le_refl _) (.cells #[.int .i64 ty, .int .i64 fl, .int .u32 (tsn : Int), .int .u32 (tag : Int), .int .u32 (win : Int), .int .u32 (ppid : Int), .int .u16 (st : Int), .int .u16 (ssn : Int), .int .u16 (outs : Int), .int .u16 (ins : Int), .slice A1 gaps.length k1', .slice A2 dups.length k2', .slice A3 items.length k3', .string text] 52)))
      have HA := Lib.hid (fun j hj => Nat.lt_of_lt_of_le hnw (ha j hj))
      dsimp only [cellsC] at HONEC HPP HA ⊢
      clear hp ha hb HXo HB HPV
      go_wp2_with fail
      refine (HPD.out _).mono ?_
      rintro _ w6 ⟨rfl, rfl⟩
      go_wp2_with fail
      refine (HHP.out _).mono ?_
      rintro _ w7 ⟨rfl, rfl⟩
      go_wp2_with (refine wpList_store_row rfl 52 (.tmp 2) (.tmp 69) rfl w.heap.size #[.int .i64 0, .int .i64 0, .int .u32 0, .int .u32 0, .int .u32 0, .int .u32 0, .int .u16 0, .int .u16 0, .int .u16 0, .int .u16 0, .slice none 0 0, .slice none 0 0, .slice none 0 0, .string ⟨#[]⟩] rfl rfl 52 #[.int .i64 0, .int .i64 0, .int .u32 0, .int .u32 0, .int .u32 0, .int .u32 0, .int .u16 0, .int .u16 0, .int .u16 0, .int .u16 0, .slice none 0 0, .slice none 0 0, .slice none 0 0, .string ⟨#[]⟩] HXo5.out HCS.out rfl HONE.out ?_)
      exact bodyPost_ret (v := .tuple #[.agg #[.int .i64 0, .int .i64 0, .int .u32 0, .int .u32 0, .int .u32 0, .int .u32 0, .int .u16 0, .int .u16 0, .int .u16 0, .int .u16 0, .slice none 0 0, .slice none 0 0, .slice none 0 0, .string ⟨#[]⟩], .int .i64 0, .int .i64 2]) (results_row2 Tryz.results59 _ _ w.heap.size _ #[.int .i64 0, .int .i64 0, .int .u32 0, .int .u32 0, .int .u32 0, .int .u32 0, .int .u16 0, .int .u16 0, .int .u16 0, .int .u16 0, .slice none 0 0, .slice none 0 0, .slice none 0 0, .string ⟨#[]⟩] _ _ (by rfl) (setRow_heap _ _ _ #[.int .i64 0, .int .i64 0, .int .u32 0, .int .u32 0, .int .u32 0, .int .u32 0, .int .u16 0, .int .u16 0, .int .u16 0, .int .u16 0, .slice none 0 0, .slice none 0 0, .slice none 0 0, .string ⟨#[]⟩] _ _ HXo5.out) Tryz.underlying52 rfl HCS.out) rfl ⟨_, _, _, rfl, Parts.zero _ _ _, by simp [Value.ownBlock], by rw [setRow_self _ _ _ _ _ HXo5.out]; exact HB5.out⟩
end Go.Proofs.YtlbaockipeojhaaGreat
end
