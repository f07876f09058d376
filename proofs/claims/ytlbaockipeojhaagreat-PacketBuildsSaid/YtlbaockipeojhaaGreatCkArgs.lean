/-
  Arguments as they come in: a chunk, rows of chunks.
-/
import Derived.Test.YtlbaockipeojhaaGreatLift
import Derived.Test.YtlbaockipeojhaaGreatCkMem
import Derived.Deep.SlicePairs
import Derived.Lib.SmallJoins
namespace Go.Proofs.YtlbaockipeojhaaGreat
open Go.ChangeShapes Go.WideShapes Go.ChangeAt Go.RowKit Go.Deep
set_option linter.unusedVariables false
set_option maxRecDepth 100000

theorem cellsItem : Tryz.prog.cellsOf 86 = 2 := by kernel_rfl
theorem cellsInt : Tryz.prog.cellsOf 3 = 1 := by kernel_rfl
theorem cellsStr : Tryz.prog.cellsOf 9 = 1 := by kernel_rfl
theorem cells32 : Tryz.prog.cellsOf 23 = 1 := by kernel_rfl
theorem cells16 : Tryz.prog.cellsOf 22 = 1 := by kernel_rfl
theorem cellsPair : Tryz.prog.cellsOf 104 = 2 := by kernel_rfl
theorem cellsGs : Tryz.prog.cellsOf 48 = 1 := by kernel_rfl
theorem cellsDs : Tryz.prog.cellsOf 49 = 1 := by kernel_rfl
theorem cellsIs : Tryz.prog.cellsOf 50 = 1 := by kernel_rfl
theorem cellsCk : Tryz.prog.cellsOf 52 = 14 := by kernel_rfl
theorem nat_u16 {n : Int} (h : (Lit.int .u16 n).wf = true) : ∃ m : Nat, n = (m : Int) ∧ m < 65536 := by
  have := bounds_u16 h
  exact ⟨n.toNat, by omega, by omega⟩
section
variable {H : Type} {enc : TypeId × Value → H} {W : World} {fuel : Nat} {cs : List Value} {x : DataW H × List MemPlace}
theorem items_of (h : DataW.trod enc Tryz.prog W 0 (fun _ => true) true fuel 50 cs = some x) : ∃ (v : Value) (l : List Item), cs = [v] ∧ RowI W v l ∧ l.length ≤ maxLen ∧ ∀ x ∈ l, x.2.size ≤ maxLen := by
  rcases open_slice_pairs Tryz.underlying50 Tryz.underlying86 cellsItem rfl rfl cellsInt cellsStr h with ⟨hcs, _⟩ | ⟨a, len, cap, m, n, V0, V1, D0, D1, P0, P1, hcs, _, hl, hm, hmm, _, hi⟩
  · exact ⟨_, [], hcs, RowI.nil _, by simp [maxLen], by simp⟩
  · simp only [if_true] at hmm
    have each : ∀ i, i < len → ∃ q : Item, W.cell? (a.add (i * 2)) = some (.int .i64 q.1) ∧ W.cell? (a.add (i * 2 + 1)) = some (.string q.2) ∧ q.2.size ≤ maxLen := by
      intro i hlt
      obtain ⟨h0, h1, g0, g1⟩ := hi i (by omega)
      obtain ⟨k, e0, _, _⟩ := DataW.trod_int Tryz.underlying3 g0
      obtain ⟨t, e1, _, w1⟩ := DataW.trod_string Tryz.underlying9 g1
      injection e0 with e0
      injection e1 with e1
      exact ⟨(k, t), by rw [h0, e0], by rw [h1, e1], w1⟩
    obtain ⟨q, hq⟩ := choose_lt each
    have hlen : ((List.range len).map q).length = len := by simp
    refine ⟨_, (List.range len).map q, hcs, ⟨some a, cap, by rw [hlen], by omega, hm, fun hp => ?_⟩, by rw [hlen]; omega, fun x hx => ?_⟩
    · have h0 := (hq 0 (by omega)).1
      have hspot : a.spot = none := by simpa [Addr.add] using World.cell?_spot h0
      obtain ⟨b, off, spot⟩ := a
      simp only at hspot
      subst hspot
      have hb : b < W.heap.size := World.block_lt_of_cell? _ _ (by rw [addr_plain] at h0; exact h0)
      refine ⟨b, off, rfl, hb, fun j hj => ?_⟩
      obtain ⟨h1, h2, _⟩ := hq j (by omega)
      rw [addr_plain] at h1 h2
      rw [List.getElem_map, List.getElem_range]
      exact ⟨h1, by rw [← h2, Nat.add_assoc]⟩
    · obtain ⟨i, hi', rfl⟩ := List.mem_map.1 hx
      exact (hq i (by simpa using hi')).2.2
theorem dups_of (h : DataW.trod enc Tryz.prog W 0 (fun _ => true) true fuel 49 cs = some x) : ∃ (v : Value) (l : List Nat), cs = [v] ∧ RowN W v l ∧ l.length ≤ maxLen ∧ ∀ d ∈ l, d < 4294967296 := by
  rcases open_slice1 Tryz.underlying49 cells32 h with ⟨hcs, _⟩ | ⟨a, len, cap, m, n, V, D, P, hcs, _, hl, hm, hmm, _, hi⟩
  · exact ⟨_, [], hcs, RowN.nil _, by simp [maxLen], by simp⟩
  · simp only [if_true] at hmm
    have each : ∀ i, i < len → ∃ q : Nat, W.cell? (a.add i) = some (encN q) ∧ q < 4294967296 := by
      intro i hlt
      obtain ⟨h0, g0⟩ := hi i (by omega)
      obtain ⟨k, e0, _, w0⟩ := DataW.trod_int Tryz.underlying23 g0
      injection e0 with e0
      obtain ⟨q, rfl, hq⟩ := nat_u32 w0
      exact ⟨q, by rw [h0, e0]; rfl, hq⟩
    obtain ⟨q, hq⟩ := choose_lt each
    have hlen : ((List.range len).map q).length = len := by simp
    refine ⟨_, (List.range len).map q, hcs, ⟨some a, cap, by rw [hlen], by omega, hm, fun hp => ?_⟩, by rw [hlen]; omega, fun x hx => ?_⟩
    · have h0 := (hq 0 (by omega)).1
      have hspot : a.spot = none := by simpa [Addr.add] using World.cell?_spot h0
      obtain ⟨b, off, spot⟩ := a
      simp only at hspot
      subst hspot
      have hb : b < W.heap.size := World.block_lt_of_cell? _ _ (by rw [addr_plain] at h0; exact h0)
      refine ⟨b, off, rfl, hb, fun j hj => ?_⟩
      have h1 := (hq j (by omega)).1
      rw [addr_plain] at h1
      rw [getElem!_pos _ j hj, List.getElem_map, List.getElem_range]
      exact h1
    · obtain ⟨i, hi', rfl⟩ := List.mem_map.1 hx
      exact (hq i (by simpa using hi')).2
theorem gaps_of (h : DataW.trod enc Tryz.prog W 0 (fun _ => true) true fuel 48 cs = some x) : ∃ (v : Value) (l : List (Nat × Nat)), cs = [v] ∧ RowG W v l ∧ l.length ≤ maxLen ∧ ∀ g ∈ l, g.1 < 65536 ∧ g.2 < 65536 := by
  rcases open_slice Tryz.underlying48 h with ⟨hcs, _⟩ | ⟨a, len, cap, m, n, D, P, hcs, _, hl, hm, hmm, _, hi⟩
  · exact ⟨_, [], hcs, RowG.nil _, by simp [maxLen], by simp⟩
  · simp only [if_true] at hmm
    have each : ∀ i, i < len → ∃ q : Nat × Nat, W.cell? (a.add (i * 2)) = some (.int .u16 (q.1 : Int)) ∧ W.cell? (a.add (i * 2 + 1)) = some (.int .u16 (q.2 : Int)) ∧ q.1 < 65536 ∧ q.2 < 65536 := by
      intro i hlt
      obtain ⟨cs', h1, h2⟩ := hi i (by omega)
      rw [cellsPair] at h1
      obtain ⟨_, hlen, hcell⟩ := World.cells?_some h1
      obtain ⟨xs, k, _, _, _, hxl, hf⟩ := DataW.trod_array Tryz.underlying104 h2
      match xs, hxl, cs', hlen with
      | [y0, y1], _, [v0, v1], _ =>
        have g0 := hf 0 (by omega)
        have g1 := hf 1 (by omega)
        simp [cells16] at g0 g1
        have e0 := hcell 0 (by omega)
        have e1 := hcell 1 (by omega)
        rw [add_add] at e0 e1
        obtain ⟨k0, f0, _, w0⟩ := DataW.trod_int Tryz.underlying22 g0
        obtain ⟨k1, f1, _, w1⟩ := DataW.trod_int Tryz.underlying22 g1
        injection f0 with f0
        injection f1 with f1
        obtain ⟨q0, rfl, b0⟩ := nat_u16 w0
        obtain ⟨q1, rfl, b1⟩ := nat_u16 w1
        subst f0
        subst f1
        exact ⟨(q0, q1), by simpa using e0, by simpa using e1, b0, b1⟩
    obtain ⟨q, hq⟩ := choose_lt each
    have hlen : ((List.range len).map q).length = len := by simp
    refine ⟨_, (List.range len).map q, hcs, ⟨some a, cap, by rw [hlen], by omega, hm, fun hp => ?_⟩, by rw [hlen]; omega, fun x hx => ?_⟩
    · have h0 := (hq 0 (by omega)).1
      have hspot : a.spot = none := by simpa [Addr.add] using World.cell?_spot h0
      obtain ⟨b, off, spot⟩ := a
      simp only at hspot
      subst hspot
      have hb : b < W.heap.size := World.block_lt_of_cell? _ _ (by rw [addr_plain] at h0; exact h0)
      refine ⟨b, off, rfl, hb, fun j hj => ?_⟩
      obtain ⟨h1, h2, _⟩ := hq j (by omega)
      rw [addr_plain] at h1 h2
      rw [List.getElem_map, List.getElem_range]
      exact ⟨h1, by rw [← h2, Nat.add_assoc]⟩
    · obtain ⟨i, hi', rfl⟩ := List.mem_map.1 hx
      exact (hq i (by simpa using hi')).2.2
theorem fourteen {α : Type} {l : List α} (h : l.length = 14) : ∃ a b c d e f g h i j k l' m n, l = [a, b, c, d, e, f, g, h, i, j, k, l', m, n] := by
  match l, h with
  | [a, b, c, d, e, f, g, h, i, j, k, l, m, n], _ => exact ⟨a, b, c, d, e, f, g, h, i, j, k, l, m, n, rfl⟩
/-- What is known of a chunk that comes in. -/
structure InC (W : World) (c : Ck) (g d it : Value) : Prop where
  wf : WfC c
  parts : Parts W c g d it
  type : (Lit.int .i64 c.type).wf = true
  flags : (Lit.int .i64 c.flags).wf = true
  gl : c.gaps.length ≤ maxLen
  dl : c.dups.length ≤ maxLen
  il : c.items.length ≤ maxLen
  iv : ∀ x ∈ c.items, x.2.size ≤ maxLen
  tl : c.text.size ≤ maxLen
theorem InC.below {W W' : World} {c : Ck} {g d it : Value} (h : InC W c g d it) (hb : Below W.heap.size W W') : InC W' c g d it := { h with parts := h.parts.below hb }
theorem chunk_of (h : DataW.trod enc Tryz.prog W 0 (fun _ => true) true fuel 52 cs = some x) : ∃ (c : Ck) (g d it : Value), cs = (cellsC c g d it).toList ∧ InC W c g d it := by
  obtain ⟨xs, n, _, _, hcl, hlen, hg⟩ := DataW.trod_struct Tryz.underlying52 h
  rw [cellsCk] at hcl
  obtain ⟨c0, c1, c2, c3, c4, c5, c6, c7, c8, c9, c10, c11, c12, c13, rfl⟩ := fourteen hcl
  obtain ⟨y0, y1, y2, y3, y4, y5, y6, y7, y8, y9, y10, y11, y12, y13, rfl⟩ := fourteen (l := xs) (by simpa using hlen)
  have g0 : DataW.trod enc Tryz.prog W 0 (fun _ => true) true n 3 [c0] = some y0 := by simpa [cellsInt, cellsStr, cells32, cells16, cellsGs, cellsDs, cellsIs] using hg 0 _ rfl
  have g1 : DataW.trod enc Tryz.prog W 0 (fun _ => true) true n 3 [c1] = some y1 := by simpa [cellsInt, cellsStr, cells32, cells16, cellsGs, cellsDs, cellsIs] using hg 1 _ rfl
  have g2 : DataW.trod enc Tryz.prog W 0 (fun _ => true) true n 23 [c2] = some y2 := by simpa [cellsInt, cellsStr, cells32, cells16, cellsGs, cellsDs, cellsIs] using hg 2 _ rfl
  have g3 : DataW.trod enc Tryz.prog W 0 (fun _ => true) true n 23 [c3] = some y3 := by simpa [cellsInt, cellsStr, cells32, cells16, cellsGs, cellsDs, cellsIs] using hg 3 _ rfl
  have g4 : DataW.trod enc Tryz.prog W 0 (fun _ => true) true n 23 [c4] = some y4 := by simpa [cellsInt, cellsStr, cells32, cells16, cellsGs, cellsDs, cellsIs] using hg 4 _ rfl
  have g5 : DataW.trod enc Tryz.prog W 0 (fun _ => true) true n 23 [c5] = some y5 := by simpa [cellsInt, cellsStr, cells32, cells16, cellsGs, cellsDs, cellsIs] using hg 5 _ rfl
  have g6 : DataW.trod enc Tryz.prog W 0 (fun _ => true) true n 22 [c6] = some y6 := by simpa [cellsInt, cellsStr, cells32, cells16, cellsGs, cellsDs, cellsIs] using hg 6 _ rfl
  have g7 : DataW.trod enc Tryz.prog W 0 (fun _ => true) true n 22 [c7] = some y7 := by simpa [cellsInt, cellsStr, cells32, cells16, cellsGs, cellsDs, cellsIs] using hg 7 _ rfl
  have g8 : DataW.trod enc Tryz.prog W 0 (fun _ => true) true n 22 [c8] = some y8 := by simpa [cellsInt, cellsStr, cells32, cells16, cellsGs, cellsDs, cellsIs] using hg 8 _ rfl
  have g9 : DataW.trod enc Tryz.prog W 0 (fun _ => true) true n 22 [c9] = some y9 := by simpa [cellsInt, cellsStr, cells32, cells16, cellsGs, cellsDs, cellsIs] using hg 9 _ rfl
  have g10 : DataW.trod enc Tryz.prog W 0 (fun _ => true) true n 48 [c10] = some y10 := by simpa [cellsInt, cellsStr, cells32, cells16, cellsGs, cellsDs, cellsIs] using hg 10 _ rfl
  have g11 : DataW.trod enc Tryz.prog W 0 (fun _ => true) true n 49 [c11] = some y11 := by simpa [cellsInt, cellsStr, cells32, cells16, cellsGs, cellsDs, cellsIs] using hg 11 _ rfl
  have g12 : DataW.trod enc Tryz.prog W 0 (fun _ => true) true n 50 [c12] = some y12 := by simpa [cellsInt, cellsStr, cells32, cells16, cellsGs, cellsDs, cellsIs] using hg 12 _ rfl
  have g13 : DataW.trod enc Tryz.prog W 0 (fun _ => true) true n 9 [c13] = some y13 := by simpa [cellsInt, cellsStr, cells32, cells16, cellsGs, cellsDs, cellsIs] using hg 13 _ rfl
  obtain ⟨n0, e0, _, w0⟩ := DataW.trod_int Tryz.underlying3 g0
  injection e0 with e0
  subst e0
  obtain ⟨n1, e1, _, w1⟩ := DataW.trod_int Tryz.underlying3 g1
  injection e1 with e1
  subst e1
  obtain ⟨n2, e2, _, w2⟩ := DataW.trod_int Tryz.underlying23 g2
  injection e2 with e2
  subst e2
  obtain ⟨m2, rfl, b2⟩ := nat_u32 w2
  obtain ⟨n3, e3, _, w3⟩ := DataW.trod_int Tryz.underlying23 g3
  injection e3 with e3
  subst e3
  obtain ⟨m3, rfl, b3⟩ := nat_u32 w3
  obtain ⟨n4, e4, _, w4⟩ := DataW.trod_int Tryz.underlying23 g4
  injection e4 with e4
  subst e4
  obtain ⟨m4, rfl, b4⟩ := nat_u32 w4
  obtain ⟨n5, e5, _, w5⟩ := DataW.trod_int Tryz.underlying23 g5
  injection e5 with e5
  subst e5
  obtain ⟨m5, rfl, b5⟩ := nat_u32 w5
  obtain ⟨n6, e6, _, w6⟩ := DataW.trod_int Tryz.underlying22 g6
  injection e6 with e6
  subst e6
  obtain ⟨m6, rfl, b6⟩ := nat_u16 w6
  obtain ⟨n7, e7, _, w7⟩ := DataW.trod_int Tryz.underlying22 g7
  injection e7 with e7
  subst e7
  obtain ⟨m7, rfl, b7⟩ := nat_u16 w7
  obtain ⟨n8, e8, _, w8⟩ := DataW.trod_int Tryz.underlying22 g8
  injection e8 with e8
  subst e8
  obtain ⟨m8, rfl, b8⟩ := nat_u16 w8
  obtain ⟨n9, e9, _, w9⟩ := DataW.trod_int Tryz.underlying22 g9
  injection e9 with e9
  subst e9
  obtain ⟨m9, rfl, b9⟩ := nat_u16 w9
  obtain ⟨g, G, eg, hG, lG, bG⟩ := gaps_of g10
  injection eg with eg
  subst eg
  obtain ⟨d, D, ed, hD, lD, bD⟩ := dups_of g11
  injection ed with ed
  subst ed
  obtain ⟨it, I, ei, hI, lI, bI⟩ := items_of g12
  injection ei with ei
  subst ei
  obtain ⟨t, et, _, wt⟩ := DataW.trod_string Tryz.underlying9 g13
  injection et with et
  subst et
  exact ⟨⟨n0, n1, m2, m3, m4, m5, m6, m7, m8, m9, G, D, I, t⟩, _, _, _, rfl, ⟨⟨b2, b3, b4, b5, b6, b7, b8, b9, bG, bD⟩, ⟨hG, hD, hI⟩, w0, w1, lG, lD, lI, bI, wt⟩⟩
/-- A chunk, as it comes in. -/
theorem chunk_in {v : Value} {d : DataW H} {ps : List MemPlace} {base : Nat} (hval : Value.okWide Tryz.prog W .any base 52 v) (h : DataW.Trod enc Tryz.prog W 0 (fun _ => true) true 52 v d ps) :
    ∃ (c : Ck) (g d it : Value), v = .agg (cellsC c g d it) ∧ InC W c g d it := by
  obtain ⟨cs, rfl, _⟩ := okWide_struct Tryz.underlying52 hval
  obtain ⟨fuel, hf⟩ := h
  obtain ⟨c, g, d, it, e, hi⟩ := chunk_of hf
  refine ⟨c, g, d, it, ?_, hi⟩
  have e' : cs.toList = (cellsC c g d it).toList := e
  rw [Array.toList_inj.1 e']
end
end Go.Proofs.YtlbaockipeojhaaGreat
