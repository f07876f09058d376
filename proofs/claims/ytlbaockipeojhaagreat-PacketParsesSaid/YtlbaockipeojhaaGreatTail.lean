/-
  What stands in memory when a chunk was made of its value, and is handed back. No function of the program is walked here.
-/
import Derived.Test.YtlbaockipeojhaaGreatCkMem
import Derived.Deep.RegionHeld3
import Derived.Deep.MidRow
import Derived.Laws.ResultCell
namespace Go.Proofs.YtlbaockipeojhaaGreat
open Go.RowKit
set_option linter.unusedVariables false
set_option maxRecDepth 100000

theorem ckSize : (Tryz.prog.info? 52).map (·.size) = some 14 := by kernel_rfl
/-- The chunk made lies in one block, the reader in one, and what is handed back will lie in a third. -/
structure TailS (w : World) (c : Ck) (g d it : Value) (s : ByteArray) (q : Bool) (W : World) : Prop where
  made : W.heap[w.heap.size + 2]? = some (.cells (cellsC c g d it) 52 (0, 0))
  reader : W.heap[w.heap.size + 1]? = some (.cells #[.string s, .bool q] 132 (0, 0))
  back : ∃ cs, cs.size = 14 ∧ W.heap[w.heap.size]? = some (.cells cs 52 (0, 0))
  parts : Parts W c g d it
  below : Below w.heap.size w W
  away : ∀ j, (g.ownBlock = some j ∨ d.ownBlock = some j ∨ it.ownBlock = some j) → w.heap.size < j
theorem results_row2 {P : Program} {fn : Func} {p u v : Tmp} {ty : TypeId} (h : fn.results = #[.cell p ty, .tmp u, .tmp v]) (tmps : Array Value) (w : World) (g : Nat) (t : TypeId) (cs : Array Value) (fr : Nat × Nat) (d : TypeDesc)
    (hp : tmps.getD p undef = .pointer (some ⟨g, 0, none⟩)) (hg : w.heap[g]? = some (.cells cs t fr))
    (hu : P.underlying ty = some d) (hd : (match d with | .struct _ | .array _ _ => true | _ => false) = true) (hi : (P.info? ty).map (·.size) = some cs.size) :
    (results fn tmps).run P w = .ok (.tuple #[.agg cs, tmps.getD u undef, tmps.getD v undef]) w := by
  have hp' : tmps[p]?.getD undef = .pointer (some ⟨g, 0, none⟩) := by simpa using hp
  simp [results, h, hp', asAddr, run_loadVar_row w g t ty cs fr d hg hu hd hi]
theorem RowG.keep {w w' : World} {v : Value} {l : List (Nat × Nat)} (h : RowG w v l) (hs : w.heap.size ≤ w'.heap.size) (hk : ∀ b, v.ownBlock = some b → w'.heap[b]? = w.heap[b]?) : RowG w' v l := by
  obtain ⟨A, cap, rfl, hc, hm, h⟩ := h
  refine ⟨A, cap, rfl, hc, hm, fun hl => ?_⟩
  obtain ⟨b, off, rfl, hlt, hcell⟩ := h hl
  have e := hk b rfl
  exact ⟨b, off, rfl, Nat.lt_of_lt_of_le hlt hs, fun j hj => ⟨(World.cell?_of_block (w := w) (a := ⟨b, off + j * 2, none⟩) e).trans (hcell j hj).1, (World.cell?_of_block (w := w) (a := ⟨b, off + j * 2 + 1, none⟩) e).trans (hcell j hj).2⟩⟩
theorem RowI.keep {w w' : World} {v : Value} {l : List Item} (h : RowI w v l) (hs : w.heap.size ≤ w'.heap.size) (hk : ∀ b, v.ownBlock = some b → w'.heap[b]? = w.heap[b]?) : RowI w' v l := by
  obtain ⟨A, cap, rfl, hc, hm, h⟩ := h
  refine ⟨A, cap, rfl, hc, hm, fun hl => ?_⟩
  obtain ⟨b, off, rfl, hlt, hcell⟩ := h hl
  have e := hk b rfl
  exact ⟨b, off, rfl, Nat.lt_of_lt_of_le hlt hs, fun j hj => ⟨(World.cell?_of_block (w := w) (a := ⟨b, off + j * 2, none⟩) e).trans (hcell j hj).1, (World.cell?_of_block (w := w) (a := ⟨b, off + j * 2 + 1, none⟩) e).trans (hcell j hj).2⟩⟩
theorem RowN.keep {w w' : World} {v : Value} {l : List Nat} (h : RowN w v l) (hs : w.heap.size ≤ w'.heap.size) (hk : ∀ b, v.ownBlock = some b → w'.heap[b]? = w.heap[b]?) : RowN w' v l := by
  obtain ⟨A, cap, rfl, hc, hm, h⟩ := h
  refine ⟨A, cap, rfl, hc, hm, fun hl => ?_⟩
  obtain ⟨b, off, rfl, hlt, hcell⟩ := h hl
  have e := hk b rfl
  exact ⟨b, off, rfl, Nat.lt_of_lt_of_le hlt hs, fun j hj => (World.cell?_of_block (w := w) (a := ⟨b, off + j, none⟩) e).trans (hcell j hj)⟩
theorem Parts.keep {w w' : World} {c : Ck} {g d it : Value} (h : Parts w c g d it) (hs : w.heap.size ≤ w'.heap.size) (hk : ∀ b, (g.ownBlock = some b ∨ d.ownBlock = some b ∨ it.ownBlock = some b) → w'.heap[b]? = w.heap[b]?) : Parts w' c g d it :=
  ⟨h.gaps.keep hs fun b hb => hk b (.inl hb), h.dups.keep hs fun b hb => hk b (.inr (.inl hb)), h.items.keep hs fun b hb => hk b (.inr (.inr hb))⟩
section
variable {w W W' : World} {c : Ck} {g d it : Value} {s : ByteArray} {q : Bool}
theorem TailS.drew (h : TailS w c g d it s q W) : TailS w c g d it s q W.drew := ⟨h.made, h.reader, h.back, h.parts.below (Below.refl _ _).drew, h.below.drew, h.away⟩
theorem TailS.range (h : TailS w c g d it s q W) : W.rangeAt (w.heap.size + 2) 0 (cellsC c g d it).toList := by
  intro j v hj
  rw [Nat.zero_add, cell_in h.made]
  simpa using hj
theorem TailS.wrong (h : TailS w c g d it s q W) : W.cell? ⟨w.heap.size + 1, 1, none⟩ = some (.bool q) := by rw [cell_in h.reader]; rfl
theorem TailS.later (h : TailS w c g d it s q W) (hb : Below W.heap.size W W') : TailS w c g d it s q W' :=
  ⟨(hb.block _ (Array.getElem?_eq_some_iff.1 h.made).1).trans h.made, (hb.block _ (Array.getElem?_eq_some_iff.1 h.reader).1).trans h.reader,
    let ⟨cs, h1, h2⟩ := h.back; ⟨cs, h1, (hb.block _ (Array.getElem?_eq_some_iff.1 h2).1).trans h2⟩, h.parts.below hb, h.below.trans (hb.mono h.below.size), h.away⟩
/-- Handed back. -/
theorem TailS.set (h : TailS w c g d it s q W) (cs : Array Value) (hcs : cs.size = 14) : TailS w c g d it s q (W.setRow w.heap.size cs) ∧ (W.setRow w.heap.size cs).heap[w.heap.size]? = some (.cells cs 52 (0, 0)) := by
  obtain ⟨old, h1, h2⟩ := h.back
  have e := setRow_heap W _ old cs _ _ h2
  have ne : ∀ k, k ≠ w.heap.size → (W.setRow w.heap.size cs).heap[k]? = W.heap[k]? := fun k hk => setRow_other W _ k cs hk
  refine ⟨⟨(ne _ (by omega)).trans h.made, (ne _ (by omega)).trans h.reader, ⟨cs, hcs, e⟩, h.parts.keep (by simp) (fun b hb => ne b ?_), ?_, h.away⟩, e⟩
  · have := h.away b hb
    omega
  · exact ⟨h.below.os, h.below.tape, h.below.output, by simpa using h.below.size, fun k hk => (ne k (by omega)).trans (h.below.block k hk)⟩
end
end Go.Proofs.YtlbaockipeojhaaGreat
