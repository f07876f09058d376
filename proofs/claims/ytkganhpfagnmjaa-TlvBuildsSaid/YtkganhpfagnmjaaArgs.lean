/-
  Arguments as they come in: rows of items, one item.
-/
import Derived.Test.YtkganhpfagnmjaaLift
import Derived.Test.YtkganhpfagnmjaaRow
import Derived.Deep.SlicePairs
import Derived.Lib.SmallJoins
namespace Go.Proofs.Ytkganhpfagnmjaa
open Go.ChangeShapes Go.WideShapes Go.ChangeAt Go.RowKit Go.Deep
set_option linter.unusedVariables false

theorem cellsItem : Try.prog.cellsOf 47 = 2 := by kernel_rfl
theorem cellsInt : Try.prog.cellsOf 3 = 1 := by kernel_rfl
theorem cellsStr : Try.prog.cellsOf 9 = 1 := by kernel_rfl
/-- A list of items, as it comes in. -/
theorem items_in {H : Type} {enc : TypeId × Value → H} {W : World} {v : Value} {d : DataW H} {ps : List MemPlace} {base : Nat} (hval : Value.okWide Try.prog W .any base 22 v) (h : DataW.Trod enc Try.prog W 0 (fun _ => true) true 22 v d ps) :
    ∃ l : List Item, RowI W v l ∧ l.length ≤ maxLen ∧ ∀ x ∈ l, x.2.size ≤ maxLen := by
  obtain ⟨a0, len, cap, rfl⟩ := okWide_slice Try.underlying22 hval
  obtain ⟨fuel, hf⟩ := h
  rcases open_slice_pairs Try.underlying22 Try.underlying47 cellsItem rfl rfl cellsInt cellsStr hf with ⟨hcs, _⟩ | ⟨a, len', cap', m, n, V0, V1, D0, D1, P0, P1, hcs, _, hl, hm, hmm, _, hi⟩
  · simp [Value.cells] at hcs
    obtain ⟨rfl, rfl, rfl⟩ := hcs
    exact ⟨[], RowI.nil _, by simp [maxLen], by simp⟩
  · simp [Value.cells] at hcs
    obtain ⟨rfl, rfl, rfl⟩ := hcs
    simp only [if_true] at hmm
    have each : ∀ i, i < len → ∃ q : Item, W.cell? (a.add (i * 2)) = some (.int .i64 q.1) ∧ W.cell? (a.add (i * 2 + 1)) = some (.string q.2) ∧ q.2.size ≤ maxLen := by
      intro i hlt
      obtain ⟨h0, h1, g0, g1⟩ := hi i (by omega)
      obtain ⟨k, e0, _, _⟩ := DataW.trod_int Try.underlying3 g0
      obtain ⟨t, e1, _, w1⟩ := DataW.trod_string Try.underlying9 g1
      injection e0 with e0
      injection e1 with e1
      exact ⟨(k, t), by rw [h0, e0], by rw [h1, e1], w1⟩
    obtain ⟨q, hq⟩ := choose_lt each
    have hlen : ((List.range len).map q).length = len := by simp
    refine ⟨(List.range len).map q, ⟨some a, cap, by rw [hlen], by omega, hm, fun hp => ?_⟩, by rw [hlen]; omega, fun x hx => ?_⟩
    · have h0 := (hq 0 (by omega)).1
      have hspot : a.spot = none := by simpa [Addr.add] using World.cell?_spot h0
      obtain ⟨b, off, spot⟩ := a
      simp only at hspot
      subst hspot
      have hb : b < W.heap.size := World.block_lt_of_cell? _ _ (by rw [addr_plain] at h0; exact h0)
      refine ⟨b, off, rfl, hb, fun j hj => ?_⟩
      obtain ⟨h1, h2, _⟩ := hq j (by omega)
      rw [addr_plain] at h1 h2
      rw [List.getElem_map, List.getElem_range]
      exact ⟨h1, by rw [← h2, Nat.add_assoc]⟩
    · obtain ⟨i, hi', rfl⟩ := List.mem_map.1 hx
      exact (hq i (by simpa using hi')).2.2
/-- One item. -/
theorem item_in {H : Type} {enc : TypeId × Value → H} {W : World} {v : Value} {d : DataW H} {ps : List MemPlace} {base : Nat} (hval : Value.okWide Try.prog W .any base 47 v) (h : DataW.Trod enc Try.prog W 0 (fun _ => true) true 47 v d ps) :
    ∃ (k : Int) (t : ByteArray), v = .agg #[.int .i64 k, .string t] ∧ (Lit.int .i64 k).wf = true ∧ t.size ≤ maxLen := by
  obtain ⟨v0, v1, y0, y1, n, rfl, _, _, g0, g1⟩ := Go.Joins.open_agg2 Try.underlying47 (by kernel_rfl) cellsItem hval h
  obtain ⟨k, e0, _, w0⟩ := DataW.trod_int Try.underlying3 g0
  obtain ⟨t, e1, _, w1⟩ := DataW.trod_string Try.underlying9 g1
  injection e0 with e0
  injection e1 with e1
  subst e0
  subst e1
  exact ⟨k, t, rfl, w0, w1⟩
end Go.Proofs.Ytkganhpfagnmjaa
