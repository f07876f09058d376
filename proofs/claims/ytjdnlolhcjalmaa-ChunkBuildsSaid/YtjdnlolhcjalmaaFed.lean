/-
  What append is fed with: rows of items, whoever made them.
-/
import Derived.Test.YtjdnlolhcjalmaaRow
import Derived.Test.YtjdnlolhcjalmaaOwn
namespace Go.Proofs.Ytjdnlolhcjalmaa
open Go.RowKit
set_option linter.unusedVariables false

theorem fed_row {P : Program} {w : World} {v : Value} {l : List Item} (h : RowI w v l) : Fed P w 2 v l.length (flatI l) := by
  obtain ⟨A, cap, rfl, _, _, hc⟩ := h
  by_cases hl : 0 < l.length
  · obtain ⟨b, off, rfl, _, hcell⟩ := hc hl
    refine Fed.cells (flatI_length l) (flatI_one l) fun j u hu => ?_
    have hj : j < l.length * 2 := by have := (List.getElem?_eq_some_iff.1 hu).1; rw [flatI_length] at this; exact this
    rw [addr_plain]
    obtain ⟨i, rfl | rfl⟩ : ∃ i, j = i * 2 ∨ j = i * 2 + 1 := ⟨j / 2, by omega⟩
    · obtain ⟨e0, e1⟩ := flatI_at l i (by omega)
      rw [e0] at hu
      cases hu
      exact (hcell i (by omega)).1
    · obtain ⟨e0, e1⟩ := flatI_at l i (by omega)
      rw [e1] at hu
      cases hu
      exact (hcell i (by omega)).2
  · have : l = [] := List.eq_nil_of_length_eq_zero (by omega)
    subst this
    refine ⟨by simp [flatI], by simp [flatI], fun W => by simp [Builtin.lenOf], fun W hW => ?_⟩
    cases A with
    | none => exact run_firstCells_none W 2 0 0 cap
    | some a => exact run_firstCells_some W 2 0 a 0 cap [] rfl fun j u hu => by simp at hu
theorem fed_kept {P : Program} {W W' : World} {g : Nat} {a b : Value} {ty : TypeId} {row : Option Nat} (h : W.heap[g]? = some (.cells #[a, b] ty (0, 0))) (hg : W.grownBy W' row) (hne : some g ≠ row) (h1 : a.oneCell' = true) (h2 : b.oneCell' = true) :
    Fed P W' 2 (.slice (some ⟨g, 0, none⟩) 1 1) 1 [a, b] :=
  Fed.block ((hg.block g (Array.getElem?_eq_some_iff.1 h).1 hne).trans h) rfl (by intro u hu; simp at hu; rcases hu with rfl | rfl <;> assumption)
theorem fed_new {P : Program} (w : World) (a b : Value) (t : TypeId) (h1 : a.oneCell' = true) (h2 : b.oneCell' = true) : Fed P (w.alloc (.cells #[a, b] t)) 2 (.slice (some ⟨w.heap.size, 0, none⟩) 1 1) 1 [a, b] :=
  Fed.block (heap_alloc_new w _) rfl (by intro u hu; simp at hu; rcases hu with rfl | rfl <;> assumption)
end Go.Proofs.Ytjdnlolhcjalmaa
