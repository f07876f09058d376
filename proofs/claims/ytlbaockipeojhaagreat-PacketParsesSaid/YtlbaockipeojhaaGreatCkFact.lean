/-
  Chunks that can be built: how great they are at most.
-/
import Derived.Test.YtlbaockipeojhaaGreatCk
namespace Go.Proofs.YtlbaockipeojhaaGreat
open Go.RowKit
set_option linter.unusedVariables false
set_option linter.unusedSimpArgs false
set_option maxRecDepth 100000

theorem rowL_many : ∀ l : List Item, 4 * l.length ≤ (rowL l).length ∧ ∀ x ∈ l, x.2.size ≤ (rowL l).length
  | [] => ⟨by simp, by simp⟩
  | x :: l => by
    obtain ⟨h1, h2⟩ := rowL_many l
    rw [rowL_cons, List.length_append, bytesL_length]
    refine ⟨by rw [List.length_cons]; omega, fun y hy => ?_⟩
    rcases List.mem_cons.1 hy with rfl | hy
    · omega
    · have := h2 y hy
      omega
theorem form_caps (k : Int) : (formOf k).2.1.2 ≤ 1000 ∧ (formOf k).2.2.2 ≤ 100 := by
  unfold formOf
  repeat' split
  all_goals exact ⟨by decide, by decide⟩
/-- A chunk that can be built is no great one. -/
theorem ok_bounds {c : Ck} (h : (buildC c).2 = 0) : c.gaps.length ≤ 100 ∧ c.dups.length ≤ 100 ∧ c.items.length ≤ 1000 ∧ (∀ x ∈ c.items, x.2.size ≤ 4000) ∧ c.text.size ≤ 1000 := by
  obtain ⟨h1, h2, _, _⟩ := buildC_ok h
  obtain ⟨_, _, p3, _, p5, p6, _⟩ := formed_parts h2
  obtain ⟨f1, f2⟩ := form_caps c.type
  obtain ⟨_, b2, _⟩ := build_ok h1
  obtain ⟨r1, r2⟩ := rowL_many c.items
  exact ⟨by omega, by omega, by omega, fun x hx => by have := r2 x hx; omega, by omega⟩
theorem built_size {c : Ck} (h : (buildC c).2 = 0) : (buildC c).1.size % 4 = 0 ∧ (buildC c).1.size ≤ 1400 ∧ 4 ≤ (buildC c).1.size := by
  obtain ⟨h1, h2, h3, h4⟩ := buildC_ok h
  rw [h4, toB_size, bytesC_length]
  have := padN_four (4 + (valueL c).length)
  have := padN_lt (4 + (valueL c).length)
  omega
theorem append_noB (s : ByteArray) : s ++ noB = s := by
  apply bytes_ext
  simp [noB]
end Go.Proofs.YtlbaockipeojhaaGreat
