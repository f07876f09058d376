/-
  A message out of all its pieces: plain.
-/
import Derived.Test.YtgngdgiipifacaaSv
namespace Go.Proofs.Ytgngdgiipifacaa
open Go.RowKit
set_option linter.unusedVariables false
set_option linter.unusedSimpArgs false
set_option maxRecDepth 100000

theorem joinB_cat (r : List Pc) : joinB r = catB (r.map (·.tx)) := by
  unfold joinB catB
  rw [List.flatMap_map]
theorem Fam.text {pc : Nat → Pc} {L : List ByteArray} (h : ∀ i (hi : i < L.length), (pc i).tx = L[i]) : joinB ((List.range L.length).map pc) = catB L := by
  rw [joinB_cat]
  congr 1
  apply List.ext_getElem
  · simp
  · intro i h1 h2
    simp only [List.getElem_map, List.getElem_range]
    exact h i h2
theorem Fam.msg {pc : Nat → Pc} {m : Nat} {f : UInt32} (h : Fam pc m f) : joinM ((List.range m).map pc) = ⟨f, (pc 0).fr, (pc 0).st, (pc 0).ss, (pc 0).pp, joinB ((List.range m).map pc)⟩ := by
  unfold joinM
  rw [getElem!_pos _ 0 (by simp; exact h.m0)]
  simp only [List.getElem_map, List.getElem_range]
  rw [h.ts 0 h.m0, show UInt32.ofNat 0 = (0 : UInt32) from rfl, UInt32.add_zero]
end Go.Proofs.Ytgngdgiipifacaa
