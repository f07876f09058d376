/-
  Arguments as they come in: rows of texts.
-/
import Derived.Test.YthfiebdpoleeeaaDoorLift
import Derived.Test.YthfiebdpoleeeaaDoorMem
import Derived.SliceStrings
namespace Go.Proofs.YthfiebdpoleeeaaDoor
open Go.ChangeShapes Go.WideShapes Go.ChangeAt Go.RowKit

def encS (s : ByteArray) : Value := .string s
set_option maxRecDepth 100000 in
/-- A list of texts, as it comes in. -/
theorem strings_in {H : Type} {enc : TypeId × Value → H} {W : World} {v : Value} {d : DataW H} {ps : List MemPlace} {base : Nat} (hval : Value.okWide Tryd.prog W .any base 50 v) (h : DataW.Trod enc Tryd.prog W 0 (fun _ => true) true 50 v d ps) :
    ∃ l : List ByteArray, RowE encS W v l ∧ ∀ s ∈ l, s.size ≤ maxLen := by
  have hc : Tryd.prog.cellsOf 9 = 1 := by kernel_rfl
  obtain ⟨a0, len, cap, rfl⟩ := okWide_slice Tryd.underlying50 hval
  obtain ⟨fuel, hf⟩ := h
  rcases open_strings Tryd.underlying50 Tryd.underlying9 hc hf with ⟨hcs, _⟩ | ⟨a, len', cap', zs, hcs, _, hl, hm, hz, _, hcell, hwz⟩
  · simp [Value.cells] at hcs
    obtain ⟨rfl, rfl, rfl⟩ := hcs
    exact ⟨[], RowE.nil _ _, by simp⟩
  · simp [Value.cells] at hcs
    obtain ⟨rfl, rfl, rfl⟩ := hcs
    simp only [if_true] at hz
    have hll : (zs.take len).length = len := by simp; omega
    refine ⟨zs.take len, ⟨some a, cap, by rw [hll], by omega, hm, fun hp => ?_⟩, fun s hs => hwz s (List.mem_of_mem_take hs)⟩
    have h0 := hcell 0 (by omega)
    have hspot : a.spot = none := by simpa [Addr.add] using World.cell?_spot h0
    obtain ⟨b, off, spot⟩ := a
    simp only at hspot
    subst hspot
    have hb : b < W.heap.size := World.block_lt_of_cell? _ _ (by rw [addr_plain] at h0; exact h0)
    refine ⟨b, off, rfl, hb, fun j hj => ?_⟩
    have hj' : j < zs.length := by omega
    have h1 := hcell j hj'
    rw [addr_plain] at h1
    rw [h1, getElem!_pos _ j (by omega), List.getD_eq_getElem?_getD, List.getElem?_eq_getElem hj']
    simp [encS]
end Go.Proofs.YthfiebdpoleeeaaDoor
