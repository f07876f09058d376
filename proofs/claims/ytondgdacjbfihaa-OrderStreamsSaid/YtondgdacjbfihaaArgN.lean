/-
  A list of numbers of 16 bits, as it comes in.
-/
import Derived.Test.YtondgdacjbfihaaArgs
namespace Go.Proofs.Ytondgdacjbfihaa
open Go.ChangeShapes Go.WideShapes Go.ChangeAt Go.RowKit Go.Deep
set_option linter.unusedVariables false
set_option linter.unusedSimpArgs false
set_option maxRecDepth 100000

theorem nums16_in {H : Type} {enc : TypeId × Value → H} {W : World} {v : Value} {d : DataW H} {ps : List MemPlace} {base : Nat} (hval : Value.okWide Try.prog W .any base 24 v) (h : DataW.Trod enc Try.prog W 0 (fun _ => true) true 24 v d ps) :
    ∃ l : List UInt16, RowE enc16 W v l := by
  have hc : Try.prog.cellsOf 38 = 1 := by kernel_rfl
  obtain ⟨a0, len, cap, rfl⟩ := okWide_slice Try.underlying24 hval
  obtain ⟨fuel, hf⟩ := h
  rcases open_ints Try.underlying24 Try.underlying38 hc hf with ⟨hcs, _⟩ | ⟨a, len', cap', zs, hcs, _, hl, hm, hz, _, hcell, hwz⟩
  · simp [Value.cells] at hcs
    obtain ⟨rfl, rfl, rfl⟩ := hcs
    exact ⟨[], RowE.nil _ _⟩
  · simp [Value.cells] at hcs
    obtain ⟨rfl, rfl, rfl⟩ := hcs
    simp only [if_true] at hz
    have hll : ((zs.take len).map fun z => UInt16.ofNat z.toNat).length = len := by simp; omega
    refine ⟨(zs.take len).map fun z => UInt16.ofNat z.toNat, ⟨some a, cap, by rw [hll], by omega, hm, fun hp => ?_⟩⟩
    have h0 := hcell 0 (by omega)
    have hspot : a.spot = none := by simpa [Addr.add] using World.cell?_spot h0
    obtain ⟨b, off, spot⟩ := a
    simp only at hspot
    subst hspot
    have hb : b < W.heap.size := World.block_lt_of_cell? _ _ (by rw [addr_plain] at h0; exact h0)
    refine ⟨b, off, rfl, hb, fun j hj => ?_⟩
    have hj' : j < zs.length := by omega
    have h1 := hcell j hj'
    rw [addr_plain] at h1
    have h2 := bounds_u16 (hwz zs[j] (List.getElem_mem hj'))
    have h3 : ((zs[j].toNat % 2 ^ 16 : Nat) : Int) = zs[j] := by omega
    rw [h1, getElem!_pos _ j hj, List.getD_eq_getElem?_getD, List.getElem?_eq_getElem hj', List.getElem_map, List.getElem_take]
    unfold enc16
    rw [UInt16.toNat_ofNat', h3]
    rfl
end Go.Proofs.Ytondgdacjbfihaa
