/-
  Gots and numbers as they come in.
-/
import Derived.Test.YtfdnphkdpmlbnaaLift
import Derived.Test.YtfdnphkdpmlbnaaGp
namespace Go.Proofs.Ytfdnphkdpmlbnaa
open Go.ChangeShapes Go.WideShapes Go.ChangeAt Go.RowKit
set_option linter.unusedVariables false
set_option linter.unusedSimpArgs false
set_option maxRecDepth 100000

theorem gcellsG : Try.prog.cellsOf 25 = 3 := by kernel_rfl
theorem gcellsU : Try.prog.cellsOf 22 = 1 := by kernel_rfl
theorem gcellsS : Try.prog.cellsOf 23 = 1 := by kernel_rfl
theorem three13 {α : Type} {l : List α} (h : l.length = 3) : ∃ a b c, l = [a, b, c] := by
  match l, h with
  | [a, b, c], _ => exact ⟨a, b, c, rfl⟩
section
variable {H : Type} {enc : TypeId × Value → H} {W : World}
theorem nums_of {fuel : Nat} {cs : List Value} {x : DataW H × List MemPlace} (h : DataW.trod enc Try.prog W 0 (fun _ => true) true fuel 23 cs = some x) :
    ∃ (v : Value) (l : List UInt32), cs = [v] ∧ RowE enc32 W v l := by
  obtain ⟨d, ps⟩ := x
  have ht := Try.underlying23
  have he := Try.underlying22
  have hc := gcellsU
  have hf := h
  rcases open_ints ht he hc hf with ⟨hcs, _⟩ | ⟨a, len, cap, zs, hcs, _, hl, hm, hz, _, hcell, hwz⟩
  · exact ⟨_, [], hcs, RowE.nil _ _⟩
  · simp only [if_true] at hz
    let l : List UInt32 := (zs.take len).map fun z => UInt32.ofNat z.toNat
    have hll : l.length = len := by simp [l]; omega
    refine ⟨_, l, hcs, some a, cap, by rw [hll], by omega, hm, fun hp => ?_⟩
    have h0 := hcell 0 (by omega)
    have hspot : a.spot = none := by simpa [Addr.add] using World.cell?_spot h0
    obtain ⟨b, off, spot⟩ := a
    simp only at hspot
    subst hspot
    have hb : b < W.heap.size := World.block_lt_of_cell? _ _ (by rw [addr_plain] at h0; exact h0)
    refine ⟨b, off, rfl, hb, fun j hj => ?_⟩
    have hj' : j < zs.length := by omega
    have h1 := hcell j hj'
    rw [addr_plain] at h1
    rw [h1]
    have hw := bounds_u32 (hwz (zs.getD j 0) (by rw [List.getD_eq_getElem?_getD, List.getElem?_eq_getElem hj']; exact List.getElem_mem hj'))
    have e1 : l[j]! = UInt32.ofNat (zs.getD j 0).toNat := by
      rw [getElem!_pos l j (by omega)]
      simp [l, List.getElem?_eq_getElem hj']
    rw [e1]
    unfold enc32
    rw [UInt32.toNat_ofNat_of_lt' (by show (zs.getD j 0).toNat < 4294967296; omega)]
    congr 2
    omega
/-- A number of 32 bits, as it comes in. -/

theorem got_in {v : Value} {d : DataW H} {ps : List MemPlace} {base : Nat} (hval : Value.okWide Try.prog W .any base 25 v) (h : DataW.Trod enc Try.prog W 0 (fun _ => true) true 25 v d ps) :
    ∃ (c : UInt32) (ab du : List UInt32) (va vd : Value), v = .agg #[.int .u32 (c.toNat : Int), va, vd] ∧ RowE enc32 W va ab ∧ RowE enc32 W vd du := by
  obtain ⟨cs, rfl, _⟩ := okWide_struct Try.underlying25 hval
  obtain ⟨fuel, hf⟩ := h
  obtain ⟨xs, n, _, _, hcl, hlen, hg⟩ := DataW.trod_struct Try.underlying25 hf
  rw [gcellsG] at hcl
  obtain ⟨c0, c1, c2, hcs⟩ := three13 (l := cs.toList) (by simpa [Value.cells] using hcl)
  obtain ⟨y0, y1, y2, rfl⟩ := three13 (l := xs) (by simpa using hlen)
  have hcs' : (Value.agg cs).cells.toList = [c0, c1, c2] := hcs
  rw [hcs'] at hg
  have g0 : DataW.trod enc Try.prog W 0 (fun _ => true) true n 22 [c0] = some y0 := by simpa [gcellsU, gcellsS] using hg 0 _ rfl
  have g1 : DataW.trod enc Try.prog W 0 (fun _ => true) true n 23 [c1] = some y1 := by simpa [gcellsU, gcellsS] using hg 1 _ rfl
  have g2 : DataW.trod enc Try.prog W 0 (fun _ => true) true n 23 [c2] = some y2 := by simpa [gcellsU, gcellsS] using hg 2 _ rfl
  obtain ⟨n1, e1, _, w1⟩ := DataW.trod_int Try.underlying22 g0
  injection e1 with e1; subst e1
  obtain ⟨u, _, hu⟩ := u32_of n1 w1
  subst hu
  obtain ⟨v1, l1, e1, r1⟩ := nums_of g1
  injection e1 with e1; subst e1
  obtain ⟨v2, l2, e2, r2⟩ := nums_of g2
  injection e2 with e2; subst e2
  refine ⟨u, l1, l2, c1, c2, ?_, r1, r2⟩
  congr 1
  exact Array.toList_inj.1 hcs
end
end Go.Proofs.Ytfdnphkdpmlbnaa
