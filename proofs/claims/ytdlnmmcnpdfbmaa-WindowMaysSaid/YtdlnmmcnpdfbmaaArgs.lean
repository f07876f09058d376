/-
  Arguments as they come in: a window, a list of numbers.
-/
import Derived.Test.YtdlnmmcnpdfbmaaLift
import Derived.Test.YtdlnmmcnpdfbmaaWnC
import Derived.Deep.Fields
namespace Go.Proofs.Ytdlnmmcnpdfbmaa
open Go.ChangeShapes Go.WideShapes Go.ChangeAt Go.RowKit Go.Deep
set_option linter.unusedVariables false
set_option linter.unusedSimpArgs false

theorem window_list {α : Type} {l : List α} (h : l.length = 3) : ∃ c0 c1 c2, l = [c0, c1, c2] := by
  match l, h with
  | [c0, c1, c2], _ => exact ⟨c0, c1, c2, rfl⟩
theorem window_ncells : Try.prog.cellsOf 25 = 3 := by kernel_rfl
theorem window_one0 : Try.prog.cellsOf 3 = 1 := by kernel_rfl
section
variable {H : Type} {enc : TypeId × Value → H} {w : World} {base : Nat} {spare : Nat → Bool} {held : Bool}
set_option maxHeartbeats 1000000 in
theorem window_trod {fuel : Nat} {cs : List Value} {x : DataW H × List MemPlace} (hf : DataW.trod enc Try.prog w base spare held fuel 25 cs = some x) : ∃ s : Wn, cs = (cellsT s).toList ∧ WfW s := by
  obtain ⟨xs, n, _, _, hsz, hlen, hg⟩ := DataW.trod_struct Try.underlying25 hf
  rw [window_ncells] at hsz
  obtain ⟨c0, c1, c2, rfl⟩ := window_list hsz
  obtain ⟨y0, y1, y2, rfl⟩ := window_list (l := xs) (by simpa using hlen)
  have g0 : DataW.trod enc Try.prog w base spare held n 3 [c0] = some y0 := by simpa [window_one0, Value.cells] using hg 0 _ rfl
  have g1 : DataW.trod enc Try.prog w base spare held n 3 [c1] = some y1 := by simpa [window_one0, Value.cells] using hg 1 _ rfl
  have g2 : DataW.trod enc Try.prog w base spare held n 3 [c2] = some y2 := by simpa [window_one0, Value.cells] using hg 2 _ rfl
  obtain ⟨n0, e0, _, w0⟩ := DataW.trod_int Try.underlying3 g0
  injection e0 with e0
  subst e0
  have b0 := bounds_i64 w0
  obtain ⟨n1, e1, _, w1⟩ := DataW.trod_int Try.underlying3 g1
  injection e1 with e1
  subst e1
  have b1 := bounds_i64 w1
  obtain ⟨n2, e2, _, w2⟩ := DataW.trod_int Try.underlying3 g2
  injection e2 with e2
  subst e2
  have b2 := bounds_i64 w2
  exact ⟨⟨n0, n1, n2⟩, rfl, ⟨b0, b1, b2⟩⟩
set_option maxRecDepth 100000 in
theorem window_in {r : Reach} {b0 : Nat} {v : Value} {d : DataW H} {p : List MemPlace} (hv : Value.okWide Try.prog w r b0 25 v) (h : DataW.Trod enc Try.prog w base spare held 25 v d p) :
    ∃ s : Wn, v = .agg (cellsT s) ∧ WfW s := by
  obtain ⟨cs, rfl, _⟩ := okWide_struct Try.underlying25 hv
  obtain ⟨fuel, hf⟩ := h
  obtain ⟨s, e, hs⟩ := window_trod hf
  refine ⟨s, ?_, hs⟩
  have e' : cs.toList = (cellsT s).toList := e
  rw [Array.toList_inj.1 e']
end
def encI (n : Int) : Value := .int .i64 n
/-- A list of numbers, as it comes in. -/
theorem ints_in {H : Type} {enc : TypeId × Value → H} {W : World} {v : Value} {d : DataW H} {ps : List MemPlace} {base : Nat} (hval : Value.okWide Try.prog W .any base 22 v) (h : DataW.Trod enc Try.prog W 0 (fun _ => true) true 22 v d ps) :
    ∃ l : List Int, RowE encI W v l ∧ ∀ n ∈ l, -9223372036854775808 ≤ n ∧ n ≤ 9223372036854775807 := by
  have hc : Try.prog.cellsOf 3 = 1 := by kernel_rfl
  obtain ⟨a0, len, cap, rfl⟩ := okWide_slice Try.underlying22 hval
  obtain ⟨fuel, hf⟩ := h
  rcases open_ints Try.underlying22 Try.underlying3 hc hf with ⟨hcs, _⟩ | ⟨a, len', cap', zs, hcs, _, hl, hm, hz, _, hcell, hwz⟩
  · simp [Value.cells] at hcs
    obtain ⟨rfl, rfl, rfl⟩ := hcs
    exact ⟨[], RowE.nil _ _, by simp⟩
  · simp [Value.cells] at hcs
    obtain ⟨rfl, rfl, rfl⟩ := hcs
    simp only [if_true] at hz
    have hll : (zs.take len).length = len := by simp; omega
    refine ⟨zs.take len, ⟨some a, cap, by rw [hll], by omega, hm, fun hp => ?_⟩, fun s hs => bounds_i64 (hwz s (List.mem_of_mem_take hs))⟩
    have h0 := hcell 0 (by omega)
    have hspot : a.spot = none := by simpa [Addr.add] using World.cell?_spot h0
    obtain ⟨b, off, spot⟩ := a
    simp only at hspot
    subst hspot
    have hb : b < W.heap.size := World.block_lt_of_cell? _ _ (by rw [addr_plain] at h0; exact h0)
    refine ⟨b, off, rfl, hb, fun j hj => ?_⟩
    have hj' : j < zs.length := by omega
    have h1 := hcell j hj'
    rw [addr_plain] at h1
    rw [h1, getElem!_pos _ j (by omega), List.getD_eq_getElem?_getD, List.getElem?_eq_getElem hj']
    simp [encI]
end Go.Proofs.Ytdlnmmcnpdfbmaa
