/-
  Messages, numbers and acts, as they come in.
-/
import Derived.Test.YtondgdacjbfihaaLift
import Derived.Test.YtondgdacjbfihaaOz
import Derived.Deep.Fields
import Derived.Deep.Slices
import Derived.SliceStrings
namespace Go.Proofs.Ytondgdacjbfihaa
open Go.ChangeShapes Go.WideShapes Go.ChangeAt Go.RowKit Go.Deep
set_option linter.unusedVariables false
set_option linter.unusedSimpArgs false
set_option maxRecDepth 100000

theorem choose_lt {α : Type} {n : Nat} [Inhabited α] {P : Nat → α → Prop} (h : ∀ i, i < n → ∃ q, P i q) : ∃ q : Nat → α, ∀ i, i < n → P i (q i) := by
  refine ⟨fun i => if hi : i < n then Classical.choose (h i hi) else default, fun i hi => ?_⟩
  simp only [hi, dif_pos]
  exact Classical.choose_spec (h i hi)
theorem num32 {n : Int} (h0 : 0 ≤ n) (h1 : n ≤ 4294967295) : ∃ u : UInt32, n = (u.toNat : Int) := ⟨UInt32.ofNat n.toNat, by rw [UInt32.toNat_ofNat']; omega⟩
theorem num16 {n : Int} (h0 : 0 ≤ n) (h1 : n ≤ 65535) : ∃ u : UInt16, n = (u.toNat : Int) := ⟨UInt16.ofNat n.toNat, by rw [UInt16.toNat_ofNat']; omega⟩
theorem six6 {α : Type} {l : List α} (h : l.length = 6) : ∃ c0 c1 c2 c3 c4 c5, l = [c0, c1, c2, c3, c4, c5] := by
  match l, h with
  | [c0, c1, c2, c3, c4, c5], _ => exact ⟨c0, c1, c2, c3, c4, c5, rfl⟩
theorem scellsP : Try.prog.cellsOf 40 = 6 := by kernel_rfl
theorem sone_U : Try.prog.cellsOf 37 = 1 := by kernel_rfl
theorem sone_H : Try.prog.cellsOf 38 = 1 := by kernel_rfl
theorem sone_B : Try.prog.cellsOf 4 = 1 := by kernel_rfl
theorem sone_S : Try.prog.cellsOf 9 = 1 := by kernel_rfl
def WfMg (x : Mg) : Prop := x.tx.size ≤ maxLen
section
variable {H : Type} {enc : TypeId × Value → H} {w : World} {base : Nat} {spare : Nat → Bool} {held : Bool}
set_option maxHeartbeats 4000000 in
theorem mg_trod {fuel : Nat} {cs : List Value} {x : DataW H × List MemPlace} (hf : DataW.trod enc Try.prog w base spare held fuel 40 cs = some x) : ∃ y : Mg, cs = (cellsMg y).toList ∧ WfMg y := by
  obtain ⟨xs, n, _, _, hsz, hlen, hg⟩ := DataW.trod_struct Try.underlying40 hf
  rw [scellsP] at hsz
  obtain ⟨c0, c1, c2, c3, c4, c5, rfl⟩ := six6 hsz
  obtain ⟨y0, y1, y2, y3, y4, y5, rfl⟩ := six6 (l := xs) (by simpa using hlen)
  have g0 : DataW.trod enc Try.prog w base spare held n 37 [c0] = some y0 := by simpa [sone_U, sone_H, sone_B, sone_S, Value.cells] using hg 0 _ rfl
  have g1 : DataW.trod enc Try.prog w base spare held n 4 [c1] = some y1 := by simpa [sone_U, sone_H, sone_B, sone_S, Value.cells] using hg 1 _ rfl
  have g2 : DataW.trod enc Try.prog w base spare held n 38 [c2] = some y2 := by simpa [sone_U, sone_H, sone_B, sone_S, Value.cells] using hg 2 _ rfl
  have g3 : DataW.trod enc Try.prog w base spare held n 38 [c3] = some y3 := by simpa [sone_U, sone_H, sone_B, sone_S, Value.cells] using hg 3 _ rfl
  have g4 : DataW.trod enc Try.prog w base spare held n 37 [c4] = some y4 := by simpa [sone_U, sone_H, sone_B, sone_S, Value.cells] using hg 4 _ rfl
  have g5 : DataW.trod enc Try.prog w base spare held n 9 [c5] = some y5 := by simpa [sone_U, sone_H, sone_B, sone_S, Value.cells] using hg 5 _ rfl
  obtain ⟨n0, e0, _, w0⟩ := DataW.trod_int Try.underlying37 g0
  injection e0 with e0; subst e0
  have b0 := bounds_u32 w0
  obtain ⟨m0, rfl⟩ := num32 b0.1 b0.2
  obtain ⟨n1, e1, _⟩ := DataW.trod_bool Try.underlying4 g1
  injection e1 with e1; subst e1
  obtain ⟨n2, e2, _, w2⟩ := DataW.trod_int Try.underlying38 g2
  injection e2 with e2; subst e2
  have b2 := bounds_u16 w2
  obtain ⟨m2, rfl⟩ := num16 b2.1 b2.2
  obtain ⟨n3, e3, _, w3⟩ := DataW.trod_int Try.underlying38 g3
  injection e3 with e3; subst e3
  have b3 := bounds_u16 w3
  obtain ⟨m3, rfl⟩ := num16 b3.1 b3.2
  obtain ⟨n4, e4, _, w4⟩ := DataW.trod_int Try.underlying37 g4
  injection e4 with e4; subst e4
  have b4 := bounds_u32 w4
  obtain ⟨m4, rfl⟩ := num32 b4.1 b4.2
  obtain ⟨n5, e5, _, w5⟩ := DataW.trod_string Try.underlying9 g5
  injection e5 with e5; subst e5
  exact ⟨⟨m0, n1, m2, m3, m4, n5⟩, rfl, w5⟩
theorem msg_in {r : Go.Reach} {b0 : Nat} {v : Value} {d : DataW H} {p : List MemPlace} (hv : Value.okWide Try.prog w r b0 40 v) (h : DataW.Trod enc Try.prog w base spare held 40 v d p) :
    ∃ s : Mg, v = .agg (cellsMg s) ∧ WfMg s := by
  obtain ⟨cs, rfl, _⟩ := okWide_struct Try.underlying40 hv
  obtain ⟨fuel, hf⟩ := h
  obtain ⟨s, e, hs⟩ := mg_trod hf
  refine ⟨s, ?_, hs⟩
  have e' : cs.toList = (cellsMg s).toList := e
  rw [Array.toList_inj.1 e']
end
section
variable {H : Type} {enc : TypeId × Value → H} {W : World}
theorem msgs_in {v : Value} {d : DataW H} {ps : List MemPlace} {base : Nat} (hval : Value.okWide Try.prog W .any base 25 v) (h : DataW.Trod enc Try.prog W 0 (fun _ => true) true 25 v d ps) :
    ∃ l : List Mg, RowM W v l ∧ (∀ x ∈ l, WfMg x) := by
  obtain ⟨a0, len, cap, rfl⟩ := okWide_slice Try.underlying25 hval
  obtain ⟨fuel, hf⟩ := h
  rcases open_slice Try.underlying25 hf with ⟨hcs, _⟩ | ⟨a, len', cap', m, n, D, P, hcs, _, hl, hm, hmm, _, hi⟩
  · simp [Value.cells] at hcs
    obtain ⟨rfl, rfl, rfl⟩ := hcs
    exact ⟨[], RowM.nil _, fun x hx => by simp at hx⟩
  · simp [Value.cells] at hcs
    obtain ⟨rfl, rfl, rfl⟩ := hcs
    simp only [if_true] at hmm
    have each : ∀ i, i < len → ∃ q : Mg, (∀ j u, (cellsMg q).toList[j]? = some u → W.cell? (a.add (i * 6 + j)) = some u) ∧ WfMg q := by
      intro i hlt
      obtain ⟨cs', h1, h2⟩ := hi i (by omega)
      rw [scellsP] at h1
      obtain ⟨_, hlen, hcell⟩ := World.cells?_some h1
      obtain ⟨q, e, hin⟩ := mg_trod h2
      refine ⟨q, fun j u hu => ?_, hin⟩
      have hj : j < 6 := by have := (List.getElem?_eq_some_iff.1 hu).1; rw [lenMg] at this; exact this
      have e0 := hcell j hj
      rw [add_add] at e0
      rw [e0, e]
      exact hu
    obtain ⟨q, hq⟩ := choose_lt each
    have hlen : ((List.range len).map q).length = len := by simp
    refine ⟨(List.range len).map q, ⟨some a, cap, by rw [hlen], by omega, hm, fun hp => ?_⟩, fun x hx => ?_⟩
    · have h0 := (hq 0 (by omega)).1 0 _ rfl
      have hspot : a.spot = none := by simpa [Addr.add] using World.cell?_spot h0
      obtain ⟨b, off, spot⟩ := a
      simp only at hspot
      subst hspot
      have hb : b < W.heap.size := World.block_lt_of_cell? _ _ (by rw [addr_plain] at h0; exact h0)
      refine ⟨b, off, rfl, hb, fun j hj i u hu => ?_⟩
      rw [List.getElem_map, List.getElem_range] at hu
      have := (hq j (by omega)).1 i u hu
      rw [addr_plain] at this
      rw [← this, Nat.add_assoc]
    · obtain ⟨i, hi', rfl⟩ := List.mem_map.1 hx
      exact (hq i (by simpa using hi')).2
end
def encI (n : Int) : Value := .int .i64 n
/-- A list of numbers, as it comes in. -/
theorem ints_in {H : Type} {enc : TypeId × Value → H} {W : World} {v : Value} {d : DataW H} {ps : List MemPlace} {base : Nat} (hval : Value.okWide Try.prog W .any base 59 v) (h : DataW.Trod enc Try.prog W 0 (fun _ => true) true 59 v d ps) :
    ∃ l : List Int, RowE encI W v l ∧ ∀ n ∈ l, -9223372036854775808 ≤ n ∧ n ≤ 9223372036854775807 := by
  have hc : Try.prog.cellsOf 3 = 1 := by kernel_rfl
  obtain ⟨a0, len, cap, rfl⟩ := okWide_slice Try.underlying59 hval
  obtain ⟨fuel, hf⟩ := h
  rcases open_ints Try.underlying59 Try.underlying3 hc hf with ⟨hcs, _⟩ | ⟨a, len', cap', zs, hcs, _, hl, hm, hz, _, hcell, hwz⟩
  · simp [Value.cells] at hcs
    obtain ⟨rfl, rfl, rfl⟩ := hcs
    exact ⟨[], RowE.nil _ _, by simp⟩
  · simp [Value.cells] at hcs
    obtain ⟨rfl, rfl, rfl⟩ := hcs
    simp only [if_true] at hz
    have hll : (zs.take len).length = len := by simp; omega
    refine ⟨zs.take len, ⟨some a, cap, by rw [hll], by omega, hm, fun hp => ?_⟩, fun s hs => bounds_i64 (hwz s (List.mem_of_mem_take hs))⟩
    have h0 := hcell 0 (by omega)
    have hspot : a.spot = none := by simpa [Addr.add] using World.cell?_spot h0
    obtain ⟨b, off, spot⟩ := a
    simp only at hspot
    subst hspot
    have hb : b < W.heap.size := World.block_lt_of_cell? _ _ (by rw [addr_plain] at h0; exact h0)
    refine ⟨b, off, rfl, hb, fun j hj => ?_⟩
    have hj' : j < zs.length := by omega
    have h1 := hcell j hj'
    rw [addr_plain] at h1
    rw [h1, getElem!_pos _ j (by omega), List.getD_eq_getElem?_getD, List.getElem?_eq_getElem hj']
    simp [encI]
end Go.Proofs.Ytondgdacjbfihaa
