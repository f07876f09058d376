/-
  Arguments as they come in: a packet.
-/
import Derived.Test.YtlbaockipeojhaaGreatCkRows
import Derived.Test.YtlbaockipeojhaaGreatPkMem
namespace Go.Proofs.YtlbaockipeojhaaGreat
open Go.ChangeShapes Go.WideShapes Go.ChangeAt Go.RowKit Go.Deep
set_option linter.unusedVariables false
set_option linter.unusedSimpArgs false
set_option maxRecDepth 100000

theorem cells16p : Tryz.prog.cellsOf 22 = 1 := by kernel_rfl
theorem cells32p : Tryz.prog.cellsOf 23 = 1 := by kernel_rfl
theorem cellsKs : Tryz.prog.cellsOf 24 = 1 := by kernel_rfl
theorem cellsPk : Tryz.prog.cellsOf 26 = 4 := by kernel_rfl
theorem four_parts8 {α : Type} {l : List α} (h : l.length = 4) : ∃ a b c d, l = [a, b, c, d] := by
  match l, h with
  | [a, b, c, d], _ => exact ⟨a, b, c, d, rfl⟩
section
variable {H : Type} {enc : TypeId × Value → H} {W : World}
theorem chunks_of {fuel : Nat} {cs : List Value} {x : DataW H × List MemPlace} (h : DataW.trod enc Tryz.prog W 0 (fun _ => true) true fuel 24 cs = some x) :
    ∃ (v : Value) (l : List Cv), cs = [v] ∧ RowK W v l ∧ l.length ≤ maxLen ∧ AllC W l := by
  obtain ⟨d, ps⟩ := x
  rcases open_slice Tryz.underlying24 h with ⟨hcs, _⟩ | ⟨a, len, cap, m, n, D, P, hcs, _, hl, hm, hmm, _, hi⟩
  · exact ⟨_, [], hcs, RowK.nil _, by simp [maxLen], fun x hx => by simp at hx⟩
  · simp only [if_true] at hmm
    have each : ∀ i, i < len → ∃ q : Cv, (∀ j u, q.cells.toList[j]? = some u → W.cell? (a.add (i * 14 + j)) = some u) ∧ InC W q.c q.g q.d q.it := by
      intro i hlt
      obtain ⟨cs', h1, h2⟩ := hi i (by omega)
      rw [cellsCk] at h1
      obtain ⟨_, hlen, hcell⟩ := World.cells?_some h1
      obtain ⟨c, g, d, it, e, hin⟩ := chunk_of h2
      refine ⟨⟨c, g, d, it⟩, fun j u hu => ?_, hin⟩
      have hj : j < 14 := by have := (List.getElem?_eq_some_iff.1 hu).1; rw [Cv.size] at this; exact this
      have e0 := hcell j hj
      rw [add_add] at e0
      rw [e0, e]
      exact hu
    obtain ⟨q, hq⟩ := choose_lt each
    have hlen : ((List.range len).map q).length = len := by simp
    refine ⟨_, (List.range len).map q, hcs, ⟨some a, cap, by rw [hlen], by omega, hm, fun hp => ?_⟩, by rw [hlen]; omega, fun x hx => ?_⟩
    · have h0 := (hq 0 (by omega)).1 0 _ rfl
      have hspot : a.spot = none := by simpa [Addr.add] using World.cell?_spot h0
      obtain ⟨b, off, spot⟩ := a
      simp only at hspot
      subst hspot
      have hb : b < W.heap.size := World.block_lt_of_cell? _ _ (by rw [addr_plain] at h0; exact h0)
      refine ⟨b, off, rfl, hb, fun j hj i u hu => ?_⟩
      rw [List.getElem_map, List.getElem_range] at hu
      have := (hq j (by omega)).1 i u hu
      rw [addr_plain] at this
      rw [← this, Nat.add_assoc]
    · obtain ⟨i, hi', rfl⟩ := List.mem_map.1 hx
      exact (hq i (by simpa using hi')).2
/-- What is known of a packet that comes in. -/
structure InP (W : World) (f t g : Nat) (V : Value) (l : List Cv) : Prop where
  f : f < 65536
  t : t < 65536
  g : g < 4294967296
  row : RowK W V l
  len : l.length ≤ maxLen
  all : AllC W l
theorem packet_in {v : Value} {d : DataW H} {ps : List MemPlace} {base : Nat} (hval : Value.okWide Tryz.prog W .any base 26 v) (h : DataW.Trod enc Tryz.prog W 0 (fun _ => true) true 26 v d ps) :
    ∃ (f t g : Nat) (V : Value) (l : List Cv), v = .agg (cellsP f t g V) ∧ InP W f t g V l := by
  obtain ⟨cs, rfl, _⟩ := okWide_struct Tryz.underlying26 hval
  obtain ⟨fuel, hf⟩ := h
  obtain ⟨xs, n, _, _, hcl, hlen, hg⟩ := DataW.trod_struct Tryz.underlying26 hf
  rw [cellsPk] at hcl
  obtain ⟨c0, c1, c2, c3, hcs⟩ := four_parts8 (l := cs.toList) (by simpa [Value.cells] using hcl)
  obtain ⟨y0, y1, y2, y3, rfl⟩ := four_parts8 (l := xs) (by simpa using hlen)
  have hcs' : (Value.agg cs).cells.toList = [c0, c1, c2, c3] := hcs
  rw [hcs'] at hg
  have g0 : DataW.trod enc Tryz.prog W 0 (fun _ => true) true n 22 [c0] = some y0 := by simpa [cells16p, cells32p, cellsKs] using hg 0 _ rfl
  have g1 : DataW.trod enc Tryz.prog W 0 (fun _ => true) true n 22 [c1] = some y1 := by simpa [cells16p, cells32p, cellsKs] using hg 1 _ rfl
  have g2 : DataW.trod enc Tryz.prog W 0 (fun _ => true) true n 23 [c2] = some y2 := by simpa [cells16p, cells32p, cellsKs] using hg 2 _ rfl
  have g3 : DataW.trod enc Tryz.prog W 0 (fun _ => true) true n 24 [c3] = some y3 := by simpa [cells16p, cells32p, cellsKs] using hg 3 _ rfl
  obtain ⟨n0, e0, _, w0⟩ := DataW.trod_int Tryz.underlying22 g0
  injection e0 with e0
  subst e0
  obtain ⟨m0, rfl, b0⟩ := nat_u16 w0
  obtain ⟨n1, e1, _, w1⟩ := DataW.trod_int Tryz.underlying22 g1
  injection e1 with e1
  subst e1
  obtain ⟨m1, rfl, b1⟩ := nat_u16 w1
  obtain ⟨n2, e2, _, w2⟩ := DataW.trod_int Tryz.underlying23 g2
  injection e2 with e2
  subst e2
  obtain ⟨m2, rfl, b2⟩ := nat_u32 w2
  obtain ⟨V, l, eV, hr, hl, ha⟩ := chunks_of g3
  injection eV with eV
  subst eV
  refine ⟨m0, m1, m2, _, l, ?_, ⟨b0, b1, b2, hr, hl, ha⟩⟩
  congr 1
  exact Array.toList_inj.1 hcs
end
end Go.Proofs.YtlbaockipeojhaaGreat
