/-
  Arguments as they come in: what is under way; rows of gaps, of acts, of numbers.
-/
import Derived.Test.YtpgdofhnpiefjaaLift
import Derived.Test.YtpgdofhnpiefjaaSt
import Derived.Deep.Fields
import Derived.Deep.Slices
import Derived.SliceStrings
namespace Go.Proofs.Ytpgdofhnpiefjaa
open Go.ChangeShapes Go.WideShapes Go.ChangeAt Go.RowKit Go.Deep
set_option linter.unusedVariables false
set_option linter.unusedSimpArgs false
set_option maxRecDepth 100000

theorem choose_lt {α : Type} {n : Nat} [Inhabited α] {P : Nat → α → Prop} (h : ∀ i, i < n → ∃ q, P i q) : ∃ q : Nat → α, ∀ i, i < n → P i (q i) := by
  refine ⟨fun i => if hi : i < n then Classical.choose (h i hi) else default, fun i hi => ?_⟩
  simp only [hi, dif_pos]
  exact Classical.choose_spec (h i hi)
theorem scells : Try.prog.cellsOf 58 = 7 := by kernel_rfl
theorem scellsS : Try.prog.cellsOf 27 = 2 := by kernel_rfl
theorem scellsI : Try.prog.cellsOf 3 = 1 := by kernel_rfl
theorem scellsU : Try.prog.cellsOf 22 = 1 := by kernel_rfl
theorem scellsL : Try.prog.cellsOf 25 = 1 := by kernel_rfl
theorem scellsG : Try.prog.cellsOf 37 = 2 := by kernel_rfl
theorem scells16 : Try.prog.cellsOf 36 = 1 := by kernel_rfl
theorem sbytes : Try.prog.bytesOf 58 = 56 := by kernel_rfl
theorem seven7 {α : Type} {l : List α} (h : l.length = 7) : ∃ a b c d e f g, l = [a, b, c, d, e, f, g] := by
  match l, h with
  | [a, b, c, d, e, f, g], _ => exact ⟨a, b, c, d, e, f, g, rfl⟩
theorem two2 {α : Type} {l : List α} (h : l.length = 2) : ∃ a b, l = [a, b] := by
  match l, h with
  | [a, b], _ => exact ⟨a, b, rfl⟩
theorem six6 {α : Type} {l : List α} (h : l.length = 6) : ∃ a b c d e f, l = [a, b, c, d, e, f] := by
  match l, h with
  | [a, b, c, d, e, f], _ => exact ⟨a, b, c, d, e, f, rfl⟩
theorem u32_num {n : Int} (h0 : 0 ≤ n) (h1 : n ≤ 4294967295) : ∃ u : UInt32, n = (u.toNat : Int) := ⟨UInt32.ofNat n.toNat, by rw [UInt32.toNat_ofNat']; omega⟩
section
variable {H : Type} {enc : TypeId × Value → H} {w : World} {base : Nat} {spare : Nat → Bool} {held : Bool}
set_option maxHeartbeats 4000000 in
theorem pc_trod {fuel : Nat} {cs : List Value} {x : DataW H × List MemPlace} (hf : DataW.trod enc Try.prog w base spare held fuel 58 cs = some x) : ∃ y : Pc, cs = (cellsPc y).toList ∧ WfPc y := by
  obtain ⟨xs, n, _, _, hsz, hlen, hg⟩ := DataW.trod_struct Try.underlying58 hf
  rw [scells] at hsz
  obtain ⟨a, b, c, d, e, f, g, rfl⟩ := seven7 hsz
  obtain ⟨y0, y1, y2, y3, y4, y5, y6, rfl⟩ := seven7 (l := xs) (by simpa using hlen)
  have g0 : DataW.trod enc Try.prog w base spare held n 22 [a] = some y0 := by simpa [scellsI, scellsU, Value.cells] using hg 0 _ rfl
  have g1 : DataW.trod enc Try.prog w base spare held n 3 [b] = some y1 := by simpa [scellsI, scellsU, Value.cells] using hg 1 _ rfl
  have g2 : DataW.trod enc Try.prog w base spare held n 3 [c] = some y2 := by simpa [scellsI, scellsU, Value.cells] using hg 2 _ rfl
  have g3 : DataW.trod enc Try.prog w base spare held n 3 [d] = some y3 := by simpa [scellsI, scellsU, Value.cells] using hg 3 _ rfl
  have g4 : DataW.trod enc Try.prog w base spare held n 3 [e] = some y4 := by simpa [scellsI, scellsU, Value.cells] using hg 4 _ rfl
  have g5 : DataW.trod enc Try.prog w base spare held n 3 [f] = some y5 := by simpa [scellsI, scellsU, Value.cells] using hg 5 _ rfl
  have g6 : DataW.trod enc Try.prog w base spare held n 3 [g] = some y6 := by simpa [scellsI, scellsU, Value.cells] using hg 6 _ rfl
  obtain ⟨n0, e0, _, v0⟩ := DataW.trod_int Try.underlying22 g0
  injection e0 with e0; subst e0
  have b0 := bounds_u32 v0
  obtain ⟨n1, e1, _, v1⟩ := DataW.trod_int Try.underlying3 g1
  injection e1 with e1; subst e1
  have b1 := bounds_i64 v1
  obtain ⟨n2, e2, _, v2⟩ := DataW.trod_int Try.underlying3 g2
  injection e2 with e2; subst e2
  have b2 := bounds_i64 v2
  obtain ⟨n3, e3, _, v3⟩ := DataW.trod_int Try.underlying3 g3
  injection e3 with e3; subst e3
  have b3 := bounds_i64 v3
  obtain ⟨n4, e4, _, v4⟩ := DataW.trod_int Try.underlying3 g4
  injection e4 with e4; subst e4
  have b4 := bounds_i64 v4
  obtain ⟨n5, e5, _, v5⟩ := DataW.trod_int Try.underlying3 g5
  injection e5 with e5; subst e5
  have b5 := bounds_i64 v5
  obtain ⟨n6, e6, _, v6⟩ := DataW.trod_int Try.underlying3 g6
  injection e6 with e6; subst e6
  have b6 := bounds_i64 v6
  obtain ⟨ts, rfl⟩ := u32_num (n := n0) (by omega) (by omega)
  exact ⟨⟨ts, n1, n2, n3, n4, n5, n6⟩, rfl, ⟨b1, b2, b3, b4, b5, b6⟩⟩
set_option maxHeartbeats 4000000 in
theorem gp_trod {fuel : Nat} {cs : List Value} {x : DataW H × List MemPlace} (hf : DataW.trod enc Try.prog w base spare held fuel 37 cs = some x) : ∃ y : Nat × Nat, cs = (cellsGp y).toList ∧ y.1 < 65536 ∧ y.2 < 65536 := by
  obtain ⟨xs, n, _, _, hsz, hlen, hg⟩ := DataW.trod_array Try.underlying37 hf
  rw [scellsG] at hsz
  obtain ⟨a, b, rfl⟩ := two2 hsz
  obtain ⟨y0, y1, rfl⟩ := two2 (l := xs) (by simpa using hlen)
  have g0 : DataW.trod enc Try.prog w base spare held n 36 [a] = some y0 := by simpa [scells16, Value.cells] using hg 0 (by decide)
  have g1 : DataW.trod enc Try.prog w base spare held n 36 [b] = some y1 := by simpa [scells16, Value.cells] using hg 1 (by decide)
  obtain ⟨n0, e0, _, v0⟩ := DataW.trod_int Try.underlying36 g0
  injection e0 with e0; subst e0
  have b0 := bounds_u16 v0
  obtain ⟨n1, e1, _, v1⟩ := DataW.trod_int Try.underlying36 g1
  injection e1 with e1; subst e1
  have b1 := bounds_u16 v1
  refine ⟨(n0.toNat, n1.toNat), ?_, by show n0.toNat < 65536; omega, by show n1.toNat < 65536; omega⟩
  simp only [cellsGp]
  rw [show ((n0.toNat : Nat) : Int) = n0 by omega, show ((n1.toNat : Nat) : Int) = n1 by omega]
end
section
variable {H : Type} {enc : TypeId × Value → H} {W : World}
theorem pcs_of {fuel : Nat} {cs : List Value} {x : DataW H × List MemPlace} (h : DataW.trod enc Try.prog W 0 (fun _ => true) true fuel 25 cs = some x) :
    ∃ (v : Value) (l : List Pc), cs = [v] ∧ RowP W v l ∧ (∀ y ∈ l, WfPc y) ∧ ((∀ n ∈ x.1.weights Try.prog 25, n ≤ reachBytes) → l.length * 56 ≤ reachBytes) := by
  rcases open_slice Try.underlying25 h with ⟨hcs, _⟩ | ⟨a, len, cap, m, n, D, P, hcs, _, hl, hm, hmm, hx, hi⟩
  · exact ⟨_, [], hcs, RowP.nil _, fun x hx => by simp at hx, fun _ => by simp [reachBytes]⟩
  · simp only [if_true] at hmm
    have each : ∀ i, i < len → ∃ q : Pc, (∀ j u, (cellsPc q).toList[j]? = some u → W.cell? (a.add (i * 7 + j)) = some u) ∧ WfPc q := by
      intro i hlt
      obtain ⟨cs', h1, h2⟩ := hi i (by omega)
      rw [scells] at h1
      obtain ⟨_, hlen, hcell⟩ := World.cells?_some h1
      obtain ⟨c, e, hin⟩ := pc_trod h2
      refine ⟨c, fun j u hu => ?_, hin⟩
      have hj : j < 7 := by have := (List.getElem?_eq_some_iff.1 hu).1; rw [lenPc] at this; exact this
      have e0 := hcell j hj
      rw [add_add] at e0
      rw [e0, e]
      exact hu
    obtain ⟨q, hq⟩ := choose_lt each
    have hlen : ((List.range len).map q).length = len := by simp
    refine ⟨_, (List.range len).map q, hcs, ⟨some a, cap, by rw [hlen], by omega, hm, fun hp => ?_⟩, fun x hx => ?_, fun hw => ?_⟩
    · have h0 := (hq 0 (by omega)).1 0 _ rfl
      have hspot : a.spot = none := by simpa [Addr.add] using World.cell?_spot h0
      obtain ⟨b, off, spot⟩ := a
      simp only at hspot
      subst hspot
      have hb : b < W.heap.size := World.block_lt_of_cell? _ _ (by rw [addr_plain] at h0; exact h0)
      refine ⟨b, off, rfl, hb, fun j hj i u hu => ?_⟩
      rw [List.getElem_map, List.getElem_range] at hu
      have := (hq j (by omega)).1 i u hu
      rw [addr_plain] at this
      rw [← this, Nat.add_assoc]
    · obtain ⟨i, hi', rfl⟩ := List.mem_map.1 hx
      exact (hq i (by simpa using hi')).2
    · rw [hx] at hw
      have h9 := hw ((((List.range len).map D).length + ((List.range (m - len)).map fun j => D (len + j)).length) * Try.prog.bytesOf 58) (by simp [DataW.weights, Try.underlying25])
      rw [sbytes] at h9
      simp only [List.length_map, List.length_range] at h9 ⊢
      refine Nat.le_trans (Nat.mul_le_mul_right 56 ?_) h9
      omega
theorem sent_in {v : Value} {d : DataW H} {ps : List MemPlace} {base : Nat} (hval : Value.okWide Try.prog W .any base 27 v) (h : DataW.Trod enc Try.prog W 0 (fun _ => true) true 27 v d ps) :
    ∃ (c : UInt32) (V : Value) (l : List Pc), v = .agg #[.int .u32 (c.toNat : Int), V] ∧ RowP W V l ∧ (∀ y ∈ l, WfPc y) ∧ ((∀ n ∈ d.weights Try.prog 27, n ≤ reachBytes) → l.length * 56 ≤ 140737488351232) := by
  obtain ⟨cs, rfl, _⟩ := okWide_struct Try.underlying27 hval
  obtain ⟨fuel, hf⟩ := h
  obtain ⟨xs, n, _, hx, hcl, hlen, hg⟩ := DataW.trod_struct Try.underlying27 hf
  rw [scellsS] at hcl
  obtain ⟨c0, c1, hcs⟩ := two2 (l := cs.toList) (by simpa [Value.cells] using hcl)
  obtain ⟨y0, y1, rfl⟩ := two2 (l := xs) (by simpa using hlen)
  have hcs' : (Value.agg cs).cells.toList = [c0, c1] := hcs
  rw [hcs'] at hg
  have g0 : DataW.trod enc Try.prog W 0 (fun _ => true) true n 22 [c0] = some y0 := by simpa [scellsU, scellsL] using hg 0 _ rfl
  have g1 : DataW.trod enc Try.prog W 0 (fun _ => true) true n 25 [c1] = some y1 := by simpa [scellsU, scellsL] using hg 1 _ rfl
  obtain ⟨n0, e0, _, w0⟩ := DataW.trod_int Try.underlying22 g0
  injection e0 with e0; subst e0
  have b0 := bounds_u32 w0
  obtain ⟨ts, rfl⟩ := u32_num (n := n0) (by omega) (by omega)
  obtain ⟨V, l, eV, hr, ha, hb⟩ := pcs_of g1
  injection eV with eV
  subst eV
  refine ⟨ts, _, l, ?_, hr, ha, fun hw => hb fun n hn => hw n ?_⟩
  · congr 1
    exact Array.toList_inj.1 hcs
  · have e : d = .agg [y0.1, y1.1] := by have := congrArg Prod.fst hx; simpa using this
    rw [e]
    simp only [DataW.weights, Try.underlying27]
    simp [DataW.weightsEach]
    right
    exact hn
theorem gaps_in {v : Value} {d : DataW H} {ps : List MemPlace} {base : Nat} (hval : Value.okWide Try.prog W .any base 35 v) (h : DataW.Trod enc Try.prog W 0 (fun _ => true) true 35 v d ps) :
    ∃ l : List (Nat × Nat), RowGp W v l ∧ SmallG l := by
  obtain ⟨a0, len, cap, rfl⟩ := okWide_slice Try.underlying35 hval
  obtain ⟨fuel, hf⟩ := h
  rcases open_slice Try.underlying35 hf with ⟨hcs, _⟩ | ⟨a, len', cap', m, n, D, P, hcs, _, hl, hm, hmm, _, hi⟩
  · simp [Value.cells] at hcs
    obtain ⟨rfl, rfl, rfl⟩ := hcs
    exact ⟨[], RowGp.nil _, fun x hx => by simp at hx⟩
  · simp [Value.cells] at hcs
    obtain ⟨rfl, rfl, rfl⟩ := hcs
    simp only [if_true] at hmm
    have each : ∀ i, i < len → ∃ q : Nat × Nat, (∀ j u, (cellsGp q).toList[j]? = some u → W.cell? (a.add (i * 2 + j)) = some u) ∧ q.1 < 65536 ∧ q.2 < 65536 := by
      intro i hlt
      obtain ⟨cs', h1, h2⟩ := hi i (by omega)
      rw [scellsG] at h1
      obtain ⟨_, hlen, hcell⟩ := World.cells?_some h1
      obtain ⟨q, e, hin⟩ := gp_trod h2
      refine ⟨q, fun j u hu => ?_, hin⟩
      have hj : j < 2 := by have := (List.getElem?_eq_some_iff.1 hu).1; rw [lenGp] at this; exact this
      have e0 := hcell j hj
      rw [add_add] at e0
      rw [e0, e]
      exact hu
    obtain ⟨q, hq⟩ := choose_lt each
    have hlen : ((List.range len).map q).length = len := by simp
    refine ⟨(List.range len).map q, ⟨some a, cap, by rw [hlen], by omega, hm, fun hp => ?_⟩, fun x hx => ?_⟩
    · have h0 := (hq 0 (by omega)).1 0 _ rfl
      have hspot : a.spot = none := by simpa [Addr.add] using World.cell?_spot h0
      obtain ⟨b, off, spot⟩ := a
      simp only at hspot
      subst hspot
      have hb : b < W.heap.size := World.block_lt_of_cell? _ _ (by rw [addr_plain] at h0; exact h0)
      refine ⟨b, off, rfl, hb, fun j hj i u hu => ?_⟩
      rw [List.getElem_map, List.getElem_range] at hu
      have := (hq j (by omega)).1 i u hu
      rw [addr_plain] at this
      rw [← this, Nat.add_assoc]
    · obtain ⟨i, hi', rfl⟩ := List.mem_map.1 hx
      exact (hq i (by simpa using hi')).2
end
end Go.Proofs.Ytpgdofhnpiefjaa
