/-
  Arguments as they come in: paths; rows of acts.
-/
import Derived.Test.YtpihgnpbaaagpaaLift
import Derived.Test.YtpihgnpbaaagpaaPaN
import Derived.Deep.Fields
import Derived.Deep.Slices
import Derived.SliceStrings
namespace Go.Proofs.Ytpihgnpbaaagpaa
open Go.ChangeShapes Go.WideShapes Go.ChangeAt Go.RowKit Go.Deep
set_option linter.unusedVariables false
set_option linter.unusedSimpArgs false
set_option maxRecDepth 100000

theorem choose_lt {α : Type} {n : Nat} [Inhabited α] {P : Nat → α → Prop} (h : ∀ i, i < n → ∃ q, P i q) : ∃ q : Nat → α, ∀ i, i < n → P i (q i) := by
  refine ⟨fun i => if hi : i < n then Classical.choose (h i hi) else default, fun i hi => ?_⟩
  simp only [hi, dif_pos]
  exact Classical.choose_spec (h i hi)
theorem tm_list {α : Type} {l : List α} (h : l.length = 5) : ∃ c0 c1 c2 c3 c4, l = [c0, c1, c2, c3, c4] := by
  match l, h with
  | [c0, c1, c2, c3, c4], _ => exact ⟨c0, c1, c2, c3, c4, rfl⟩
theorem tm_ncells : Try.prog.cellsOf 43 = 5 := by kernel_rfl
theorem tm_one0 : Try.prog.cellsOf 4 = 1 := by kernel_rfl
theorem tm_one1 : Try.prog.cellsOf 3 = 1 := by kernel_rfl
section
variable {H : Type} {enc : TypeId × Value → H} {w : World} {base : Nat} {spare : Nat → Bool} {held : Bool}
set_option maxHeartbeats 1000000 in
theorem tm_trod {fuel : Nat} {cs : List Value} {x : DataW H × List MemPlace} (hf : DataW.trod enc Try.prog w base spare held fuel 43 cs = some x) : ∃ s : Tm, cs = (cellsT s).toList ∧ WfT s := by
  obtain ⟨xs, n, _, _, hsz, hlen, hg⟩ := DataW.trod_struct Try.underlying43 hf
  rw [tm_ncells] at hsz
  obtain ⟨c0, c1, c2, c3, c4, rfl⟩ := tm_list hsz
  obtain ⟨y0, y1, y2, y3, y4, rfl⟩ := tm_list (l := xs) (by simpa using hlen)
  have g0 : DataW.trod enc Try.prog w base spare held n 3 [c0] = some y0 := by simpa [tm_one0, tm_one1, Value.cells] using hg 0 _ rfl
  have g1 : DataW.trod enc Try.prog w base spare held n 3 [c1] = some y1 := by simpa [tm_one0, tm_one1, Value.cells] using hg 1 _ rfl
  have g2 : DataW.trod enc Try.prog w base spare held n 3 [c2] = some y2 := by simpa [tm_one0, tm_one1, Value.cells] using hg 2 _ rfl
  have g3 : DataW.trod enc Try.prog w base spare held n 3 [c3] = some y3 := by simpa [tm_one0, tm_one1, Value.cells] using hg 3 _ rfl
  have g4 : DataW.trod enc Try.prog w base spare held n 4 [c4] = some y4 := by simpa [tm_one0, tm_one1, Value.cells] using hg 4 _ rfl
  obtain ⟨n0, e0, _, w0⟩ := DataW.trod_int Try.underlying3 g0
  injection e0 with e0
  subst e0
  have b0 := bounds_i64 w0
  obtain ⟨n1, e1, _, w1⟩ := DataW.trod_int Try.underlying3 g1
  injection e1 with e1
  subst e1
  have b1 := bounds_i64 w1
  obtain ⟨n2, e2, _, w2⟩ := DataW.trod_int Try.underlying3 g2
  injection e2 with e2
  subst e2
  have b2 := bounds_i64 w2
  obtain ⟨n3, e3, _, w3⟩ := DataW.trod_int Try.underlying3 g3
  injection e3 with e3
  subst e3
  have b3 := bounds_i64 w3
  obtain ⟨n4, e4, _⟩ := DataW.trod_bool Try.underlying4 g4
  injection e4 with e4
  subst e4
  exact ⟨⟨n0, n1, n2, n3, n4⟩, rfl, ⟨b0, b1, b2, b3⟩⟩
set_option maxRecDepth 100000 in
theorem tm_in {r : Reach} {b0 : Nat} {v : Value} {d : DataW H} {p : List MemPlace} (hv : Value.okWide Try.prog w r b0 43 v) (h : DataW.Trod enc Try.prog w base spare held 43 v d p) :
    ∃ s : Tm, v = .agg (cellsT s) ∧ WfT s := by
  obtain ⟨cs, rfl, _⟩ := okWide_struct Try.underlying43 hv
  obtain ⟨fuel, hf⟩ := h
  obtain ⟨s, e, hs⟩ := tm_trod hf
  refine ⟨s, ?_, hs⟩
  have e' : cs.toList = (cellsT s).toList := e
  rw [Array.toList_inj.1 e']
end
theorem wn_list {α : Type} {l : List α} (h : l.length = 3) : ∃ c0 c1 c2, l = [c0, c1, c2] := by
  match l, h with
  | [c0, c1, c2], _ => exact ⟨c0, c1, c2, rfl⟩
theorem wn_ncells : Try.prog.cellsOf 45 = 3 := by kernel_rfl
theorem wn_one0 : Try.prog.cellsOf 3 = 1 := by kernel_rfl
section
variable {H : Type} {enc : TypeId × Value → H} {w : World} {base : Nat} {spare : Nat → Bool} {held : Bool}
set_option maxHeartbeats 1000000 in
theorem wn_trod {fuel : Nat} {cs : List Value} {x : DataW H × List MemPlace} (hf : DataW.trod enc Try.prog w base spare held fuel 45 cs = some x) : ∃ s : Wi.Wn, cs = (Wi.cellsT s).toList ∧ Wi.WfW s := by
  obtain ⟨xs, n, _, _, hsz, hlen, hg⟩ := DataW.trod_struct Try.underlying45 hf
  rw [wn_ncells] at hsz
  obtain ⟨c0, c1, c2, rfl⟩ := wn_list hsz
  obtain ⟨y0, y1, y2, rfl⟩ := wn_list (l := xs) (by simpa using hlen)
  have g0 : DataW.trod enc Try.prog w base spare held n 3 [c0] = some y0 := by simpa [wn_one0, Value.cells] using hg 0 _ rfl
  have g1 : DataW.trod enc Try.prog w base spare held n 3 [c1] = some y1 := by simpa [wn_one0, Value.cells] using hg 1 _ rfl
  have g2 : DataW.trod enc Try.prog w base spare held n 3 [c2] = some y2 := by simpa [wn_one0, Value.cells] using hg 2 _ rfl
  obtain ⟨n0, e0, _, w0⟩ := DataW.trod_int Try.underlying3 g0
  injection e0 with e0
  subst e0
  have b0 := bounds_i64 w0
  obtain ⟨n1, e1, _, w1⟩ := DataW.trod_int Try.underlying3 g1
  injection e1 with e1
  subst e1
  have b1 := bounds_i64 w1
  obtain ⟨n2, e2, _, w2⟩ := DataW.trod_int Try.underlying3 g2
  injection e2 with e2
  subst e2
  have b2 := bounds_i64 w2
  exact ⟨⟨n0, n1, n2⟩, rfl, ⟨b0, b1, b2⟩⟩
set_option maxRecDepth 100000 in
theorem wn_in {r : Reach} {b0 : Nat} {v : Value} {d : DataW H} {p : List MemPlace} (hv : Value.okWide Try.prog w r b0 45 v) (h : DataW.Trod enc Try.prog w base spare held 45 v d p) :
    ∃ s : Wi.Wn, v = .agg (Wi.cellsT s) ∧ Wi.WfW s := by
  obtain ⟨cs, rfl, _⟩ := okWide_struct Try.underlying45 hv
  obtain ⟨fuel, hf⟩ := h
  obtain ⟨s, e, hs⟩ := wn_trod hf
  refine ⟨s, ?_, hs⟩
  have e' : cs.toList = (Wi.cellsT s).toList := e
  rw [Array.toList_inj.1 e']
end
theorem pcells : Try.prog.cellsOf 47 = 14 := by kernel_rfl
theorem pcellsT : Try.prog.cellsOf 43 = 5 := by kernel_rfl
theorem pcellsW : Try.prog.cellsOf 45 = 3 := by kernel_rfl
theorem pcellsI : Try.prog.cellsOf 3 = 1 := by kernel_rfl
theorem pcellsS : Try.prog.cellsOf 9 = 1 := by kernel_rfl
theorem pcellsU : Try.prog.cellsOf 41 = 1 := by kernel_rfl
theorem pcellsL : Try.prog.cellsOf 25 = 1 := by kernel_rfl
theorem pcellsP : Try.prog.cellsOf 27 = 3 := by kernel_rfl
theorem fourteen {α : Type} {l : List α} (h : l.length = 14) : ∃ a b c t0 t1 t2 t3 t4 w0 w1 w2 n p q, l = [a, b, c, t0, t1, t2, t3, t4, w0, w1, w2, n, p, q] := by
  match l, h with
  | [a, b, c, t0, t1, t2, t3, t4, w0, w1, w2, n, p, q], _ => exact ⟨a, b, c, t0, t1, t2, t3, t4, w0, w1, w2, n, p, q, rfl⟩
theorem eight {α : Type} {l : List α} (h : l.length = 8) : ∃ a b c d e f g h, l = [a, b, c, d, e, f, g, h] := by
  match l, h with
  | [a, b, c, d, e, f, g, h], _ => exact ⟨a, b, c, d, e, f, g, h, rfl⟩
theorem three12 {α : Type} {l : List α} (h : l.length = 3) : ∃ a b c, l = [a, b, c] := by
  match l, h with
  | [a, b, c], _ => exact ⟨a, b, c, rfl⟩
theorem four12 {α : Type} {l : List α} (h : l.length = 4) : ∃ a b c d, l = [a, b, c, d] := by
  match l, h with
  | [a, b, c, d], _ => exact ⟨a, b, c, d, rfl⟩
section
variable {H : Type} {enc : TypeId × Value → H} {w : World} {base : Nat} {spare : Nat → Bool} {held : Bool}
set_option maxHeartbeats 4000000 in
theorem pa_trod {fuel : Nat} {cs : List Value} {x : DataW H × List MemPlace} (hf : DataW.trod enc Try.prog w base spare held fuel 47 cs = some x) : ∃ y : Pa, cs = (cellsPa y).toList ∧ WfPa y ∧ y.ad.size ≤ maxLen := by
  obtain ⟨xs, n, _, _, hsz, hlen, hg⟩ := DataW.trod_struct Try.underlying47 hf
  rw [pcells] at hsz
  obtain ⟨a, b, c, t0, t1, t2, t3, t4, w0, w1, w2, nn, p, q, rfl⟩ := fourteen hsz
  obtain ⟨y0, y1, y2, y3, y4, y5, y6, y7, rfl⟩ := eight (l := xs) (by simpa using hlen)
  have g0 : DataW.trod enc Try.prog w base spare held n 9 [a] = some y0 := by simpa [pcellsI, pcellsS, pcellsT, pcellsW, pcellsU, Value.cells] using hg 0 _ rfl
  have g1 : DataW.trod enc Try.prog w base spare held n 3 [b] = some y1 := by simpa [pcellsI, pcellsS, pcellsT, pcellsW, pcellsU, Value.cells] using hg 1 _ rfl
  have g2 : DataW.trod enc Try.prog w base spare held n 3 [c] = some y2 := by simpa [pcellsI, pcellsS, pcellsT, pcellsW, pcellsU, Value.cells] using hg 2 _ rfl
  have g3 : DataW.trod enc Try.prog w base spare held n 43 [t0, t1, t2, t3, t4] = some y3 := by simpa [pcellsI, pcellsS, pcellsT, pcellsW, pcellsU, Value.cells] using hg 3 _ rfl
  have g4 : DataW.trod enc Try.prog w base spare held n 45 [w0, w1, w2] = some y4 := by simpa [pcellsI, pcellsS, pcellsT, pcellsW, pcellsU, Value.cells] using hg 4 _ rfl
  have g5 : DataW.trod enc Try.prog w base spare held n 41 [nn] = some y5 := by simpa [pcellsI, pcellsS, pcellsT, pcellsW, pcellsU, Value.cells] using hg 5 _ rfl
  have g6 : DataW.trod enc Try.prog w base spare held n 3 [p] = some y6 := by simpa [pcellsI, pcellsS, pcellsT, pcellsW, pcellsU, Value.cells] using hg 6 _ rfl
  have g7 : DataW.trod enc Try.prog w base spare held n 3 [q] = some y7 := by simpa [pcellsI, pcellsS, pcellsT, pcellsW, pcellsU, Value.cells] using hg 7 _ rfl
  obtain ⟨n0, e0, _, v0⟩ := DataW.trod_string Try.underlying9 g0
  injection e0 with e0; subst e0
  obtain ⟨n1, e1, _, v1⟩ := DataW.trod_int Try.underlying3 g1
  injection e1 with e1; subst e1
  have b1 := bounds_i64 v1
  obtain ⟨n2, e2, _, v2⟩ := DataW.trod_int Try.underlying3 g2
  injection e2 with e2; subst e2
  have b2 := bounds_i64 v2
  obtain ⟨tm, e3, wf3⟩ := tm_trod g3
  obtain ⟨wn, e4, wf4⟩ := wn_trod g4
  obtain ⟨n5, e5, _, v5⟩ := DataW.trod_int Try.underlying41 g5
  injection e5 with e5; subst e5
  have b5 := bounds_u32 v5
  obtain ⟨n6, e6, _, v6⟩ := DataW.trod_int Try.underlying3 g6
  injection e6 with e6; subst e6
  have b6 := bounds_i64 v6
  obtain ⟨n7, e7, _, v7⟩ := DataW.trod_int Try.underlying3 g7
  injection e7 with e7; subst e7
  have b7 := bounds_i64 v7
  refine ⟨⟨n0, n1, n2, tm, wn, n5, n6, n7⟩, ?_, ⟨b1, b2, wf3, wf4, by constructor <;> (dsimp only; omega), b6, b7⟩, v0⟩
  simp only [cellsT] at e3
  simp only [Wi.cellsT] at e4
  simp only [List.cons.injEq, and_true] at e3 e4
  obtain ⟨rfl, rfl, rfl, rfl, rfl⟩ := e3
  obtain ⟨rfl, rfl, rfl⟩ := e4
  rfl
end
section
variable {H : Type} {enc : TypeId × Value → H} {W : World}
theorem pas_of {fuel : Nat} {cs : List Value} {x : DataW H × List MemPlace} (h : DataW.trod enc Try.prog W 0 (fun _ => true) true fuel 25 cs = some x) :
    ∃ (v : Value) (l : List Pa), cs = [v] ∧ RowP W v l ∧ l.length ≤ maxLen ∧ (∀ y ∈ l, WfPa y) ∧ ∀ y ∈ l, y.ad.size ≤ maxLen := by
  obtain ⟨d, ps⟩ := x
  rcases open_slice Try.underlying25 h with ⟨hcs, _⟩ | ⟨a, len, cap, m, n, D, P, hcs, _, hl, hm, hmm, _, hi⟩
  · exact ⟨_, [], hcs, RowP.nil _, by simp [maxLen], fun x hx => by simp at hx, fun x hx => by simp at hx⟩
  · simp only [if_true] at hmm
    have each : ∀ i, i < len → ∃ q : Pa, (∀ j u, (cellsPa q).toList[j]? = some u → W.cell? (a.add (i * 14 + j)) = some u) ∧ WfPa q ∧ q.ad.size ≤ maxLen := by
      intro i hlt
      obtain ⟨cs', h1, h2⟩ := hi i (by omega)
      rw [pcells] at h1
      obtain ⟨_, hlen, hcell⟩ := World.cells?_some h1
      obtain ⟨c, e, hin⟩ := pa_trod h2
      refine ⟨c, fun j u hu => ?_, hin⟩
      have hj : j < 14 := by have := (List.getElem?_eq_some_iff.1 hu).1; rw [lenPa] at this; exact this
      have e0 := hcell j hj
      rw [add_add] at e0
      rw [e0, e]
      exact hu
    obtain ⟨q, hq⟩ := choose_lt each
    have hlen : ((List.range len).map q).length = len := by simp
    refine ⟨_, (List.range len).map q, hcs, ⟨some a, cap, by rw [hlen], by omega, hm, fun hp => ?_⟩, by rw [hlen]; omega, fun x hx => ?_, fun x hx => ?_⟩
    · have h0 := (hq 0 (by omega)).1 0 _ rfl
      have hspot : a.spot = none := by simpa [Addr.add] using World.cell?_spot h0
      obtain ⟨b, off, spot⟩ := a
      simp only at hspot
      subst hspot
      have hb : b < W.heap.size := World.block_lt_of_cell? _ _ (by rw [addr_plain] at h0; exact h0)
      refine ⟨b, off, rfl, hb, fun j hj i u hu => ?_⟩
      rw [List.getElem_map, List.getElem_range] at hu
      have := (hq j (by omega)).1 i u hu
      rw [addr_plain] at this
      rw [← this, Nat.add_assoc]
    · obtain ⟨i, hi', rfl⟩ := List.mem_map.1 hx
      exact (hq i (by simpa using hi')).2.1
    · obtain ⟨i, hi', rfl⟩ := List.mem_map.1 hx
      exact (hq i (by simpa using hi')).2.2
/-- What is known of paths that come in. -/
structure InPs (W : World) (pr al : Int) (V : Value) (l : List Pa) : Prop where
  row : RowP W V l
  len : l.length ≤ maxLen
  wf : ∀ x ∈ l, WfPa x
  ad : ∀ x ∈ l, x.ad.size ≤ maxLen
  pr : Fits pr
  al : Fits al
theorem packet_in {v : Value} {d : DataW H} {ps : List MemPlace} {base : Nat} (hval : Value.okWide Try.prog W .any base 27 v) (h : DataW.Trod enc Try.prog W 0 (fun _ => true) true 27 v d ps) :
    ∃ (pr al : Int) (g : Nat) (V : Value) (l : List Pa), v = .agg #[V, .int .i64 pr, .int .i64 al] ∧ InPs W pr al V l := by
  obtain ⟨cs, rfl, _⟩ := okWide_struct Try.underlying27 hval
  obtain ⟨fuel, hf⟩ := h
  obtain ⟨xs, n, _, _, hcl, hlen, hg⟩ := DataW.trod_struct Try.underlying27 hf
  rw [pcellsP] at hcl
  obtain ⟨c0, c1, c2, hcs⟩ := three12 (l := cs.toList) (by simpa [Value.cells] using hcl)
  obtain ⟨y0, y1, y2, rfl⟩ := three12 (l := xs) (by simpa using hlen)
  have hcs' : (Value.agg cs).cells.toList = [c0, c1, c2] := hcs
  rw [hcs'] at hg
  have g0 : DataW.trod enc Try.prog W 0 (fun _ => true) true n 25 [c0] = some y0 := by simpa [pcellsI, pcellsL] using hg 0 _ rfl
  have g1 : DataW.trod enc Try.prog W 0 (fun _ => true) true n 3 [c1] = some y1 := by simpa [pcellsI, pcellsL] using hg 1 _ rfl
  have g2 : DataW.trod enc Try.prog W 0 (fun _ => true) true n 3 [c2] = some y2 := by simpa [pcellsI, pcellsL] using hg 2 _ rfl
  obtain ⟨n1, e1, _, w1⟩ := DataW.trod_int Try.underlying3 g1
  injection e1 with e1; subst e1
  have b1 := bounds_i64 w1
  obtain ⟨n2, e2, _, w2⟩ := DataW.trod_int Try.underlying3 g2
  injection e2 with e2; subst e2
  have b2 := bounds_i64 w2
  obtain ⟨V, l, eV, hr, hl, ha, hb⟩ := pas_of g0
  injection eV with eV
  subst eV
  refine ⟨n1, n2, 0, _, l, ?_, ⟨hr, hl, ha, hb, b1, b2⟩⟩
  congr 1
  exact Array.toList_inj.1 hcs
end
/-- An act: what is done, to which, when, with which number. -/
structure Act12 where
  op : Int
  i : Int
  now : Int
  nonce : Int
instance : Inhabited Act12 := ⟨⟨0, 0, 0, 0⟩⟩
def cellsAc (x : Act12) : Array Value := #[.int .i64 x.op, .int .i64 x.i, .int .i64 x.now, .int .u32 x.nonce]
structure WfAc (x : Act12) : Prop where
  op : Fits x.op
  i : Fits x.i
  now : Fits x.now
  nonce : 0 ≤ x.nonce ∧ x.nonce ≤ 4294967295
def RowAc (w : World) (v : Value) (l : List Act12) : Prop :=
  ∃ (A : Option Addr) (cap : Nat), v = .slice A l.length cap ∧ l.length ≤ cap ∧ cap ≤ maxLen ∧ (0 < l.length → ∃ b off, A = some ⟨b, off, none⟩ ∧ b < w.heap.size ∧ ∀ j (h : j < l.length), w.rangeAt b (off + j * 4) (cellsAc l[j]).toList)
theorem accells : Try.prog.cellsOf 66 = 4 := by kernel_rfl
section
variable {H : Type} {enc : TypeId × Value → H} {w : World} {base : Nat} {spare : Nat → Bool} {held : Bool}
theorem ac_trod {fuel : Nat} {cs : List Value} {x : DataW H × List MemPlace} (hf : DataW.trod enc Try.prog w base spare held fuel 66 cs = some x) : ∃ y : Act12, cs = (cellsAc y).toList ∧ WfAc y := by
  obtain ⟨xs, n, _, _, hsz, hlen, hg⟩ := DataW.trod_struct Try.underlying66 hf
  rw [accells] at hsz
  obtain ⟨a, b, c, d, rfl⟩ := four12 hsz
  obtain ⟨y0, y1, y2, y3, rfl⟩ := four12 (l := xs) (by simpa using hlen)
  have g0 : DataW.trod enc Try.prog w base spare held n 3 [a] = some y0 := by simpa [pcellsI, pcellsU, Value.cells] using hg 0 _ rfl
  have g1 : DataW.trod enc Try.prog w base spare held n 3 [b] = some y1 := by simpa [pcellsI, pcellsU, Value.cells] using hg 1 _ rfl
  have g2 : DataW.trod enc Try.prog w base spare held n 3 [c] = some y2 := by simpa [pcellsI, pcellsU, Value.cells] using hg 2 _ rfl
  have g3 : DataW.trod enc Try.prog w base spare held n 41 [d] = some y3 := by simpa [pcellsI, pcellsU, Value.cells] using hg 3 _ rfl
  obtain ⟨n0, e0, _, v0⟩ := DataW.trod_int Try.underlying3 g0
  injection e0 with e0; subst e0
  have b0 := bounds_i64 v0
  obtain ⟨n1, e1, _, v1⟩ := DataW.trod_int Try.underlying3 g1
  injection e1 with e1; subst e1
  have b1 := bounds_i64 v1
  obtain ⟨n2, e2, _, v2⟩ := DataW.trod_int Try.underlying3 g2
  injection e2 with e2; subst e2
  have b2 := bounds_i64 v2
  obtain ⟨n3, e3, _, v3⟩ := DataW.trod_int Try.underlying41 g3
  injection e3 with e3; subst e3
  have b3 := bounds_u32 v3
  exact ⟨⟨n0, n1, n2, n3⟩, rfl, ⟨b0, b1, b2, by constructor <;> (dsimp only; omega)⟩⟩
end
section
variable {H : Type} {enc : TypeId × Value → H} {W : World}
theorem acts_in {v : Value} {d : DataW H} {ps : List MemPlace} {base : Nat} (hval : Value.okWide Try.prog W .any base 63 v) (h : DataW.Trod enc Try.prog W 0 (fun _ => true) true 63 v d ps) :
    ∃ l : List Act12, RowAc W v l ∧ ∀ x ∈ l, WfAc x := by
  obtain ⟨a0, len, cap, rfl⟩ := okWide_slice Try.underlying63 hval
  obtain ⟨fuel, hf⟩ := h
  rcases open_slice Try.underlying63 hf with ⟨hcs, _⟩ | ⟨a, len', cap', m, n, D, P, hcs, _, hl, hm, hmm, _, hi⟩
  · simp [Value.cells] at hcs
    obtain ⟨rfl, rfl, rfl⟩ := hcs
    exact ⟨[], ⟨none, 0, rfl, Nat.le_refl _, Nat.zero_le _, fun h => absurd h (by simp)⟩, fun x hx => by simp at hx⟩
  · simp [Value.cells] at hcs
    obtain ⟨rfl, rfl, rfl⟩ := hcs
    simp only [if_true] at hmm
    have each : ∀ i, i < len → ∃ q : Act12, (∀ j u, (cellsAc q).toList[j]? = some u → W.cell? (a.add (i * 4 + j)) = some u) ∧ WfAc q := by
      intro i hlt
      obtain ⟨cs', h1, h2⟩ := hi i (by omega)
      rw [accells] at h1
      obtain ⟨_, hlen, hcell⟩ := World.cells?_some h1
      obtain ⟨q, e, hin⟩ := ac_trod h2
      refine ⟨q, fun j u hu => ?_, hin⟩
      have hj : j < 4 := by have := (List.getElem?_eq_some_iff.1 hu).1; simpa [cellsAc] using this
      have e0 := hcell j hj
      rw [add_add] at e0
      rw [e0, e]
      exact hu
    obtain ⟨q, hq⟩ := choose_lt each
    have hlen : ((List.range len).map q).length = len := by simp
    refine ⟨(List.range len).map q, ⟨some a, cap, by rw [hlen], by omega, hm, fun hp => ?_⟩, fun x hx => ?_⟩
    · have h0 := (hq 0 (by omega)).1 0 _ rfl
      have hspot : a.spot = none := by simpa [Addr.add] using World.cell?_spot h0
      obtain ⟨b, off, spot⟩ := a
      simp only at hspot
      subst hspot
      have hb : b < W.heap.size := World.block_lt_of_cell? _ _ (by rw [addr_plain] at h0; exact h0)
      refine ⟨b, off, rfl, hb, fun j hj i u hu => ?_⟩
      rw [List.getElem_map, List.getElem_range] at hu
      have := (hq j (by omega)).1 i u hu
      rw [addr_plain] at this
      rw [← this, Nat.add_assoc]
    · obtain ⟨i, hi', rfl⟩ := List.mem_map.1 hx
      exact (hq i (by simpa using hi')).2
end
end Go.Proofs.Ytpihgnpbaaagpaa
