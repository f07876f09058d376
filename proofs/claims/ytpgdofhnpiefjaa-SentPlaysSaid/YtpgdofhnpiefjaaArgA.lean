/-
  Acts, as they come in.
-/
import Derived.Test.YtpgdofhnpiefjaaArgs
import Derived.Deep.Fields
namespace Go.Proofs.Ytpgdofhnpiefjaa
open Go.ChangeShapes Go.WideShapes Go.ChangeAt Go.RowKit Go.Deep
set_option linter.unusedVariables false
set_option linter.unusedSimpArgs false
set_option maxRecDepth 100000

/-- An act: what, how far, from, to, size, path. -/
structure Ac where
  op : Int
  up : Int
  fr : Int
  to : Int
  sz : Int
  pa : Int
instance : Inhabited Ac := ⟨⟨0, 0, 0, 0, 0, 0⟩⟩
def cellsAc (x : Ac) : Array Value := #[.int .i64 x.op, .int .i64 x.up, .int .i64 x.fr, .int .i64 x.to, .int .i64 x.sz, .int .i64 x.pa]
theorem cellsAc_one (x : Ac) : (cellsAc x).all (·.oneCell') = true := by simp [cellsAc, Value.oneCell']
theorem lenAc (x : Ac) : (cellsAc x).toList.length = 6 := rfl
theorem infoAc : (Try.prog.info? 31).map (·.size) = some 6 := by kernel_rfl
structure WfAc (x : Ac) : Prop where
  op : FitI x.op
  up : FitI x.up
  fr : FitI x.fr
  to : FitI x.to
  sz : FitI x.sz
  pa : FitI x.pa
/-- The slice v reads as these acts. -/
def RowAc (w : World) (v : Value) (l : List Ac) : Prop :=
  ∃ (A : Option Addr) (cap : Nat), v = .slice A l.length cap ∧ l.length ≤ cap ∧ cap ≤ maxLen ∧ (0 < l.length → ∃ b off, A = some ⟨b, off, none⟩ ∧ b < w.heap.size ∧ ∀ j (h : j < l.length), w.rangeAt b (off + j * 6) (cellsAc l[j]).toList)
theorem RowAc.below {w w' : World} {v : Value} {l : List Ac} (h : RowAc w v l) (hb : Below w.heap.size w w') : RowAc w' v l := by
  obtain ⟨A, cap, rfl, hc, hm, h⟩ := h
  refine ⟨A, cap, rfl, hc, hm, fun hl => ?_⟩
  obtain ⟨b, off, rfl, hlt, hcell⟩ := h hl
  exact ⟨b, off, rfl, Nat.lt_of_lt_of_le hlt hb.size, fun j hj => range_below (hcell j hj) hlt hb⟩
theorem RowAc.nil (w : World) : RowAc w (.slice none 0 0) [] := ⟨none, 0, rfl, Nat.le_refl _, Nat.zero_le _, fun h => absurd h (by simp)⟩
theorem RowAc.at {w : World} {v : Value} {l : List Ac} (h : RowAc w v l) {j : Nat} (hj : j < l.length) : ∃ b off cap, v = .slice (some ⟨b, off, none⟩) l.length cap ∧ b < w.heap.size ∧ l.length ≤ cap ∧ cap ≤ maxLen ∧ w.rangeAt b (off + j * 6) (cellsAc l[j]).toList := by
  obtain ⟨A, cap, rfl, h1, h2, h3⟩ := h
  obtain ⟨b, off, rfl, hb, hc⟩ := h3 (by omega)
  exact ⟨b, off, cap, rfl, hb, h1, h2, hc j hj⟩
theorem scellsA : Try.prog.cellsOf 31 = 6 := by kernel_rfl
section
variable {H : Type} {enc : TypeId × Value → H} {w : World} {base : Nat} {spare : Nat → Bool} {held : Bool}
set_option maxHeartbeats 4000000 in
theorem ac_trod {fuel : Nat} {cs : List Value} {x : DataW H × List MemPlace} (hf : DataW.trod enc Try.prog w base spare held fuel 31 cs = some x) : ∃ y : Ac, cs = (cellsAc y).toList ∧ WfAc y := by
  obtain ⟨xs, n, _, _, hsz, hlen, hg⟩ := DataW.trod_struct Try.underlying31 hf
  rw [scellsA] at hsz
  obtain ⟨a, b, c, d, e, f, rfl⟩ := six6 hsz
  obtain ⟨y0, y1, y2, y3, y4, y5, rfl⟩ := six6 (l := xs) (by simpa using hlen)
  have g0 : DataW.trod enc Try.prog w base spare held n 3 [a] = some y0 := by simpa [scellsI, Value.cells] using hg 0 _ rfl
  have g1 : DataW.trod enc Try.prog w base spare held n 3 [b] = some y1 := by simpa [scellsI, Value.cells] using hg 1 _ rfl
  have g2 : DataW.trod enc Try.prog w base spare held n 3 [c] = some y2 := by simpa [scellsI, Value.cells] using hg 2 _ rfl
  have g3 : DataW.trod enc Try.prog w base spare held n 3 [d] = some y3 := by simpa [scellsI, Value.cells] using hg 3 _ rfl
  have g4 : DataW.trod enc Try.prog w base spare held n 3 [e] = some y4 := by simpa [scellsI, Value.cells] using hg 4 _ rfl
  have g5 : DataW.trod enc Try.prog w base spare held n 3 [f] = some y5 := by simpa [scellsI, Value.cells] using hg 5 _ rfl
  obtain ⟨n0, e0, _, v0⟩ := DataW.trod_int Try.underlying3 g0
  injection e0 with e0; subst e0
  have b0 := bounds_i64 v0
  obtain ⟨n1, e1, _, v1⟩ := DataW.trod_int Try.underlying3 g1
  injection e1 with e1; subst e1
  have b1 := bounds_i64 v1
  obtain ⟨n2, e2, _, v2⟩ := DataW.trod_int Try.underlying3 g2
  injection e2 with e2; subst e2
  have b2 := bounds_i64 v2
  obtain ⟨n3, e3, _, v3⟩ := DataW.trod_int Try.underlying3 g3
  injection e3 with e3; subst e3
  have b3 := bounds_i64 v3
  obtain ⟨n4, e4, _, v4⟩ := DataW.trod_int Try.underlying3 g4
  injection e4 with e4; subst e4
  have b4 := bounds_i64 v4
  obtain ⟨n5, e5, _, v5⟩ := DataW.trod_int Try.underlying3 g5
  injection e5 with e5; subst e5
  have b5 := bounds_i64 v5
  exact ⟨⟨n0, n1, n2, n3, n4, n5⟩, rfl, ⟨b0, b1, b2, b3, b4, b5⟩⟩
end
section
variable {H : Type} {enc : TypeId × Value → H} {W : World}
theorem acts_in {v : Value} {d : DataW H} {ps : List MemPlace} {base : Nat} (hval : Value.okWide Try.prog W .any base 23 v) (h : DataW.Trod enc Try.prog W 0 (fun _ => true) true 23 v d ps) :
    ∃ l : List Ac, RowAc W v l ∧ (∀ x ∈ l, WfAc x) := by
  obtain ⟨a0, len, cap, rfl⟩ := okWide_slice Try.underlying23 hval
  obtain ⟨fuel, hf⟩ := h
  rcases open_slice Try.underlying23 hf with ⟨hcs, _⟩ | ⟨a, len', cap', m, n, D, P, hcs, _, hl, hm, hmm, _, hi⟩
  · simp [Value.cells] at hcs
    obtain ⟨rfl, rfl, rfl⟩ := hcs
    exact ⟨[], RowAc.nil _, fun x hx => by simp at hx⟩
  · simp [Value.cells] at hcs
    obtain ⟨rfl, rfl, rfl⟩ := hcs
    simp only [if_true] at hmm
    have each : ∀ i, i < len → ∃ q : Ac, (∀ j u, (cellsAc q).toList[j]? = some u → W.cell? (a.add (i * 6 + j)) = some u) ∧ WfAc q := by
      intro i hlt
      obtain ⟨cs', h1, h2⟩ := hi i (by omega)
      rw [scellsA] at h1
      obtain ⟨_, hlen, hcell⟩ := World.cells?_some h1
      obtain ⟨q, e, hin⟩ := ac_trod h2
      refine ⟨q, fun j u hu => ?_, hin⟩
      have hj : j < 6 := by have := (List.getElem?_eq_some_iff.1 hu).1; rw [lenAc] at this; exact this
      have e0 := hcell j hj
      rw [add_add] at e0
      rw [e0, e]
      exact hu
    obtain ⟨q, hq⟩ := choose_lt each
    have hlen : ((List.range len).map q).length = len := by simp
    refine ⟨(List.range len).map q, ⟨some a, cap, by rw [hlen], by omega, hm, fun hp => ?_⟩, fun x hx => ?_⟩
    · have h0 := (hq 0 (by omega)).1 0 _ rfl
      have hspot : a.spot = none := by simpa [Addr.add] using World.cell?_spot h0
      obtain ⟨b, off, spot⟩ := a
      simp only at hspot
      subst hspot
      have hb : b < W.heap.size := World.block_lt_of_cell? _ _ (by rw [addr_plain] at h0; exact h0)
      refine ⟨b, off, rfl, hb, fun j hj i u hu => ?_⟩
      rw [List.getElem_map, List.getElem_range] at hu
      have := (hq j (by omega)).1 i u hu
      rw [addr_plain] at this
      rw [← this, Nat.add_assoc]
    · obtain ⟨i, hi', rfl⟩ := List.mem_map.1 hx
      exact (hq i (by simpa using hi')).2
end
end Go.Proofs.Ytpgdofhnpiefjaa
