/-
  Rows of acts, as they come in.
-/
import Derived.Test.YthfiebdpoleeeaaDoorAr9
import Derived.Deep.Slices
import Derived.Deep.MidRow
namespace Go.Proofs.YthfiebdpoleeeaaDoor
open Go.ChangeShapes Go.WideShapes Go.ChangeAt Go.RowKit Go.Deep
set_option linter.unusedVariables false
set_option linter.unusedSimpArgs false

/-- An act: what is done, when, with which key, which state. -/
structure ActV where
  op : Int
  now : Int
  key : ByteArray
  s : St
def ActV.cells (x : ActV) : Array Value := #[.int .i64 x.op, .int .i64 x.now, .string x.key, .int .u32 x.s.a0, .int .u32 x.s.a1, .int .u32 x.s.a2, .int .u32 x.s.a3, .int .u32 x.s.a4, .int .u32 x.s.a5, .int .u32 x.s.a6, .int .u16 x.s.b0, .int .u16 x.s.b1, .int .u16 x.s.b2, .int .u16 x.s.b3, .string x.s.peer, .int .i64 x.s.made, .int .i64 x.s.life]
instance : Inhabited ActV := ⟨⟨0, 0, ⟨#[]⟩, zeroS⟩⟩
theorem ActV.list (x : ActV) : x.cells.toList = .int .i64 x.op :: .int .i64 x.now :: .string x.key :: (cellsS x.s).toList := rfl
theorem ActV.size (x : ActV) : x.cells.toList.length = 17 := rfl
structure InA (x : ActV) : Prop where
  op : -9223372036854775808 ≤ x.op ∧ x.op ≤ 9223372036854775807
  now : -9223372036854775808 ≤ x.now ∧ x.now ≤ 9223372036854775807
  s : InS x.s
def RowA (w : World) (v : Value) (l : List ActV) : Prop :=
  ∃ (A : Option Addr) (cap : Nat), v = .slice A l.length cap ∧ l.length ≤ cap ∧ cap ≤ maxLen ∧ (0 < l.length → ∃ b off, A = some ⟨b, off, none⟩ ∧ b < w.heap.size ∧ ∀ j (h : j < l.length), w.rangeAt b (off + j * 17) l[j].cells.toList)
theorem rangeAt_below9 {w w' : World} {B b o : Nat} {cs : List Value} (h : w.rangeAt b o cs) (hlt : b < B) (hb : Below B w w') : w'.rangeAt b o cs := fun j v hj => (hb.cell (p := ⟨b, o + j, none⟩) hlt).trans (h j v hj)
theorem range_part {w : World} {b o : Nat} {x : ActV} (h : w.rangeAt b o x.cells.toList) : w.cell? ⟨b, o, none⟩ = some (.int .i64 x.op) ∧ w.cell? ⟨b, o + 1, none⟩ = some (.int .i64 x.now) ∧ w.cell? ⟨b, o + 2, none⟩ = some (.string x.key) ∧ w.rangeAt b (o + 3) (cellsS x.s).toList := by
  rw [ActV.list] at h
  refine ⟨h 0 _ rfl, h 1 _ rfl, h 2 _ rfl, fun j v hj => ?_⟩
  rw [Nat.add_assoc, Nat.add_comm 3 j]
  refine h (j + 3) v ?_
  rw [List.getElem?_cons_succ, List.getElem?_cons_succ, List.getElem?_cons_succ]
  exact hj
theorem acells : Tryd.prog.cellsOf 52 = 17 := by kernel_rfl
theorem seventeen {α : Type} {l : List α} (h : l.length = 17) : ∃ a b c m, l = a :: b :: c :: m ∧ m.length = 14 := by
  match l, h with
  | a :: b :: c :: m, h => exact ⟨a, b, c, m, rfl, by simpa using h⟩
theorem four9 {α : Type} {l : List α} (h : l.length = 4) : ∃ a b c d, l = [a, b, c, d] := by
  match l, h with
  | [a, b, c, d], _ => exact ⟨a, b, c, d, rfl⟩
section
variable {H : Type} {enc : TypeId × Value → H} {w : World} {base : Nat} {spare : Nat → Bool} {held : Bool}
set_option maxHeartbeats 1000000 in
theorem act_trod {fuel : Nat} {cs : List Value} {x : DataW H × List MemPlace} (hf : DataW.trod enc Tryd.prog w base spare held fuel 52 cs = some x) : ∃ y : ActV, cs = y.cells.toList ∧ InA y := by
  obtain ⟨xs, n, _, _, hsz, hlen, hg⟩ := DataW.trod_struct Tryd.underlying52 hf
  rw [acells] at hsz
  obtain ⟨c0, c1, c2, m, rfl, hm⟩ := seventeen hsz
  obtain ⟨y0, y1, y2, y3, rfl⟩ := four9 (l := xs) (by simpa using hlen)
  have g0 : DataW.trod enc Tryd.prog w base spare held n 3 [c0] = some y0 := by simpa [cells_int, cells_str, Value.cells] using hg 0 _ rfl
  have g1 : DataW.trod enc Tryd.prog w base spare held n 3 [c1] = some y1 := by simpa [cells_int, cells_str, Value.cells] using hg 1 _ rfl
  have g2 : DataW.trod enc Tryd.prog w base spare held n 9 [c2] = some y2 := by simpa [cells_int, cells_str, Value.cells] using hg 2 _ rfl
  have g3 : DataW.trod enc Tryd.prog w base spare held n 25 m = some y3 := by
    have e : ((c0 :: c1 :: c2 :: m).drop 3).take (Tryd.prog.cellsOf 25) = m := by
      rw [scells]
      show m.take 14 = m
      rw [List.take_of_length_le (by omega)]
    have h3 : DataW.trod enc Tryd.prog w base spare held n 25 (((c0 :: c1 :: c2 :: m).drop 3).take (Tryd.prog.cellsOf 25)) = some y3 := hg 3 _ rfl
    rw [e] at h3
    exact h3
  obtain ⟨n0, e0, _, w0⟩ := DataW.trod_int Tryd.underlying3 g0
  injection e0 with e0
  subst e0
  have b0 := bounds_i64 w0
  obtain ⟨n1, e1, _, w1⟩ := DataW.trod_int Tryd.underlying3 g1
  injection e1 with e1
  subst e1
  have b1 := bounds_i64 w1
  obtain ⟨n2, e2, _, w2⟩ := DataW.trod_string Tryd.underlying9 g2
  injection e2 with e2
  subst e2
  obtain ⟨s, rfl, hs⟩ := state_trod g3
  exact ⟨⟨n0, n1, n2, s⟩, rfl, ⟨by dsimp only; omega, by dsimp only; omega, hs⟩⟩
end
section
variable {H : Type} {enc : TypeId × Value → H} {W : World}
set_option maxRecDepth 100000 in
theorem acts_in {v : Value} {d : DataW H} {ps : List MemPlace} {base : Nat} (hval : Value.okWide Tryd.prog W .any base 41 v) (h : DataW.Trod enc Tryd.prog W 0 (fun _ => true) true 41 v d ps) :
    ∃ l : List ActV, RowA W v l ∧ ∀ x ∈ l, InA x := by
  obtain ⟨a0, len, cap, rfl⟩ := okWide_slice Tryd.underlying41 hval
  obtain ⟨fuel, hf⟩ := h
  rcases open_slice Tryd.underlying41 hf with ⟨hcs, _⟩ | ⟨a, len', cap', m, n, D, P, hcs, _, hl, hm, hmm, _, hi⟩
  · simp [Value.cells] at hcs
    obtain ⟨rfl, rfl, rfl⟩ := hcs
    exact ⟨[], ⟨none, 0, rfl, Nat.le_refl _, Nat.zero_le _, fun h => absurd h (by simp)⟩, fun x hx => by simp at hx⟩
  · simp [Value.cells] at hcs
    obtain ⟨rfl, rfl, rfl⟩ := hcs
    simp only [if_true] at hmm
    have each : ∀ i, i < len → ∃ q : ActV, (∀ j u, q.cells.toList[j]? = some u → W.cell? (a.add (i * 17 + j)) = some u) ∧ InA q := by
      intro i hlt
      obtain ⟨cs', h1, h2⟩ := hi i (by omega)
      rw [acells] at h1
      obtain ⟨_, hlen, hcell⟩ := World.cells?_some h1
      obtain ⟨q, e, hin⟩ := act_trod h2
      refine ⟨q, fun j u hu => ?_, hin⟩
      have hj : j < 17 := by have := (List.getElem?_eq_some_iff.1 hu).1; rw [ActV.size] at this; exact this
      have e0 := hcell j hj
      rw [add_add] at e0
      rw [e0, e]
      exact hu
    obtain ⟨q, hq⟩ := choose_lt each
    have hlen : ((List.range len).map q).length = len := by simp
    refine ⟨(List.range len).map q, ⟨some a, cap, by rw [hlen], by omega, hm, fun hp => ?_⟩, fun x hx => ?_⟩
    · have h0 := (hq 0 (by omega)).1 0 _ rfl
      have hspot : a.spot = none := by simpa [Addr.add] using World.cell?_spot h0
      obtain ⟨b, off, spot⟩ := a
      simp only at hspot
      subst hspot
      have hb : b < W.heap.size := World.block_lt_of_cell? _ _ (by rw [addr_plain] at h0; exact h0)
      refine ⟨b, off, rfl, hb, fun j hj i u hu => ?_⟩
      rw [List.getElem_map, List.getElem_range] at hu
      have := (hq j (by omega)).1 i u hu
      rw [addr_plain] at this
      rw [← this, Nat.add_assoc]
    · obtain ⟨i, hi', rfl⟩ := List.mem_map.1 hx
      exact (hq i (by simpa using hi')).2
end
end Go.Proofs.YthfiebdpoleeeaaDoor
