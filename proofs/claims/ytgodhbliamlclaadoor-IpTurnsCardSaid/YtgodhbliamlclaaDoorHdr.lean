/-
  A header that comes in: its five fields.
-/
import Derived.Test.YtgodhbliamlclaaDoorLift
import Derived.Deep.Fields
namespace Go.Proofs.YtgodhbliamlclaaDoor
open Go.ChangeShapes Go.WideShapes Go.ChangeAt Go.RowKit Go.Deep
set_option linter.unusedVariables false

theorem five {α : Type} {l : List α} (h : l.length = 5) : ∃ a b c d e, l = [a, b, c, d, e] := by
  match l, h with
  | [a, b, c, d, e], _ => exact ⟨a, b, c, d, e, rfl⟩
theorem hcells : Tryd.prog.cellsOf 23 = 5 := by kernel_rfl
theorem cells_int : Tryd.prog.cellsOf 3 = 1 := by kernel_rfl
theorem cells_str : Tryd.prog.cellsOf 9 = 1 := by kernel_rfl
section
variable {H : Type} {enc : TypeId × Value → H} {w : World} {base : Nat} {spare : Nat → Bool} {held : Bool}
theorem open_header {r : Reach} {b0 : Nat} {v : Value} {d : DataW H} {p : List MemPlace} (hv : Value.okWide Tryd.prog w r b0 23 v) (h : DataW.Trod enc Tryd.prog w base spare held 23 v d p) :
    ∃ (ver hops mark : Int) (f t : ByteArray), v = .agg #[.int .i64 ver, .int .i64 hops, .int .i64 mark, .string f, .string t] ∧ (Lit.int .i64 ver).wf = true ∧ (Lit.int .i64 hops).wf = true ∧ (Lit.int .i64 mark).wf = true ∧ f.size ≤ maxLen ∧ t.size ≤ maxLen := by
  obtain ⟨cs, rfl, hsz⟩ := okWide_struct Tryd.underlying23 hv
  rw [hcells] at hsz
  obtain ⟨l⟩ := cs
  obtain ⟨c0, c1, c2, c3, c4, rfl⟩ := five (l := l) (by simpa using hsz)
  obtain ⟨fuel, hf⟩ := h
  obtain ⟨xs, n, _, _, _, hlen, hg⟩ := DataW.trod_struct Tryd.underlying23 hf
  obtain ⟨y0, y1, y2, y3, y4, rfl⟩ := five (l := xs) (by simpa using hlen)
  have g0 : DataW.trod enc Tryd.prog w base spare held n 3 [c0] = some y0 := by simpa [cells_int, cells_str, Value.cells] using hg 0 _ rfl
  have g1 : DataW.trod enc Tryd.prog w base spare held n 3 [c1] = some y1 := by simpa [cells_int, cells_str, Value.cells] using hg 1 _ rfl
  have g2 : DataW.trod enc Tryd.prog w base spare held n 3 [c2] = some y2 := by simpa [cells_int, cells_str, Value.cells] using hg 2 _ rfl
  have g3 : DataW.trod enc Tryd.prog w base spare held n 9 [c3] = some y3 := by simpa [cells_int, cells_str, Value.cells] using hg 3 _ rfl
  have g4 : DataW.trod enc Tryd.prog w base spare held n 9 [c4] = some y4 := by simpa [cells_int, cells_str, Value.cells] using hg 4 _ rfl
  obtain ⟨n0, e0, _, w0⟩ := DataW.trod_int Tryd.underlying3 g0
  obtain ⟨n1, e1, _, w1⟩ := DataW.trod_int Tryd.underlying3 g1
  obtain ⟨n2, e2, _, w2⟩ := DataW.trod_int Tryd.underlying3 g2
  obtain ⟨n3, e3, _, w3⟩ := DataW.trod_string Tryd.underlying9 g3
  obtain ⟨n4, e4, _, w4⟩ := DataW.trod_string Tryd.underlying9 g4
  injection e0 with e0
  injection e1 with e1
  injection e2 with e2
  injection e3 with e3
  injection e4 with e4
  subst e0
  subst e1
  subst e2
  subst e3
  subst e4
  exact ⟨n0, n1, n2, n3, n4, rfl, w0, w1, w2, w3, w4⟩
end
end Go.Proofs.YtgodhbliamlclaaDoor
