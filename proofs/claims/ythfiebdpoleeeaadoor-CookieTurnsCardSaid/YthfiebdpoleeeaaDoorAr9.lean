/-
  A state that comes in.
-/
import Derived.Test.YthfiebdpoleeeaaDoorSn9
import Derived.Deep.Fields
namespace Go.Proofs.YthfiebdpoleeeaaDoor
open Go.ChangeShapes Go.WideShapes Go.ChangeAt Go.RowKit Go.Deep
set_option linter.unusedVariables false
set_option linter.unusedSimpArgs false

theorem nat_u16 {n : Int} (h : (Lit.int .u16 n).wf = true) : ∃ m : Nat, n = (m : Int) ∧ m < 65536 := by
  have := bounds_u16 h
  exact ⟨n.toNat, by omega, by omega⟩
/-- The load of a whole struct that is asked for. -/
theorem wpList_load_want {P : Program} {ops : Array Oper} {rest : List Oper} {o : Oper} {a : Act} {w : World} {Q : Exit → Act → World → Prop} (hw : Region.wanted o (yielded ops a.tmps) = true) (ty : TypeId) (x : Operand) (ho : o.op = .load ty x)
    (g : Nat) (hx : a.eval x = .pointer (some ⟨g, 0, none⟩)) (t : TypeId) (cs : Array Value) (fr : Nat × Nat) (d : TypeDesc) (hg : w.heap[g]? = some (.cells cs t fr))
    (hu : P.underlying ty = some d) (hd : (match d with | .struct _ | .array _ _ => true | _ => false) = true) (hi : (P.info? ty).map (·.size) = some cs.size)
    (h : wpList P ops Q rest (a.put o.dst (.agg cs)) w) : wpList P ops Q (o :: rest) a w :=
  wpList_step fun K hK => by
    rw [if_pos hw]
    exact wp_load_row ty x ho g hx t cs fr d hg hu hd hi (hK _ _ h)
/-- A state as it comes in. -/
structure InS (s : St) : Prop where
  wf : WfS s
  peer : s.peer.size ≤ maxLen
  made : -9223372036854775808 ≤ s.made ∧ s.made ≤ 9223372036854775807
  life : -9223372036854775808 ≤ s.life ∧ s.life ≤ 9223372036854775807
theorem fourteen {α : Type} {l : List α} (h : l.length = 14) : ∃ a b c d e f g i j k m n p q, l = [a, b, c, d, e, f, g, i, j, k, m, n, p, q] := by
  match l, h with
  | [a, b, c, d, e, f, g, i, j, k, m, n, p, q], _ => exact ⟨a, b, c, d, e, f, g, i, j, k, m, n, p, q, rfl⟩
theorem scells : Tryd.prog.cellsOf 25 = 14 := by kernel_rfl
theorem cells_int : Tryd.prog.cellsOf 3 = 1 := by kernel_rfl
theorem cells_str : Tryd.prog.cellsOf 9 = 1 := by kernel_rfl
theorem cells_u32 : Tryd.prog.cellsOf 22 = 1 := by kernel_rfl
theorem cells_u16 : Tryd.prog.cellsOf 23 = 1 := by kernel_rfl
section
variable {H : Type} {enc : TypeId × Value → H} {w : World} {base : Nat} {spare : Nat → Bool} {held : Bool}
set_option maxHeartbeats 1000000 in
theorem state_trod {fuel : Nat} {cs : List Value} {x : DataW H × List MemPlace} (hf : DataW.trod enc Tryd.prog w base spare held fuel 25 cs = some x) : ∃ s : St, cs = (cellsS s).toList ∧ InS s := by
  obtain ⟨xs, n, _, _, hsz, hlen, hg⟩ := DataW.trod_struct Tryd.underlying25 hf
  rw [scells] at hsz
  obtain ⟨c0, c1, c2, c3, c4, c5, c6, c7, c8, c9, c10, c11, c12, c13, rfl⟩ := fourteen hsz
  obtain ⟨y0, y1, y2, y3, y4, y5, y6, y7, y8, y9, y10, y11, y12, y13, rfl⟩ := fourteen (l := xs) (by simpa using hlen)
  have g0 : DataW.trod enc Tryd.prog w base spare held n 22 [c0] = some y0 := by simpa [cells_int, cells_str, cells_u32, cells_u16, Value.cells] using hg 0 _ rfl
  have g1 : DataW.trod enc Tryd.prog w base spare held n 22 [c1] = some y1 := by simpa [cells_int, cells_str, cells_u32, cells_u16, Value.cells] using hg 1 _ rfl
  have g2 : DataW.trod enc Tryd.prog w base spare held n 22 [c2] = some y2 := by simpa [cells_int, cells_str, cells_u32, cells_u16, Value.cells] using hg 2 _ rfl
  have g3 : DataW.trod enc Tryd.prog w base spare held n 22 [c3] = some y3 := by simpa [cells_int, cells_str, cells_u32, cells_u16, Value.cells] using hg 3 _ rfl
  have g4 : DataW.trod enc Tryd.prog w base spare held n 22 [c4] = some y4 := by simpa [cells_int, cells_str, cells_u32, cells_u16, Value.cells] using hg 4 _ rfl
  have g5 : DataW.trod enc Tryd.prog w base spare held n 22 [c5] = some y5 := by simpa [cells_int, cells_str, cells_u32, cells_u16, Value.cells] using hg 5 _ rfl
  have g6 : DataW.trod enc Tryd.prog w base spare held n 22 [c6] = some y6 := by simpa [cells_int, cells_str, cells_u32, cells_u16, Value.cells] using hg 6 _ rfl
  have g7 : DataW.trod enc Tryd.prog w base spare held n 23 [c7] = some y7 := by simpa [cells_int, cells_str, cells_u32, cells_u16, Value.cells] using hg 7 _ rfl
  have g8 : DataW.trod enc Tryd.prog w base spare held n 23 [c8] = some y8 := by simpa [cells_int, cells_str, cells_u32, cells_u16, Value.cells] using hg 8 _ rfl
  have g9 : DataW.trod enc Tryd.prog w base spare held n 23 [c9] = some y9 := by simpa [cells_int, cells_str, cells_u32, cells_u16, Value.cells] using hg 9 _ rfl
  have g10 : DataW.trod enc Tryd.prog w base spare held n 23 [c10] = some y10 := by simpa [cells_int, cells_str, cells_u32, cells_u16, Value.cells] using hg 10 _ rfl
  have g11 : DataW.trod enc Tryd.prog w base spare held n 9 [c11] = some y11 := by simpa [cells_int, cells_str, cells_u32, cells_u16, Value.cells] using hg 11 _ rfl
  have g12 : DataW.trod enc Tryd.prog w base spare held n 3 [c12] = some y12 := by simpa [cells_int, cells_str, cells_u32, cells_u16, Value.cells] using hg 12 _ rfl
  have g13 : DataW.trod enc Tryd.prog w base spare held n 3 [c13] = some y13 := by simpa [cells_int, cells_str, cells_u32, cells_u16, Value.cells] using hg 13 _ rfl
  obtain ⟨n0, e0, _, w0⟩ := DataW.trod_int Tryd.underlying22 g0
  injection e0 with e0
  subst e0
  obtain ⟨m0, rfl, b0⟩ := nat_u32 w0
  obtain ⟨n1, e1, _, w1⟩ := DataW.trod_int Tryd.underlying22 g1
  injection e1 with e1
  subst e1
  obtain ⟨m1, rfl, b1⟩ := nat_u32 w1
  obtain ⟨n2, e2, _, w2⟩ := DataW.trod_int Tryd.underlying22 g2
  injection e2 with e2
  subst e2
  obtain ⟨m2, rfl, b2⟩ := nat_u32 w2
  obtain ⟨n3, e3, _, w3⟩ := DataW.trod_int Tryd.underlying22 g3
  injection e3 with e3
  subst e3
  obtain ⟨m3, rfl, b3⟩ := nat_u32 w3
  obtain ⟨n4, e4, _, w4⟩ := DataW.trod_int Tryd.underlying22 g4
  injection e4 with e4
  subst e4
  obtain ⟨m4, rfl, b4⟩ := nat_u32 w4
  obtain ⟨n5, e5, _, w5⟩ := DataW.trod_int Tryd.underlying22 g5
  injection e5 with e5
  subst e5
  obtain ⟨m5, rfl, b5⟩ := nat_u32 w5
  obtain ⟨n6, e6, _, w6⟩ := DataW.trod_int Tryd.underlying22 g6
  injection e6 with e6
  subst e6
  obtain ⟨m6, rfl, b6⟩ := nat_u32 w6
  obtain ⟨n7, e7, _, w7⟩ := DataW.trod_int Tryd.underlying23 g7
  injection e7 with e7
  subst e7
  obtain ⟨m7, rfl, b7⟩ := nat_u16 w7
  obtain ⟨n8, e8, _, w8⟩ := DataW.trod_int Tryd.underlying23 g8
  injection e8 with e8
  subst e8
  obtain ⟨m8, rfl, b8⟩ := nat_u16 w8
  obtain ⟨n9, e9, _, w9⟩ := DataW.trod_int Tryd.underlying23 g9
  injection e9 with e9
  subst e9
  obtain ⟨m9, rfl, b9⟩ := nat_u16 w9
  obtain ⟨n10, e10, _, w10⟩ := DataW.trod_int Tryd.underlying23 g10
  injection e10 with e10
  subst e10
  obtain ⟨m10, rfl, b10⟩ := nat_u16 w10
  obtain ⟨n11, e11, _, w11⟩ := DataW.trod_string Tryd.underlying9 g11
  injection e11 with e11
  subst e11
  obtain ⟨n12, e12, _, w12⟩ := DataW.trod_int Tryd.underlying3 g12
  injection e12 with e12
  subst e12
  have b12 := bounds_i64 w12
  obtain ⟨n13, e13, _, w13⟩ := DataW.trod_int Tryd.underlying3 g13
  injection e13 with e13
  subst e13
  have b13 := bounds_i64 w13
  exact ⟨⟨m0, m1, m2, m3, m4, m5, m6, m7, m8, m9, m10, n11, n12, n13⟩, rfl, ⟨⟨b0, b1, b2, b3, b4, b5, b6, b7, b8, b9, b10⟩, w11, by dsimp only; omega, by dsimp only; omega⟩⟩
set_option maxRecDepth 100000 in
theorem state_in {r : Reach} {b0 : Nat} {v : Value} {d : DataW H} {p : List MemPlace} (hv : Value.okWide Tryd.prog w r b0 25 v) (h : DataW.Trod enc Tryd.prog w base spare held 25 v d p) :
    ∃ s : St, v = .agg (cellsS s) ∧ InS s := by
  obtain ⟨cs, rfl, _⟩ := okWide_struct Tryd.underlying25 hv
  obtain ⟨fuel, hf⟩ := h
  obtain ⟨s, e, hs⟩ := state_trod hf
  refine ⟨s, ?_, hs⟩
  have e' : cs.toList = (cellsS s).toList := e
  rw [Array.toList_inj.1 e']
end
end Go.Proofs.YthfiebdpoleeeaaDoor
