/-
  A block that holds cells: loads and stores of it as a whole, of one cell, of a middle part; for whatever program.
-/
import Derived.WalkKit
import Derived.Lib.Hide
import Derived.Below
import Derived.Laws.OwnMore
import Derived.Deep.WholeRow
import Derived.Deep.MidRow
import Derived.Deep.RegionHeld3
import Derived.BigQuiet
import Derived.StillTailTactics
import Derived.Laws.StructEq
namespace Go.Proofs.Ytondgdacjbfihaa
open Go.RowKit
set_option linter.unusedVariables false

/-- Block g holds the cells cs. -/
def Bx (W : World) (g : Nat) (T : TypeId) (cs : Array Value) : Prop := W.heap[g]? = some (.cells cs T (0, 0))
section
variable {W W' w0 : World} {g k : Nat} {T : TypeId} {cs ds : Array Value}
theorem Bx.lt (h : Bx W g T cs) : g < W.heap.size := (Array.getElem?_eq_some_iff.1 h).1
theorem Bx.later (h : Bx W g T cs) (hb : Below W.heap.size W W') : Bx W' g T cs := (hb.block g h.lt).trans h
theorem Bx.under {n : Nat} (h : Bx W g T cs) (hb : Below n W W') (hn : g < n) : Bx W' g T cs := (hb.block g hn).trans h
theorem Bx.kept (h : Bx W g T cs) (hg : W.grownBy W' (some k)) (hne : g ≠ k) : Bx W' g T cs := (hg.block g h.lt (by simp; omega)).trans h
theorem Bx.fresh (W : World) (T : TypeId) (cs : Array Value) : Bx (W.alloc (.cells cs T)) W.heap.size T cs := heap_alloc_new W _
theorem Bx.old (h : Bx W g T cs) (o : Obj) : Bx (W.alloc o) g T cs := h.later ((Below.refl _ _).alloc (Nat.le_refl _) _)
theorem Bx.drew (h : Bx W g T cs) : Bx W.drew g T cs := h
theorem Bx.cell (h : Bx W g T cs) (i : Nat) (v : Value) (hv : cs[i]? = some v) : W.cell? ⟨g, i, none⟩ = some v := by rw [cell_of_row W g i _ _ (0, 0) h, hv]
theorem Bx.at (h : Bx W g T cs) (i : Nat) : W.cell? ⟨g, i, none⟩ = cs[i]? := cell_of_row W g i _ _ (0, 0) h
theorem Bx.free (h : Bx W g T cs) (i : Nat) : W.frozen? ⟨g, i, none⟩ = false := by simp [World.frozen?, show W.heap[g]? = some (.cells cs T (0, 0)) from h]
theorem Bx.range (h : Bx W g T cs) : W.rangeAt g 0 cs.toList := fun j v hv => by
  rw [Nat.zero_add, h.at]
  simpa using hv
theorem Bx.part (h : Bx W g T cs) (o : Nat) (l : List Value) (hl : ∀ j v, l[j]? = some v → cs[o + j]? = some v) : W.rangeAt g o l := fun j v hv => by
  rw [h.at]
  exact hl j v hv
theorem Bx.same (h : Bx W g T cs) (h' : Bx W g T ds) : cs = ds := by
  have := h.symm.trans h'
  simpa using this
theorem grown_cell (w : World) (g i : Nat) (v : Value) : w.grownBy (w.setCell ⟨g, i, none⟩ v) (some g) :=
  ⟨rfl, rfl, rfl, by simp, fun k _ hk => heap_setCell_other w ⟨g, i, none⟩ k v (fun e => hk (by rw [e]))⟩
theorem grown_rows (w : World) (g : Nat) (cs : Array Value) : w.grownBy (w.setRow g cs) (some g) :=
  ⟨rfl, rfl, rfl, by simp, fun k _ hk => setRow_other w g k cs (fun e => hk (by rw [e]))⟩
theorem Bx.setCell (h : Bx W g T cs) (i : Nat) (v : Value) : Bx (W.setCell ⟨g, i, none⟩ v) g T (cs.setIfInBounds i v) := heap_setCell_same W g i cs T v h
theorem Bx.setRow (h : Bx W g T cs) (ds : Array Value) : Bx (W.setRow g ds) g T ds := setRow_heap W g cs ds T (0, 0) h
theorem grown_then {a w w' : World} {row : Option Nat} (h : a.grownBy w row) (k : w.grownBy w' row) : a.grownBy w' row :=
  ⟨k.os.trans h.os, k.tape.trans h.tape, k.output.trans h.output, Nat.le_trans h.size k.size, fun j hj hne => (k.block j (Nat.lt_of_lt_of_le hj h.size) hne).trans (h.block j hj hne)⟩
theorem grown_of_below {w w' : World} {row : Option Nat} (h : Below w.heap.size w w') : w.grownBy w' row := ⟨h.os, h.tape, h.output, h.size, fun k hk _ => h.block k hk⟩
theorem below_of_grown1 {B g : Nat} {a w w' : World} (h : Below B a w) (hg : w.grownBy w' (some g)) (hB : B ≤ w.heap.size) (hb : B ≤ g) : Below B a w' := h.grown hg hB fun k hk => by cases hk; exact hb
theorem below_drawn {B : Nat} {a w : World} (h : Below B a w) : Below B a w.drew := ⟨h.os, h.tape, h.output, h.size, h.block⟩
theorem below_drawnN {B : Nat} {a w : World} (h : Below B a w) (n : Nat) : Below B a (w.drewN n) := ⟨h.os, h.tape, h.output, h.size, h.block⟩
/-- Block g, made since w0, holds cs; below nothing has turned. -/
structure BS (w0 : World) (g : Nat) (T : TypeId) (cs : Array Value) (W : World) : Prop where
  own : Bx W g T cs
  below : Below w0.heap.size w0 W
  new : w0.heap.size ≤ g
theorem BS.later (h : BS w0 g T cs W) (hb : Below W.heap.size W W') : BS w0 g T cs W' := ⟨h.own.later hb, h.below.trans (hb.mono h.below.size), h.new⟩
theorem BS.drew (h : BS w0 g T cs W) : BS w0 g T cs W.drew := ⟨h.own, below_drawn h.below, h.new⟩
theorem BS.set (h : BS w0 g T cs W) (ht : Bx W' g T ds) (hg : W.grownBy W' (some g)) : BS w0 g T ds W' := ⟨ht, below_of_grown1 h.below hg h.below.size h.new, h.new⟩
theorem BS.kept (h : BS w0 g T cs W) (hg : W.grownBy W' (some k)) (hk : w0.heap.size ≤ k) (hne : g ≠ k) : BS w0 g T cs W' := ⟨h.own.kept hg hne, below_of_grown1 h.below hg h.below.size hk, h.new⟩
theorem BS.alloc (h : BS w0 g T cs W) (o : Obj) : BS w0 g T cs (W.alloc o) := h.later ((Below.refl _ _).alloc (Nat.le_refl _) _)
theorem BS.made (h : Below w0.heap.size w0 W) (T : TypeId) (cs : Array Value) : BS w0 W.heap.size T cs (W.alloc (.cells cs T)) := ⟨Bx.fresh W T cs, h.alloc h.size _, h.size⟩
theorem BS.first (w : World) (T : TypeId) (cs : Array Value) : BS w w.heap.size T cs (w.alloc (.cells cs T)) := BS.made (Below.refl _ _) T cs
end
section
variable {P : Program} {ops : Array Oper} {rest : List Oper} {o : Oper} {a : Act} {w : World} {Q : Exit → Act → World → Prop}
/-- One cell is stored. -/
theorem run_storeVar_cell (w : World) (b i : Nat) (ty T : TypeId) (v : Value) {cs : Array Value} (h : Bx w b T cs) (hi' : i < cs.size) (hi : (P.info? ty).map (·.size) = some 1) (h1 : v.oneCell' = true) :
    (storeVar ty ⟨b, i, none⟩ v).run P w = .ok () (w.setCell ⟨b, i, none⟩ v) := by
  have hth : w.there b i 1 := fun j hj => by
    obtain rfl : j = 0 := by omega
    refine ⟨?_, h.free i⟩
    rw [Nat.add_zero, h.at, Array.getElem?_eq_getElem hi']
    rfl
  have := run_storeCells_cells (P := P) b i [v] 0 w (fun j hj => by simpa using (hth j (by simpa using hj)).1) (fun j hj => by simpa using (hth j (by simpa using hj)).2) (fun x hx => by simp at hx; subst hx; exact h1)
  have hc : v.cells = #[v] := by cases v <;> first | rfl | cases h1
  cases hq : P.info? ty with
  | none => simp [hq] at hi
  | some q =>
    have hs : q.size = 1 := by simpa [hq] using hi
    simp only [Nat.add_zero] at this
    simpa [storeVar, sizeOf, typeInfo, hq, hc, hs, World.setCells] using this
theorem wpF {K : Act → World → Prop} {ty T : TypeId} {x y : Operand} {g i : Nat} {cs : Array Value} (v : Value) (ho : o.op = .store ty x y) (hx : a.eval x = .pointer (some ⟨g, i, none⟩)) (hy : a.eval y = v) (h : Bx w g T cs) (hi' : i < cs.size) (hi : (P.info? ty).map (·.size) = some 1) (h1 : v.oneCell' = true)
    (hk : ∀ W', Bx W' g T (cs.setIfInBounds i v) → w.grownBy W' (some g) → W' = w.setCell ⟨g, i, none⟩ v → K (a.put o.dst undef) W') : o.wp P a w K Q := by
  unfold Oper.wp execOp
  simp only [ho, hx, hy, Instr.storeAt, Instr.sureAddr, Sem.run_bind, Sem.run_pure, Result.andThen_ok, run_storeVar_cell w g i ty T v h hi' hi h1]
  exact hk _ (h.setCell i v) (grown_cell w g i v) rfl
/-- A field is stored. -/
theorem stF {ty T : TypeId} {x y : Operand} {g i : Nat} {cs : Array Value} (v : Value) (hgd : o.guard = none) (ho : o.op = .store ty x y) (hx : a.eval x = .pointer (some ⟨g, i, none⟩)) (hy : a.eval y = v) (h : Bx w g T cs) (hi' : i < cs.size) (hi : (P.info? ty).map (·.size) = some 1) (h1 : v.oneCell' = true)
    (hk : ∀ W', Bx W' g T (cs.setIfInBounds i v) → w.grownBy W' (some g) → wpList P ops Q rest (a.put o.dst undef) W') : wpList P ops Q (o :: rest) a w :=
  wpList_plain hgd fun _ hK => wpF v ho hx hy h hi' hi h1 fun W' h1 h2 _ => hK _ _ (hk W' h1 h2)
/-- All of a block is loaded. -/
theorem ldB {ty : TypeId} {x : Operand} {g : Nat} {cs : Array Value} {T : TypeId} {d : TypeDesc} (hgd : o.guard = none) (ho : o.op = .load ty x) (hx : a.eval x = .pointer (some ⟨g, 0, none⟩)) (h : Bx w g T cs)
    (hu : P.underlying ty = some d) (hd : (match d with | .struct _ | .array _ _ => true | _ => false) = true) (hi : (P.info? ty).map (·.size) = some cs.size)
    (hk : wpList P ops Q rest (a.put o.dst (.agg cs)) w) : wpList P ops Q (o :: rest) a w :=
  wpList_load_row hgd ty x ho g hx T cs (0, 0) d h hu hd hi hk
/-- All of a block is stored. -/
theorem stB {ty T : TypeId} {x y : Operand} {g : Nat} {cs : Array Value} (ds : Array Value) (hgd : o.guard = none) (ho : o.op = .store ty x y) (hx : a.eval x = .pointer (some ⟨g, 0, none⟩)) (hy : a.eval y = .agg ds) (h : Bx w g T cs)
    (hi : (P.info? ty).map (·.size) = some ds.size) (hz : cs.size = ds.size) (h1 : ds.all (·.oneCell') = true)
    (hk : ∀ W', Bx W' g T ds → w.grownBy W' (some g) → wpList P ops Q rest (a.put o.dst undef) W') : wpList P ops Q (o :: rest) a w :=
  wpList_store_row hgd ty x y ho g ds hx hy T cs h hi hz h1 (hk _ (h.setRow ds) (grown_rows _ _ _))
theorem wpB {K : Act → World → Prop} {ty T : TypeId} {x y : Operand} {g : Nat} {cs : Array Value} (ds : Array Value) (ho : o.op = .store ty x y) (hx : a.eval x = .pointer (some ⟨g, 0, none⟩)) (hy : a.eval y = .agg ds) (h : Bx w g T cs)
    (hi : (P.info? ty).map (·.size) = some ds.size) (hz : cs.size = ds.size) (h1 : ds.all (·.oneCell') = true)
    (hk : ∀ W', Bx W' g T ds → w.grownBy W' (some g) → K (a.put o.dst undef) W') : o.wp P a w K Q :=
  wp_store_row ty x y ho g ds hx hy T cs h hi hz h1 (hk _ (h.setRow ds) (grown_rows _ _ _))
/-- A part of a block is loaded. -/
theorem ldP {ty : TypeId} {x : Operand} {g i : Nat} {l : List Value} {d : TypeDesc} (hgd : o.guard = none) (ho : o.op = .load ty x) (hx : a.eval x = .pointer (some ⟨g, i, none⟩)) (h : w.rangeAt g i l)
    (hu : P.underlying ty = some d) (hd : d.isRow = true) (hi : (P.info? ty).map (·.size) = some l.length)
    (hk : wpList P ops Q rest (a.put o.dst (.agg l.toArray)) w) : wpList P ops Q (o :: rest) a w :=
  wpList_load_mid hgd ty x ho g i hx l d h hu hd hi hk
/-- A load of a whole block, in a region. -/
theorem yB {S : World → Prop} {op : Oper} (hw : Region.wanted op (yielded ops a.tmps) = true) {ty : TypeId} {x : Operand} {g : Nat} {T : TypeId} {cs : Array Value} {d : TypeDesc} (ho : op.op = .load ty x) (hx : a.eval x = .pointer (some ⟨g, 0, none⟩)) (hS : ∀ w, S w → Bx w g T cs)
    (hu : P.underlying ty = some d) (hd : d.isRow = true) (hi : (P.info? ty).map (·.size) = some cs.size) : YieldsIf P ops S op (.agg cs) a := by
  have := yieldsIf_load_mid (P := P) (ops := ops) (S := S) hw ty x ho g 0 hx cs.toList d (fun w h => (hS w h).range) hu hd (by simpa using hi)
  simpa using this
theorem gate9 {P : Program} {l : List Oper} (h : wpList P ops Q l a w) : wpList P ops Q l a w := h
end
/-- The result lies in a cell of its own. -/
theorem ret_cell {P : Program} {fn : Func} {p : Tmp} {ty : TypeId} (h : fn.results = #[.cell p ty]) {tmps : Array Value} {w : World} {g : Nat} {T : TypeId} {cs : Array Value} {d : TypeDesc}
    (hp : tmps.getD p undef = .pointer (some ⟨g, 0, none⟩)) (hg : Bx w g T cs)
    (hu : P.underlying ty = some d) (hd : (match d with | .struct _ | .array _ _ => true | _ => false) = true) (hi : (P.info? ty).map (·.size) = some cs.size) : (results fn tmps).run P w = .ok (.agg cs) w :=
  results_cell_row h tmps w g T cs (0, 0) d hp hg hu hd hi
theorem heap_two (w : World) (a b : Obj) : ((w.alloc a).alloc b).heap[w.heap.size + 1]? = some b := by
  have h := heap_alloc_new (w.alloc a) b
  rw [World.size_alloc] at h
  exact h
theorem below_two (w : World) (a b : Obj) : Below w.heap.size w ((w.alloc a).alloc b) := ((Below.refl _ _).alloc (Nat.le_refl _) _).alloc (by rw [World.size_alloc]; omega) _
/-- An argument in its box, and a result's cell. -/
theorem two_open (w : World) (T T' : TypeId) (cs zs : Array Value) : ∃ W, (w.alloc (.cells cs T)).alloc (.cells zs T') = W ∧ Hid (Bx W w.heap.size T cs) ∧ Hid (Bx W (w.heap.size + 1) T' zs) ∧ Hid (Below w.heap.size w W) ∧ W.heap.size = w.heap.size + 2 := by
  have h := Bx.fresh (w.alloc (.cells cs T)) T' zs
  rw [World.size_alloc] at h
  exact ⟨_, rfl, Lib.hid ((Bx.fresh w T cs).old _), Lib.hid h, Lib.hid (((Below.refl _ _).alloc (Nat.le_refl _) _).alloc (by rw [World.size_alloc]; omega) _), by simp⟩
end Go.Proofs.Ytondgdacjbfihaa
