/-
  A timer in a block: loads and stores of it as a whole; words for walks.
-/
import Derived.Test.YtdklldennckniaaRtoB
import Derived.Test.YtdklldennckniaaWaits
import Derived.Deep.MidRow
import Derived.Laws.StructEq
namespace Go.Proofs.Ytdklldennckniaa
open Go.RowKit
set_option linter.unusedVariables false

/-- A timer lies in block g. -/
def Tx (W : World) (g : Nat) (t : Tm) : Prop := W.heap[g]? = some (.cells (cellsT t) 25 (0, 0))
theorem Tx.lt {W : World} {g : Nat} {t : Tm} (h : Tx W g t) : g < W.heap.size := (Array.getElem?_eq_some_iff.1 h).1
theorem Tx.later {W W' : World} {g : Nat} {t : Tm} (h : Tx W g t) (hb : Below W.heap.size W W') : Tx W' g t := (hb.block g h.lt).trans h
theorem Tx.kept {W W' : World} {g k : Nat} {t : Tm} (h : Tx W g t) (hg : W.grownBy W' (some k)) (hne : g ≠ k) : Tx W' g t := (hg.block g h.lt (by simp; omega)).trans h
theorem Tx.fresh (W : World) (t : Tm) : Tx (W.alloc (.cells (cellsT t) 25)) W.heap.size t := heap_alloc_new W _
theorem Tx.c {W : World} {g : Nat} {t : Tm} (h : Tx W g t) : W.cell? ⟨g, 0, none⟩ = some (.int .i64 t.srtt) ∧ W.cell? ⟨g, 1, none⟩ = some (.int .i64 t.var) ∧ W.cell? ⟨g, 2, none⟩ = some (.int .i64 t.rto) ∧ W.cell? ⟨g, 3, none⟩ = some (.int .i64 t.backs) ∧ W.cell? ⟨g, 4, none⟩ = some (.bool t.known) := by
  refine ⟨?_, ?_, ?_, ?_, ?_⟩ <;> (rw [cell_of_row W g _ _ _ (0, 0) h]; rfl)
theorem Tx.range {W : World} {g : Nat} {t : Tm} (h : Tx W g t) : W.rangeAt g 0 [.int .i64 t.srtt, .int .i64 t.var, .int .i64 t.rto, .int .i64 t.backs, .bool t.known] := fun j v hv => by
  rw [Nat.zero_add, cell_of_row W g j _ _ (0, 0) h]
  rw [cellsT, List.getElem?_toArray]
  exact hv
theorem grown_row (w : World) (g : Nat) (cs : Array Value) : w.grownBy (w.setRow g cs) (some g) :=
  ⟨rfl, rfl, rfl, by simp, fun k _ hk => setRow_other w g k cs (fun e => hk (by rw [e]))⟩
theorem grown_trans {a w w' : World} {row : Option Nat} (h : a.grownBy w row) (k : w.grownBy w' row) : a.grownBy w' row :=
  ⟨k.os.trans h.os, k.tape.trans h.tape, k.output.trans h.output, Nat.le_trans h.size k.size, fun j hj hne => (k.block j (Nat.lt_of_lt_of_le hj h.size) hne).trans (h.block j hj hne)⟩
theorem grownBy_of_below {w w' : World} {row : Option Nat} (h : Below w.heap.size w w') : w.grownBy w' row := ⟨h.os, h.tape, h.output, h.size, fun k hk _ => h.block k hk⟩
theorem below_grown {B g : Nat} {a w w' : World} (h : Below B a w) (hg : w.grownBy w' (some g)) (hB : B ≤ w.heap.size) (hb : B ≤ g) : Below B a w' := h.grown hg hB fun k hk => by cases hk; exact hb
/-- Block g, made since w0, holds t; below nothing has turned. -/
structure TS (w0 : World) (g : Nat) (t : Tm) (W : World) : Prop where
  own : Tx W g t
  below : Below w0.heap.size w0 W
  new : w0.heap.size ≤ g
theorem TS.later {w0 W W' : World} {g : Nat} {t : Tm} (h : TS w0 g t W) (hb : Below W.heap.size W W') : TS w0 g t W' := ⟨h.own.later hb, h.below.trans (hb.mono h.below.size), h.new⟩
theorem TS.drew {w0 W : World} {g : Nat} {t : Tm} (h : TS w0 g t W) : TS w0 g t W.drew := ⟨h.own, below_drew h.below, h.new⟩
theorem TS.set {w0 W W' : World} {g : Nat} {t t' : Tm} (h : TS w0 g t W) (ht : Tx W' g t') (hg : W.grownBy W' (some g)) : TS w0 g t' W' := ⟨ht, below_grown h.below hg h.below.size h.new, h.new⟩
theorem TS.kept {w0 W W' : World} {g k : Nat} {t : Tm} (h : TS w0 g t W) (hg : W.grownBy W' (some k)) (hk : w0.heap.size ≤ k) (hne : g ≠ k) : TS w0 g t W' := ⟨h.own.kept hg hne, below_grown h.below hg h.below.size hk, h.new⟩
theorem TS.alloc {w0 W : World} {g : Nat} {t : Tm} (h : TS w0 g t W) (o : Obj) : TS w0 g t (W.alloc o) := h.later ((Below.refl _ _).alloc (Nat.le_refl _) _)
theorem TS.made {w0 W : World} (h : Below w0.heap.size w0 W) (t : Tm) : TS w0 W.heap.size t (W.alloc (.cells (cellsT t) 25)) := ⟨Tx.fresh W t, h.alloc h.size _, h.size⟩
theorem infoT : (Try.prog.info? 25).map (·.size) = some 5 := by kernel_rfl
section
variable {ops : Array Oper} {rest : List Oper} {o : Oper} {a : Act} {w : World} {Q : Exit → Act → World → Prop}
/-- A timer is loaded as a whole. -/
theorem ldT (x : Operand) {t : Tm} (g : Nat) (hgd : o.guard = none) (ho : o.op = .load 25 x) (hx : a.eval x = .pointer (some ⟨g, 0, none⟩)) (h : Tx w g t)
    (hk : wpList Try.prog ops Q rest (a.put o.dst (.agg (cellsT t))) w) : wpList Try.prog ops Q (o :: rest) a w :=
  wpList_load_row hgd 25 x ho g hx 25 (cellsT t) (0, 0) _ h Try.underlying25 rfl infoT hk
/-- A timer is stored as a whole. -/
theorem stT (x y : Operand) {t : Tm} (t' : Tm) (g : Nat) (hgd : o.guard = none) (ho : o.op = .store 25 x y) (hx : a.eval x = .pointer (some ⟨g, 0, none⟩)) (hy : a.eval y = .agg (cellsT t')) (h : Tx w g t)
    (hk : ∀ W', Tx W' g t' → w.grownBy W' (some g) → wpList Try.prog ops Q rest (a.put o.dst undef) W') : wpList Try.prog ops Q (o :: rest) a w :=
  wpList_store_row hgd 25 x y ho g (cellsT t') hx hy 25 (cellsT t) h infoT rfl (cellsT_one t') (hk _ (setRow_heap _ _ _ _ _ _ h) (grown_row _ _ _))
/-- .. in a region. -/
theorem wstT {K : Act → World → Prop} (x y : Operand) {t : Tm} (t' : Tm) (g : Nat) (ho : o.op = .store 25 x y) (hx : a.eval x = .pointer (some ⟨g, 0, none⟩)) (hy : a.eval y = .agg (cellsT t')) (h : Tx w g t)
    (hk : ∀ W', Tx W' g t' → w.grownBy W' (some g) → K (a.put o.dst undef) W') : Oper.wp Try.prog o a w K Q :=
  wp_store_row 25 x y ho g (cellsT t') hx hy 25 (cellsT t) h infoT rfl (cellsT_one t') (hk _ (setRow_heap _ _ _ _ _ _ h) (grown_row _ _ _))
/-- A load of a whole timer, in a region. -/
theorem yT {S : World → Prop} {op : Oper} (hw : Region.wanted op (yielded ops a.tmps) = true) (x : Operand) (ho : op.op = .load 25 x) (g : Nat) (hx : a.eval x = .pointer (some ⟨g, 0, none⟩)) (t : Tm) (hS : ∀ w, S w → Tx w g t) : YieldsIf Try.prog ops S op (.agg (cellsT t)) a :=
  yieldsIf_load_mid hw 25 x ho g 0 hx [.int .i64 t.srtt, .int .i64 t.var, .int .i64 t.rto, .int .i64 t.backs, .bool t.known] _ (fun w h => (hS w h).range) Try.underlying25 rfl infoT
theorem gate9 {P : Program} {l : List Oper} (h : wpList P ops Q l a w) : wpList P ops Q l a w := h
end
set_option maxRecDepth 100000 in
set_option maxHeartbeats 1000000 in
theorem equal_same (s : Tm) (w : World) : (Op.equalIn 10000 25 (.agg (cellsT s)) (.agg (cellsT s))).run Try.prog w = .ok true w := by
  have hu := Try.underlying25
  rw [run_equalIn_struct w 9999 _ _ _ (by unfold Program.fieldsOf; rw [hu]) Try.stoodInHeld25]
  unfold Program.fieldsOf
  rw [hu]
  obtain ⟨a0, a1, a2, a3, a4⟩ := s
  simp [Op.eqFields, go_sem, cellsT]
theorem eql_same (s : Tm) (w : World) : (binOp .eql 25 (.agg (cellsT s)) (.agg (cellsT s))).run Try.prog w = .ok (.bool true) w := by
  rw [run_eql_struct, equal_same]
  rfl
/-- So many times in vain. -/
def backN : Nat → Tm → Tm
  | 0, t => t
  | k + 1, t => backT (backN k t)
theorem backN_wf {t : Tm} (h : WfT t) : ∀ k, WfT (backN k t)
  | 0 => h
  | k + 1 => back_wf (backN_wf h k)
theorem backN_rto {t : Tm} (h : 1000 ≤ t.rto) (h' : t.rto ≤ 60000) : ∀ k, 1000 ≤ (backN k t).rto ∧ (backN k t).rto ≤ 60000
  | 0 => ⟨h, h'⟩
  | k + 1 => asRtoI_le _
theorem back_twice (t : Tm) (h : 1000 ≤ t.rto) (h' : t.rto ≤ 60000) : (backT t).rto = min (2 * t.rto) 60000 := by
  show heldI (2 * heldI t.rto 0 60000) 1000 60000 = _
  unfold heldI
  omega
theorem back_more (t : Tm) (h : 1000 ≤ t.rto) (h' : t.rto ≤ 60000) : t.rto ≤ (backT t).rto := by rw [back_twice t h h']; omega
theorem back_six (t : Tm) (h : 1000 ≤ t.rto) (h' : t.rto ≤ 60000) : (backN 6 t).rto = 60000 := by
  have r := backN_rto h h'
  have e0 : (backN 0 t).rto = t.rto := rfl
  have e1 := back_twice (backN 0 t) (r 0).1 (r 0).2
  have e2 := back_twice (backN 1 t) (r 1).1 (r 1).2
  have e3 := back_twice (backN 2 t) (r 2).1 (r 2).2
  have e4 := back_twice (backN 3 t) (r 3).1 (r 3).2
  have e5 := back_twice (backN 4 t) (r 4).1 (r 4).2
  have e6 := back_twice (backN 5 t) (r 5).1 (r 5).2
  change (backN 1 t).rto = _ at e1
  change (backN 2 t).rto = _ at e2
  change (backN 3 t).rto = _ at e3
  change (backN 4 t).rto = _ at e4
  change (backN 5 t).rto = _ at e5
  change (backN 6 t).rto = _ at e6
  omega
theorem backN_rest (t : Tm) : ∀ k, (backN k t).srtt = t.srtt ∧ (backN k t).var = t.var ∧ (backN k t).known = t.known
  | 0 => ⟨rfl, rfl, rfl⟩
  | k + 1 => backN_rest t k
theorem backN_backs {t : Tm} (h : t.backs = 0) : ∀ k, k ≤ 999 → (backN k t).backs = (k : Int)
  | 0, _ => h
  | k + 1, hk => by
    show min (backN k t).backs 999 + 1 = _
    rw [backN_backs h k (by omega)]
    omega
/-- What was seen first, and waited in vain, is as it was when it is heard of again. -/
theorem good_back (r : Int) (k : Nat) : goodT (backN k (sampleT newT r)) = sampleT newT r := by
  obtain ⟨h1, h2, h3⟩ := backN_rest (sampleT newT r) k
  unfold goodT
  rw [h1, h2, h3]
  have h0 := heldI_le (n := r) (show (0 : Int) ≤ 60000 by omega)
  have g1 := srttI_le newT _ h0.1 h0.2
  have g2 := varI_le newT _ h0.1 h0.2
  show (⟨srttI newT (heldI r 0 60000), varI newT (heldI r 0 60000), waitI (keptI (srttI newT (heldI r 0 60000))) (keptI (varI newT (heldI r 0 60000))), 0, true⟩ : Tm) = _
  rw [keptI_in g1.1 g1.2, keptI_in g2.1 g2.2]
  rfl
end Go.Proofs.Ytdklldennckniaa
