/-
  A chunk as the document has it: contracts. Whether two chunks are the same: a contract, of rows that are equal where their lengths are.
-/
import Derived.Test.YtlbaockipeojhaaGreatTail
import Derived.Test.YtlbaockipeojhaaGreatRow
import Derived.BigRegion
import Derived.ChangeKeysEq
section
namespace Go.Proofs.YtlbaockipeojhaaGreat
open Go.RowKit
set_option linter.unusedVariables false
set_option linter.unusedSimpArgs false
set_option maxRecDepth 100000

theorem rkSize : (Tryz.prog.info? 74).map (·.size) = some 14 := by kernel_rfl
/-- Append onto what the call owns from B on, as one step of a region that draws its order. -/
theorem step_append_base {P : Program} (w : World) {ops : Array Oper} {o : Oper} {a : Act} {K : Act → World → Prop} {Q : Exit → Act → World → Prop} {E : Prop} (hgd : o.guard = none) (s x : Operand) (t u : TypeId)
    (ho : o.op = .call { callee := .builtin .append, args := #[s, x], argTypes := #[t, u] })
    (B : Nat) (hB : B ≤ w.heap.size) (e : TypeId) (i : TypeInfo) (z : Value) (size bytes : Nat) (ht : P.underlying t = some (.slice e)) (hu : P.underlying u = some .string ∨ ∃ e', P.underlying u = some (.slice e')) (hi : P.info? e = some i) (hz : i.zero = some z)
    (hsize : i.size = size) (hby : i.bytes = bytes) (hzs : z.cells.size = size) (v : Value) (n : Nat) (xs : List Value) (hs : a.eval s = v) (hown : OwnG w B e size v n xs)
    (vx : Value) (m : Nat) (news : List Value) (hxe : a.eval x = vx) (hx : Fed P w size vx m news) (h63 : n + m ≤ maxLen) (hbytes : (n + m) * bytes ≤ 140737488355328)
    (h : ∀ v' w', OwnG w' B e size v' (n + m) (xs ++ news) → w.grownBy w' v.ownBlock → K (a.put o.dst v') w') :
    if Region.wanted o (yielded ops a.tmps) = true then Oper.wp P o a w K Q else E := by
  have hw : Region.wanted o (yielded ops a.tmps) = true := by simp [Region.wanted, hgd]
  rw [if_pos hw]
  obtain ⟨v', w', hr, h2, h3, _⟩ := run_append_fed (P := P) w B t u o.type e i z size bytes ht hu hi hz hsize hby hzs v n xs hown vx m news hx h63 hbytes hB
  unfold Oper.wp execOp
  simp only [ho, resolve, invoke, builtin, Sem.run_bind, Sem.run_pure, Result.andThen_ok, List.map_toArray, List.map_cons, List.map_nil, hs, hxe, hr]
  exact h v' w' h2 h3
/-- What the copying stands at: so many items are copied; where all lies. -/
def AsS (w : World) (S Z : Array Value) (O : Value → Array Value) (xs : List Value) (k : Nat) (W : World) : Prop :=
  ∃ A cap, W.heap[w.heap.size]? = some (.cells S 52 (0, 0)) ∧ W.heap[w.heap.size + 1]? = some (.cells Z 74 (0, 0)) ∧ W.heap[w.heap.size + 2]? = some (.cells (O (.slice A k cap)) 74 (0, 0)) ∧ OwnG W (w.heap.size + 3) 105 2 (.slice A k cap) k xs ∧ Below w.heap.size w W ∧ w.heap.size + 3 ≤ W.heap.size
/-- A chunk is handed back; where it lies. -/
def GaveQ (c : Ck) (w : World) (e : Ending) (w' : World) : Prop := ∃ g d it, e = .returned (.agg (cellsC c g d it)) ∧ Parts w' c g d it ∧ Below w.heap.size w w'
end Go.Proofs.YtlbaockipeojhaaGreat
end
section
namespace Go.Proofs.YtlbaockipeojhaaGreat
open Go.RowKit
set_option linter.unusedVariables false
set_option linter.unusedSimpArgs false
set_option maxRecDepth 100000

theorem neq_arr (x y : Nat) (w : World) : (binOp .neq 104 (.agg #[.int .u16 (x : Int), .int .u16 (y : Int)]) (.agg #[.int .u16 (x : Int), .int .u16 (y : Int)])).run Tryz.prog w = .ok (.bool false) w := by
  obtain ⟨i, hi⟩ := info_of_underlying Tryz.underlying22
  have hc : Tryz.prog.cellsOf 22 = 1 := by kernel_rfl
  rw [run_neq_struct, run_equalIn_array w 9999 _ _ Tryz.underlying104 hi, hc]
  simp [Op.eqItems, go_sem, List.range, List.range.loop]
theorem neq_itm (a : Int) (s : ByteArray) (w : World) : (binOp .neq 105 (.agg #[.int .i64 a, .string s]) (.agg #[.int .i64 a, .string s])).run Tryz.prog w = .ok (.bool false) w := by
  rw [neq_is, decide_eq_true rfl]
  rfl
/-- Whether all but the rows' elements is the same. -/
def sameB (a b : Ck) : Bool :=
  !(a.type != b.type) && !(a.flags != b.flags) && !((a.tsn : Int) != (b.tsn : Int)) && !((a.tag : Int) != (b.tag : Int)) && !((a.window : Int) != (b.window : Int)) && !((a.ppid : Int) != (b.ppid : Int)) && !((a.stream : Int) != (b.stream : Int)) && !((a.ssn : Int) != (b.ssn : Int)) && !((a.outs : Int) != (b.outs : Int)) && !((a.ins : Int) != (b.ins : Int)) && !(!a.text.toList == b.text.toList) && !((a.gaps.length : Int) != (b.gaps.length : Int)) && !((a.dups.length : Int) != (b.dups.length : Int)) && !((a.items.length : Int) != (b.items.length : Int))
theorem eqB_iff (a b : ByteArray) : (a.toList == b.toList) = decide (a = b) := by
  by_cases h : a = b
  · rw [eqB_true h, decide_eq_true h]
  · rw [eqB_false h, decide_eq_false h]
theorem sameB_iff (a b : Ck) (h1 : a.gaps.length = b.gaps.length → a.gaps = b.gaps) (h2 : a.dups.length = b.dups.length → a.dups = b.dups) (h3 : a.items.length = b.items.length → a.items = b.items) : sameB a b = true ↔ a = b := by
  unfold sameB
  obtain ⟨ty, fl, tsn, tag, win, ppid, st, ssn, outs, ins, gaps, dups, items, text⟩ := a
  obtain ⟨ty', fl', tsn', tag', win', ppid', st', ssn', outs', ins', gaps', dups', items', text'⟩ := b
  dsimp only at *
  simp only [eqB_iff, Bool.and_eq_true, Bool.not_eq_true', bne_eq_false_iff_eq, Bool.not_eq_false', decide_eq_true_eq, Int.ofNat_inj, Ck.mk.injEq, Bool.not_eq_true, Bool.not_not]
  constructor
  · rintro ⟨⟨⟨⟨⟨⟨⟨⟨⟨⟨⟨⟨⟨e1, e2⟩, e3⟩, e4⟩, e5⟩, e6⟩, e7⟩, e8⟩, e9⟩, e10⟩, e11⟩, e12⟩, e13⟩, e14⟩
    exact ⟨e1, e2, e3, e4, e5, e6, e7, e8, e9, e10, h1 e12, h2 e13, h3 e14, e11⟩
  · rintro ⟨e1, e2, e3, e4, e5, e6, e7, e8, e9, e10, e12, e13, e14, e11⟩
    exact ⟨⟨⟨⟨⟨⟨⟨⟨⟨⟨⟨⟨⟨e1, e2⟩, e3⟩, e4⟩, e5⟩, e6⟩, e7⟩, e8⟩, e9⟩, e10⟩, e11⟩, by rw [e12]⟩, by rw [e13]⟩, by rw [e14]⟩
theorem sameB_self (a : Ck) : sameB a a = true := (sameB_iff a a (fun _ => rfl) (fun _ => rfl) (fun _ => rfl)).2 rfl
/-- Two blocks laid, else as before. -/
def SmS (w : World) (CA CB : Array Value) (W : World) : Prop :=
  W.heap[w.heap.size]? = some (.cells CA 74 (0, 0)) ∧ W.heap[w.heap.size + 1]? = some (.cells CB 74 (0, 0)) ∧ Below w.heap.size w W
theorem SmS.drew {w W : World} {CA CB : Array Value} (h : SmS w CA CB W) : SmS w CA CB W.drew := ⟨h.1, h.2.1, h.2.2.drew⟩
theorem smS_new (w : World) (CA CB : Array Value) : SmS w CA CB ((w.alloc (.cells CA 74)).alloc (.cells CB 74)) := by
  have e1 : (w.alloc (.cells CA 74)).heap.size = w.heap.size + 1 := World.size_alloc _ _
  refine ⟨?_, ?_, ((Below.refl _ _).alloc (Nat.le_refl _) _).alloc (by omega) _⟩
  · rw [Below.heap_alloc _ _ _ (by omega)]
    exact heap_alloc_new w _
  · rw [← e1]
    exact heap_alloc_new _ _
end Go.Proofs.YtlbaockipeojhaaGreat
end
