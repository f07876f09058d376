/-
  Whether two chunks are the same: a contract, of rows that are equal where their lengths are.
-/
import Derived.Test.YtjdnlolhcjalmaaAs
import Derived.ChangeKeysEq
namespace Go.Proofs.Ytjdnlolhcjalmaa
open Go.RowKit
set_option linter.unusedVariables false
set_option linter.unusedSimpArgs false
set_option maxRecDepth 100000

theorem neq_arr (x y : Nat) (w : World) : (binOp .neq 98 (.agg #[.int .u16 (x : Int), .int .u16 (y : Int)]) (.agg #[.int .u16 (x : Int), .int .u16 (y : Int)])).run Try.prog w = .ok (.bool false) w := by
  obtain ⟨i, hi⟩ := info_of_underlying Try.underlying23
  have hc : Try.prog.cellsOf 23 = 1 := by kernel_rfl
  rw [run_neq_struct, run_equalIn_array w 9999 _ _ Try.underlying98 hi, hc]
  simp [Op.eqItems, go_sem, List.range, List.range.loop]
theorem neq_itm (a : Int) (s : ByteArray) (w : World) : (binOp .neq 67 (.agg #[.int .i64 a, .string s]) (.agg #[.int .i64 a, .string s])).run Try.prog w = .ok (.bool false) w := by
  rw [neq_is, decide_eq_true rfl]
  rfl
/-- Whether all but the rows' elements is the same. -/
def sameB (a b : Ck) : Bool :=
  !(a.type != b.type) && !(a.flags != b.flags) && !((a.tsn : Int) != (b.tsn : Int)) && !((a.tag : Int) != (b.tag : Int)) && !((a.window : Int) != (b.window : Int)) && !((a.ppid : Int) != (b.ppid : Int)) && !((a.stream : Int) != (b.stream : Int)) && !((a.ssn : Int) != (b.ssn : Int)) && !((a.outs : Int) != (b.outs : Int)) && !((a.ins : Int) != (b.ins : Int)) && !(!a.text.toList == b.text.toList) && !((a.gaps.length : Int) != (b.gaps.length : Int)) && !((a.dups.length : Int) != (b.dups.length : Int)) && !((a.items.length : Int) != (b.items.length : Int))
theorem eqB_iff (a b : ByteArray) : (a.toList == b.toList) = decide (a = b) := by
  by_cases h : a = b
  · rw [eqB_true h, decide_eq_true h]
  · rw [eqB_false h, decide_eq_false h]
theorem sameB_iff (a b : Ck) (h1 : a.gaps.length = b.gaps.length → a.gaps = b.gaps) (h2 : a.dups.length = b.dups.length → a.dups = b.dups) (h3 : a.items.length = b.items.length → a.items = b.items) : sameB a b = true ↔ a = b := by
  unfold sameB
  obtain ⟨ty, fl, tsn, tag, win, ppid, st, ssn, outs, ins, gaps, dups, items, text⟩ := a
  obtain ⟨ty', fl', tsn', tag', win', ppid', st', ssn', outs', ins', gaps', dups', items', text'⟩ := b
  dsimp only at *
  simp only [eqB_iff, Bool.and_eq_true, Bool.not_eq_true', bne_eq_false_iff_eq, Bool.not_eq_false', decide_eq_true_eq, Int.ofNat_inj, Ck.mk.injEq, Bool.not_eq_true, Bool.not_not]
  constructor
  · rintro ⟨⟨⟨⟨⟨⟨⟨⟨⟨⟨⟨⟨⟨e1, e2⟩, e3⟩, e4⟩, e5⟩, e6⟩, e7⟩, e8⟩, e9⟩, e10⟩, e11⟩, e12⟩, e13⟩, e14⟩
    exact ⟨e1, e2, e3, e4, e5, e6, e7, e8, e9, e10, h1 e12, h2 e13, h3 e14, e11⟩
  · rintro ⟨e1, e2, e3, e4, e5, e6, e7, e8, e9, e10, e12, e13, e14, e11⟩
    exact ⟨⟨⟨⟨⟨⟨⟨⟨⟨⟨⟨⟨⟨e1, e2⟩, e3⟩, e4⟩, e5⟩, e6⟩, e7⟩, e8⟩, e9⟩, e10⟩, e11⟩, by rw [e12]⟩, by rw [e13]⟩, by rw [e14]⟩
theorem sameB_self (a : Ck) : sameB a a = true := (sameB_iff a a (fun _ => rfl) (fun _ => rfl) (fun _ => rfl)).2 rfl
/-- Two blocks laid, else as before. -/
def SmS (w : World) (CA CB : Array Value) (W : World) : Prop :=
  W.heap[w.heap.size]? = some (.cells CA 37 (0, 0)) ∧ W.heap[w.heap.size + 1]? = some (.cells CB 37 (0, 0)) ∧ Below w.heap.size w W
theorem SmS.drew {w W : World} {CA CB : Array Value} (h : SmS w CA CB W) : SmS w CA CB W.drew := ⟨h.1, h.2.1, h.2.2.drew⟩
theorem smS_new (w : World) (CA CB : Array Value) : SmS w CA CB ((w.alloc (.cells CA 37)).alloc (.cells CB 37)) := by
  have e1 : (w.alloc (.cells CA 37)).heap.size = w.heap.size + 1 := World.size_alloc _ _
  refine ⟨?_, ?_, ((Below.refl _ _).alloc (Nat.le_refl _) _).alloc (by omega) _⟩
  · rw [Below.heap_alloc _ _ _ (by omega)]
    exact heap_alloc_new w _
  · rw [← e1]
    exact heap_alloc_new _ _
end Go.Proofs.Ytjdnlolhcjalmaa
