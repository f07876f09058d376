/-
  Two messages that are the same.
-/
import Derived.Test.YtondgdacjbfihaaPa
namespace Go.Proofs.Ytondgdacjbfihaa
open Go.RowKit
set_option linter.unusedVariables false
set_option linter.unusedSimpArgs false
set_option maxRecDepth 100000

theorem equal_m (x : Mg) (w : World) : (Op.equalIn 10000 40 (.agg (cellsMg x)) (.agg (cellsMg x))).run Try.prog w = .ok true w := by
  have hu := Try.underlying40
  rw [run_equalIn_struct w 9999 _ _ _ (by unfold Program.fieldsOf; rw [hu]) Try.stoodInHeld40]
  unfold Program.fieldsOf
  rw [hu]
  obtain ⟨fi, fr, st, ss, pp, tx⟩ := x
  simp [Op.eqFields, go_sem, cellsMg]
theorem guard_m (x y : Operand) (b : BinOp) (cs ds : Array Value) (w : World) : (eqGuard b 40 x y (.agg cs) (.agg ds)).run Try.prog w = .ok () w := by
  have h0 : Try.prog.eqGuardType Try.prog.depth 40 = false := by kernel_rfl
  cases b <;> simp [eqGuard, go_sem, h0]
theorem neq_m (x : Mg) (w : World) : (binOp .neq 40 (.agg (cellsMg x)) (.agg (cellsMg x))).run Try.prog w = .ok (.bool false) w := by
  rw [run_neq_struct, equal_m]
  rfl
theorem eql_m (x : Mg) (w : World) : (binOp .eql 40 (.agg (cellsMg x)) (.agg (cellsMg x))).run Try.prog w = .ok (.bool true) w := by
  rw [run_eql_struct, equal_m]
  rfl
def freeM (m : Mg) : Mg := ⟨m.fi, true, m.st, m.ss, m.pp, m.tx⟩
theorem free_set (m : Mg) : (cellsMg m).setIfInBounds 1 (.bool true) = cellsMg (freeM m) := rfl
theorem put_freeM (nx : List UInt16) (wt : List Mg) (m : Mg) (h : m.st.toNat < nx.length) : putE nx wt (freeM m) = 0 ∧ putN nx wt (freeM m) = nx ∧ putW nx wt (freeM m) = wt ∧ putT nx wt (freeM m) = [freeM m] := by
  have c1 : ¬ nx.length ≤ (freeM m).st.toNat := by show ¬ nx.length ≤ m.st.toNat; omega
  have hf : (freeM m).fr = true := rfl
  unfold putE putN putW putT
  simp [c1, hf]
theorem put_noneM (nx : List UInt16) (wt : List Mg) (m : Mg) (h : nx.length ≤ m.st.toNat) : putE nx wt (freeM m) = 12 ∧ putN nx wt (freeM m) = [] ∧ putW nx wt (freeM m) = [] ∧ putT nx wt (freeM m) = [] := by
  have c1 : nx.length ≤ (freeM m).st.toNat := h
  unfold putE putN putW putT
  simp [c1]
theorem newN_len {n : Int} (h1 : ¬ n < 1) (h2 : ¬ 16 < n) : ((newN n).length : Int) = n := by
  unfold newN
  rw [if_neg (by omega), List.length_replicate]
  omega
end Go.Proofs.Ytondgdacjbfihaa
