/-
  Two states that are the same are told to be so.
-/
import Derived.Test.YthfiebdpoleeeaaDoorKb9
import Derived.Laws.StructEq
namespace Go.Proofs.YthfiebdpoleeeaaDoor
open Go.RowKit
set_option linter.unusedVariables false
set_option linter.unusedSimpArgs false

set_option maxRecDepth 100000 in
set_option maxHeartbeats 1000000 in
theorem equal_same (s : St) (w : World) : (Op.equalIn 10000 25 (.agg (cellsS s)) (.agg (cellsS s))).run Tryd.prog w = .ok true w := by
  have hu := Tryd.underlying25
  rw [run_equalIn_struct w 9999 _ _ _ (by unfold Program.fieldsOf; rw [hu]) Tryd.stoodInHeld25]
  unfold Program.fieldsOf
  rw [hu]
  obtain ⟨a0, a1, a2, a3, a4, a5, a6, b0, b1, b2, b3, peer, made, life⟩ := s
  simp [Op.eqFields, go_sem, cellsS]
set_option maxRecDepth 100000 in
set_option maxHeartbeats 1000000 in
theorem requal_same (s : St) (w : World) : (Op.equalIn 10000 32 (.agg (cellsS s)) (.agg (cellsS s))).run Tryd.prog w = .ok true w := by
  have hu := Tryd.underlying32
  rw [run_equalIn_struct w 9999 _ _ _ (by unfold Program.fieldsOf; rw [hu]) Tryd.stoodInHeld32]
  unfold Program.fieldsOf
  rw [hu]
  obtain ⟨a0, a1, a2, a3, a4, a5, a6, b0, b1, b2, b3, peer, made, life⟩ := s
  simp [Op.eqFields, go_sem, cellsS]
theorem eql_same (s : St) (w : World) : (binOp .eql 25 (.agg (cellsS s)) (.agg (cellsS s))).run Tryd.prog w = .ok (.bool true) w := by
  rw [run_eql_struct, equal_same]
  rfl
theorem neq_same (s : St) (w : World) : (binOp .neq 25 (.agg (cellsS s)) (.agg (cellsS s))).run Tryd.prog w = .ok (.bool false) w := by
  rw [run_neq_struct, equal_same]
  rfl
theorem reql_same (s : St) (w : World) : (binOp .eql 32 (.agg (cellsS s)) (.agg (cellsS s))).run Tryd.prog w = .ok (.bool true) w := by
  rw [run_eql_struct, requal_same]
  rfl
theorem rneq_same (s : St) (w : World) : (binOp .neq 32 (.agg (cellsS s)) (.agg (cellsS s))).run Tryd.prog w = .ok (.bool false) w := by
  rw [run_neq_struct, requal_same]
  rfl
end Go.Proofs.YthfiebdpoleeeaaDoor
