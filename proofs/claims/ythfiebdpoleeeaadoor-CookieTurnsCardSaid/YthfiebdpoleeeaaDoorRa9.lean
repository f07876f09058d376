/-
  A state as the document has it: a contract.
-/
import Derived.Test.YthfiebdpoleeeaaDoorRi9
namespace Go.Proofs.YthfiebdpoleeeaaDoor
open Go.RowKit
set_option linter.unusedVariables false
set_option linter.unusedSimpArgs false

set_option maxHeartbeats 4000000 in
set_option maxRecDepth 100000 in
theorem as_any9 (s : St) (w : World) : Calls Tryd.prog 13 #[.agg (cellsS s)] w fun e w' => e = .returned (.agg (cellsS s)) ∧ Below w.heap.size w w' := by
  have HI := Lib.hid (sizeSr s)
  have HB : Hid (Below w.heap.size w ((w.alloc (.cells (cellsS s) 25)).alloc (.cells (cellsS s) 32))) := Lib.hid (((Below.refl _ _).alloc (Nat.le_refl _) _).alloc (by rw [World.size_alloc]; omega) _)
  have HN : Hid (((w.alloc (.cells (cellsS s) 25)).alloc (.cells (cellsS s) 32)).heap[w.heap.size + 1]? = some (.cells (cellsS s) 32 (0, 0))) := Lib.hid (by
    have := heap_alloc_new (w.alloc (.cells (cellsS s) 25)) (.cells (cellsS s) 32)
    rw [World.size_alloc] at this
    exact this)
  obtain ⟨a0, a1, a2, a3, a4, a5, a6, b0, b1, b2, b3, peer, made, life⟩ := s
  dsimp only [cellsS] at *
  go_enter Tryd.func13, Tryd.ntmps13
  go_wp2_with fail
  exact bodyPost_ret (results_cell_row Tryd.results13 _ _ (w.heap.size + 1) _ _ _ _ (by rfl) HN.out Tryd.underlying32 rfl HI.out) rfl ⟨rfl, HB.out⟩
end Go.Proofs.YthfiebdpoleeeaaDoor
