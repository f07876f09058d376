/-
  The document's answer to layer 9: whether a state is right, and its bytes: contracts.
-/
import Derived.Test.YthfiebdpoleeeaaDoorRf9
namespace Go.Proofs.YthfiebdpoleeeaaDoor
open Go.RowKit
set_option linter.unusedVariables false
set_option linter.unusedSimpArgs false

set_option maxHeartbeats 8000000 in
set_option maxRecDepth 100000 in
theorem rright_any9 (s : St) (w : World) : Calls Tryd.prog 18 #[.agg (cellsS s)] w fun e w' => e = .returned (.bool (rightS s)) ∧ Below w.heap.size w w' := by
  have HR := Lib.hid (show rightS s = (((s.peer.size : Int) == 4 || (s.peer.size : Int) == 16) && (decide (0 ≤ s.made) && decide (s.made ≤ 1099511627776) && decide (0 ≤ s.life) && decide (s.life ≤ 1099511627776)) && ((s.a0 : Int) != 0) && ((s.a1 : Int) != 0) && ((s.b0 : Int) != 0) && ((s.b1 : Int) != 0) && ((s.b2 : Int) != 0) && ((s.b3 : Int) != 0)) by
    rw [Bool.eq_iff_iff]
    unfold rightS addrB timeB
    simp only [Bool.and_eq_true, Bool.or_eq_true, decide_eq_true_eq, bne_iff_ne, beq_iff_eq, ne_eq]
    omega)
  generalize rightS s = r at *
  obtain ⟨a0, a1, a2, a3, a4, a5, a6, b0, b1, b2, b3, peer, made, life⟩ := s
  dsimp only [cellsS] at *
  go_enter Tryd.func18, Tryd.ntmps18
  go_wp2_with fail
  all_goals
    go_ret
    refine ⟨?_, (Below.refl _ _).alloc (Nat.le_refl _) _⟩
    rw [HR.out]
    first | rfl | (simp [*]; done) | (simp [*]; omega)
end Go.Proofs.YthfiebdpoleeeaaDoor
