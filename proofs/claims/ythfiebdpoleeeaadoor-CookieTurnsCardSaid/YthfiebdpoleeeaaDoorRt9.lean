/-
  Package cookie: whether a state is right: contracts.
-/
import Derived.Test.YthfiebdpoleeeaaDoorTk9
namespace Go.Proofs.YthfiebdpoleeeaaDoor
open Go.RowKit
set_option linter.unusedVariables false

theorem addr_any (s : ByteArray) (w : World) : Calls Tryd.prog 35 #[.string s] w fun e w' => e = .returned (.bool (addrB s)) ∧ w' = w := by
  have hr : addrB s = ((s.size : Int) == 4 || (s.size : Int) == 16) := by
    show _ = (decide ((s.size : Int) = 4) || decide ((s.size : Int) = 16))
    unfold addrB
    rw [← Bool.decide_or]
    exact decide_eq_decide.2 (by omega)
  rw [hr]
  clear hr
  go_enter Tryd.func35, Tryd.ntmps35
  go_wp2_with fail
  all_goals
    go_ret
    refine ⟨?_, rfl⟩
    first | rfl | simp [*]
theorem time_any (n : Int) (w : World) : Calls Tryd.prog 36 #[.int .i64 n] w fun e w' => e = .returned (.bool (timeB n)) ∧ w' = w := by
  have hr : timeB n = (decide (0 ≤ n) && decide (n ≤ 1099511627776)) := by
    unfold timeB
    rw [Bool.decide_and]
  rw [hr]
  by_cases h4 : 0 ≤ n
  · rw [decide_eq_true h4, Bool.true_and]
    clear hr
    go_enter Tryd.func36, Tryd.ntmps36
    go_wp2_with fail
    go_ret
    exact ⟨rfl, rfl⟩
  · rw [decide_eq_false h4, Bool.false_and]
    clear hr
    go_enter Tryd.func36, Tryd.ntmps36
    go_wp2_with fail
    go_ret
    exact ⟨rfl, rfl⟩
set_option maxHeartbeats 2000000 in
set_option maxRecDepth 100000 in
theorem right_any9 (s : St) (w : World) : Calls Tryd.prog 17 #[.agg (cellsS s)] w fun e w' => e = .returned (.bool (rightS s)) ∧ Below w.heap.size w w' := by
  have HA := Lib.hid (fun W => addr_any s.peer W)
  have HM := Lib.hid (fun W => time_any s.made W)
  have HL := Lib.hid (fun W => time_any s.life W)
  have HR := Lib.hid (show rightS s = (decide (s.a0 ≠ 0 ∧ s.a1 ≠ 0 ∧ s.b0 ≠ 0 ∧ s.b1 ≠ 0 ∧ s.b2 ≠ 0 ∧ s.b3 ≠ 0) && addrB s.peer && timeB s.made && timeB s.life) from rfl)
  obtain ⟨a0, a1, a2, a3, a4, a5, a6, b0, b1, b2, b3, peer, made, life⟩ := s
  dsimp only [cellsS] at *
  generalize addrB peer = pa at *
  generalize timeB made = pm at *
  generalize timeB life = pl at *
  go_enter Tryd.func17, Tryd.ntmps17
  go_wp2_with (first
    | (go_at_call 35; ((with_reducible refine (HA.out _).mono ?_); rintro e w1 ⟨rfl, rfl⟩))
    | (go_at_call 36; ((with_reducible refine (HM.out _).mono ?_); rintro e w1 ⟨rfl, rfl⟩))
    | (go_at_call 36; ((with_reducible refine (HL.out _).mono ?_); rintro e w1 ⟨rfl, rfl⟩)))
  all_goals
    go_ret
    refine ⟨?_, (Below.refl _ _).alloc (Nat.le_refl _) _⟩
    rw [HR.out]
    simp [*]
end Go.Proofs.YthfiebdpoleeeaaDoor
