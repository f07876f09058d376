/-
  The document's small functions of items: contracts.
-/
import Derived.Test.YtlbaockipeojhaaGreatRow
namespace Go.Proofs.YtlbaockipeojhaaGreat
open Go.RowKit
set_option linter.unusedVariables false
set_option linter.unusedSimpArgs false
set_option maxRecDepth 100000

set_option maxHeartbeats 1000000 in
theorem rpad_any (n : Int) (h0 : -9223372036854775808 ≤ n) (h1 : n < 9223372036854775808) (w : World) : Calls Tryz.prog 56 #[.int .i64 n] w fun e w' => e = .returned (.int .i64 (padI n)) ∧ w' = w := by
  by_cases hn : n < 0
  · have e : padI n = 0 := by unfold padI; rw [if_pos hn]
    rw [e]
    go_enter Tryz.func56, Tryz.ntmps56
    go_wp2
    go_ret
    exact ⟨rfl, rfl⟩
  · have e : padI n = (4 - n % 4) % 4 := by unfold padI; rw [if_neg hn]
    rw [e]
    have q1 : 0 ≤ n := by omega
    go_enter Tryz.func56, Tryz.ntmps56
    go_wp2
    go_ret
    exact ⟨rfl, rfl⟩
set_option maxHeartbeats 1000000 in
theorem rnoughts_any (n : Nat) (hn : n ≤ 3) (w : World) : Calls Tryz.prog 111 #[.int .i64 (n : Int)] w fun e w' => e = .returned (.string (zerosB n)) ∧ w' = w := by
  have h := nought_cut n hn
  generalize zerosB n = z at *
  go_enter Tryz.func111, Tryz.ntmps111
  go_wp2
  go_ret
  exact ⟨by simp [h], rfl⟩

end Go.Proofs.YtlbaockipeojhaaGreat
