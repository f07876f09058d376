/-
  Package rto: its functions of numbers alone: contracts.
-/
import Derived.Test.YtpihgnpbaaagpaaProg
import Derived.Test.YtpihgnpbaaagpaaTm
import Derived.Test.YtpihgnpbaaagpaaMem
namespace Go.Proofs.Ytpihgnpbaaagpaa
open Go.RowKit
set_option linter.unusedVariables false

theorem ret_i64 {a b : Int} (h : a = b) : Ending.returned (.int .i64 a) = .returned (.int .i64 b) := by rw [h]
theorem cellsT_one (t : Tm) : (cellsT t).all (·.oneCell') = true := by simp [cellsT, Value.oneCell']
theorem held_any (n least most : Int) (w : World) : Calls Try.prog 65 #[.int .i64 n, .int .i64 least, .int .i64 most] w fun e w' => e = .returned (.int .i64 (heldI n least most)) ∧ w' = w := by
  go_enter Try.func65, Try.ntmps65
  go_wp2
  all_goals (go_ret; exact ⟨ret_i64 (by unfold heldI; omega), rfl⟩)
theorem kept_any (n : Int) (w : World) : Calls Try.prog 67 #[.int .i64 n] w fun e w' => e = .returned (.int .i64 (keptI n)) ∧ w' = w := by
  go_enter Try.func67, Try.ntmps67
  go_wp2_with (go_at_call 65; refine (held_any _ _ _ _).mono ?_; rintro e w' ⟨rfl, rfl⟩)
  go_ret
  exact ⟨rfl, rfl⟩
theorem asRto_any (n : Int) (w : World) : Calls Try.prog 72 #[.int .i64 n] w fun e w' => e = .returned (.int .i64 (asRtoI n)) ∧ w' = w := by
  go_enter Try.func72, Try.ntmps72
  go_wp2_with (go_at_call 65; refine (held_any _ _ _ _).mono ?_; rintro e w' ⟨rfl, rfl⟩)
  go_ret
  exact ⟨rfl, rfl⟩
theorem wait_any (s v : Int) (hs : 0 ≤ s) (hs' : s ≤ 1048576) (hv : 0 ≤ v) (hv' : v ≤ 1048576) (w : World) : Calls Try.prog 68 #[.int .i64 s, .int .i64 v] w fun e w' => e = .returned (.int .i64 (waitI s v)) ∧ w' = w := by
  go_enter Try.func68, Try.ntmps68
  go_wp2_with (go_at_call 72; refine (asRto_any _ _).mono ?_; rintro e w' ⟨rfl, rfl⟩)
  go_ret
  exact ⟨rfl, rfl⟩
theorem distance_any (a b : Int) (ha : 0 ≤ a) (ha' : a ≤ 1048576) (hb : 0 ≤ b) (hb' : b ≤ 1048576) (w : World) : Calls Try.prog 80 #[.int .i64 a, .int .i64 b] w fun e w' => e = .returned (.int .i64 (distI a b)) ∧ w' = w := by
  go_enter Try.func80, Try.ntmps80
  go_wp2
  all_goals (go_ret; exact ⟨ret_i64 (by unfold distI; omega), rfl⟩)
theorem smoothed_any (s v r : Int) (hs : 0 ≤ s) (hs' : s ≤ 1048576) (hv : 0 ≤ v) (hv' : v ≤ 1048576) (hr : 0 ≤ r) (hr' : r ≤ 1048576) (w : World) :
    Calls Try.prog 66 #[.int .i64 s, .int .i64 v, .int .i64 r] w fun e w' => e = .returned (.tuple #[.int .i64 ((7 * s + r) / 8), .int .i64 ((3 * v + distI s r) / 4)]) ∧ w' = w := by
  have hd := distI_le hs hs' hr hr'
  have HD := Lib.hid (fun W => distance_any s r hs hs' hr hr' W)
  generalize distI s r = d at *
  have e1 : Int.tdiv (7 * s + r) 8 = (7 * s + r) / 8 := Int.tdiv_eq_ediv_of_nonneg (by omega)
  have e2 : Int.tdiv (3 * v + d) 4 = (3 * v + d) / 4 := Int.tdiv_eq_ediv_of_nonneg (by omega)
  go_enter Try.func66, Try.ntmps66
  go_wp2_with (go_at_call 80; refine (HD.out _).mono ?_; rintro e w' ⟨rfl, rfl⟩)
  go_ret2
  exact ⟨rfl, rfl⟩
end Go.Proofs.Ytpihgnpbaaagpaa
