/-
  The chapter's examples of layer 1: the program answers them as the document says.
-/
import Derived.Test.YtgahpfoejecihaaRuns
namespace Go.Proofs.Ytgahpfoejecihaa
open Go.RowKit Go.Sort Go.Lib

theorem shown_row (w : World) : RowE enc32 (w.alloc (.cells #[.int .u32 3, .int .u32 1, .int .u32 2, .int .u32 4294967295, .int .u32 2] 22)) (.slice (some ⟨w.heap.size, 0, none⟩) 5 5) [3, 1, 2, 4294967295, 2] := by
  refine ⟨_, _, rfl, by decide, by simp [maxLen], fun _ => ⟨_, _, rfl, by simp, fun j hj => ?_⟩⟩
  rw [cell_of_row _ w.heap.size (0 + j) _ _ (0, 0) (heap_alloc_new w _)]
  match j, hj with
  | 0, _ => rfl
  | 1, _ => rfl
  | 2, _ => rfl
  | 3, _ => rfl
  | 4, _ => rfl

set_option maxHeartbeats 1000000 in
theorem shown_any (w : World) : Calls Try.prog 11 #[] w fun e w' => e = .returned (.bool true) ∧ Below w.heap.size w w' := by
  have hR := runs_any 4294967290 [3, 1, 2, 4294967295, 2] _ _ (shown_row w) (by simp)
  rw [shown_runs] at hR
  have HR := Lib.hid hR
  clear hR
  have b1 : before32 4294967295 0 = true := by decide
  have b2 : before32 0 2147483648 = false := by decide
  have b3 : dist32 5 3 = -2 := by decide
  have b4 : dist16 65535 1 = 2 := by decide
  go_enter Try.func11, Try.ntmps11
  go_wp2_with fail
  refine HR.out.mono ?_
  rintro e w1 ⟨v1, rfl, hown, hb⟩
  obtain ⟨g, cap, rfl, hg, hgl⟩ := own_form hown (by decide)
  have c0 : w1.cell? ⟨g, 0, none⟩ = some (.int .u32 4294967295) := hown.cellAt 0 (by decide)
  have c1 : w1.cell? ⟨g, 1, none⟩ = some (.int .u32 4294967295) := hown.cellAt 1 (by decide)
  have c2 : w1.cell? ⟨g, 2, none⟩ = some (.int .u32 1) := hown.cellAt 2 (by decide)
  have c3 : w1.cell? ⟨g, 3, none⟩ = some (.int .u32 3) := hown.cellAt 3 (by decide)
  have q1 : ∀ W, Sem.run Try.prog (Op.equalIn 10000 40 (.agg #[.int .u32 4294967295, .int .u32 4294967295]) (.agg #[.int .u32 4294967295, .int .u32 4294967295])) W = .ok true W := fun W => by kernel_rfl
  have q2 : ∀ W, Sem.run Try.prog (Op.equalIn 10000 40 (.agg #[.int .u32 1, .int .u32 3]) (.agg #[.int .u32 1, .int .u32 3])) W = .ok true W := fun W => by kernel_rfl
  have HB := Lib.hid ((((Below.refl w.heap.size w).alloc (Nat.le_refl _) _).trans (hb.mono (by simp))))
  clear hown hb
  go_wp2_with (first
    | (go_at_call 12; refine (before_any _ _ (by omega) (by omega) (by omega) (by omega) _).mono ?_; rintro e w' ⟨rfl, rfl⟩)
    | (go_at_call 14; refine (dist_any _ _ (by omega) (by omega) (by omega) (by omega) _).mono ?_; rintro e w' ⟨rfl, rfl⟩)
    | (go_at_call 20; refine (dist16_any _ _ (by omega) (by omega) (by omega) (by omega) _).mono ?_; rintro e w' ⟨rfl, rfl⟩))
  go_ret
  exact ⟨rfl, HB.out⟩
end Go.Proofs.Ytgahpfoejecihaa
