/-
  Chapter 11's examples: contract.
-/
import Derived.Test.YtdlnmmcnpdfbmaaWnC
namespace Go.Proofs.Ytdlnmmcnpdfbmaa
open Go.RowKit
set_option linter.unusedVariables false
set_option linter.unusedSimpArgs false

theorem eqlW (s : Wn) (w : World) : (binOp .eql 25 (.agg (cellsT s)) (.agg (cellsT s))).run Try.prog w = .ok (.bool true) w := by
  have hu := Try.underlying25
  rw [run_eql_struct]
  have : (Op.equalIn 10000 25 (.agg (cellsT s)) (.agg (cellsT s))).run Try.prog w = .ok true w := by
    rw [run_equalIn_struct w 9999 _ _ _ (by unfold Program.fieldsOf; rw [hu]) Try.stoodInHeld25]
    unfold Program.fieldsOf
    rw [hu]
    obtain ⟨a0, a1, a2⟩ := s
    simp [Op.eqFields, go_sem, cellsT]
  rw [this]
  rfl
set_option maxHeartbeats 1000000 in
set_option maxRecDepth 100000 in
theorem shown_any (w : World) : Calls Try.prog 7 #[] w fun e w' => e = .returned (.bool true) ∧ Below w.heap.size w w' := by
  have HB := Lib.hid (Below.refl w.heap.size w)
  have hN : newT 60000 = ⟨4500, 60000, 0⟩ := by decide
  have hA : ackedT ⟨4500, 60000, 0⟩ 1500 4500 true = ⟨6000, 60000, 0⟩ := by decide
  have hT : restartedT (heldT ⟨12000, 60000, 5⟩) = ⟨1500, 6000, 0⟩ := by decide
  have HN : Hid (∀ W, Calls Try.prog 8 #[.int .i64 60000] W fun e w' => e = .returned (.agg (cellsT ⟨4500, 60000, 0⟩)) ∧ Below W.heap.size W w') := Lib.hid (fun W => hN ▸ new_any 60000 W)
  have HC : Hid (∀ W, Calls Try.prog 12 #[.agg #[.int .i64 4500, .int .i64 60000, .int .i64 0], .int .i64 1500, .int .i64 4500, .bool true] W fun e w' => e = .returned (.agg #[.int .i64 6000, .int .i64 60000, .int .i64 0]) ∧ Below W.heap.size W w') := Lib.hid (fun W => by have h := acked_any ⟨4500, 60000, 0⟩ 1500 4500 true W; rw [hA] at h; exact h)
  have HT : Hid (∀ W, Calls Try.prog 10 #[.agg #[.int .i64 12000, .int .i64 60000, .int .i64 5]] W fun e w' => e = .returned (.agg #[.int .i64 1500, .int .i64 6000, .int .i64 0]) ∧ Below W.heap.size W w') := Lib.hid (fun W => by have h := timeout_any ⟨12000, 60000, 5⟩ W; rw [hT] at h; exact h)
  have E1 : ∀ W : World, (binOp .eql 25 (.agg #[.int .i64 4500, .int .i64 60000, .int .i64 0]) (.agg #[.int .i64 4500, .int .i64 60000, .int .i64 0])).run Try.prog W = .ok (.bool true) W := fun W => eqlW ⟨4500, 60000, 0⟩ W
  have E2 : ∀ W : World, (binOp .eql 25 (.agg #[.int .i64 1500, .int .i64 6000, .int .i64 0]) (.agg #[.int .i64 1500, .int .i64 6000, .int .i64 0])).run Try.prog W = .ok (.bool true) W := fun W => eqlW ⟨1500, 6000, 0⟩ W
  have E3 : (Instr.field 25 (Value.agg #[.int .i64 6000, .int .i64 60000, .int .i64 0]) 0).run Try.prog = .ok (.int .i64 6000) := by kernel_rfl
  clear hN hA hT
  go_enter Try.func7, Try.ntmps7
  go_wp2_with fail
  refine (HN.out _).mono ?_
  rintro e w1 ⟨rfl, hb⟩
  replace HB := Lib.hid (HB.out.trans (hb.mono HB.out.size))
  clear hb
  have HA := Lib.hid (BS.made HB.out 25 (cellsT zeroT))
  obtain ⟨g1, hg1⟩ : ∃ g, w1.heap.size = g := ⟨_, rfl⟩
  rw [hg1] at HA
  clear HB
  go_wp2_with (first
    | (refine gate9 ?_; refine stW (.tmp 1) (.tmp 2) g1 ⟨4500, 60000, 0⟩ rfl rfl rfl rfl HA.out.own ?_; intro w2 ht hg; replace HA := Lib.hid (HA.out.set ht hg); clear ht hg; have c0 := HA.out.own.cell 0 (.int .i64 4500) rfl; have c1 := HA.out.own.cell 1 (.int .i64 60000) rfl; have c2 := HA.out.own.cell 2 (.int .i64 0) rfl)
    | (go_at_call 12; (with_reducible refine (HC.out _).mono ?_); rintro e w1 ⟨rfl, hb⟩; clear c0 c1 c2; replace HA := Lib.hid (HA.out.later hb); clear hb)
    | (go_at_call 10; (with_reducible refine (HT.out _).mono ?_); rintro e w1 ⟨rfl, hb⟩; replace HA := Lib.hid (HA.out.later hb); clear hb))
  go_ret
  exact ⟨rfl, HA.out.below⟩
end Go.Proofs.Ytdlnmmcnpdfbmaa
