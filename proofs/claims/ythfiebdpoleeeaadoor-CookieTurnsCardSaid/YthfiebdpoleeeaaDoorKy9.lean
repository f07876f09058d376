/-
  Package cookie: keys: Turn, Build, Read: contracts.
-/
import Derived.Test.YthfiebdpoleeeaaDoorRe9
namespace Go.Proofs.YthfiebdpoleeeaaDoor
open Go.RowKit
set_option linter.unusedVariables false
set_option linter.unusedSimpArgs false

def cellsK (k : Ky) : Array Value := #[.string k.nk, .bool k.nt, .string k.ok, .bool k.ot, .int .i64 k.since]
/-- The keys k lie in block a. -/
def KyS (W : World) (a : Nat) (k : Ky) : Prop := W.heap[a]? = some (.cells (cellsK k) 46 (0, 0))
theorem KyS.lt {W : World} {a : Nat} {k : Ky} (h : KyS W a k) : a < W.heap.size := (Array.getElem?_eq_some_iff.1 h).1
theorem KyS.later {W W' : World} {a : Nat} {k : Ky} (h : KyS W a k) (hb : Below W.heap.size W W') : KyS W' a k := (hb.block a h.lt).trans h
set_option maxHeartbeats 2000000 in
theorem turn_any (a : Nat) (k : Ky) (key : ByteArray) (hk : key.size ≤ 900000) (now : Int) (w : World) (h : KyS w a k) :
    Calls Tryd.prog 20 #[.pointer (some ⟨a, 0, none⟩), .string key, .int .i64 now] w fun e w' => e = .returned (.tuple #[]) ∧ KyS w' a (turnKy k key now) ∧ w.grownBy w' (some a) := by
  have c0 : w.cell? ⟨a, 0, none⟩ = some (.string k.nk) := by rw [cell_in h]; rfl
  have c1 : w.cell? ⟨a, 1, none⟩ = some (.bool k.nt) := by rw [cell_in h]; rfl
  have c2 : w.cell? ⟨a, 2, none⟩ = some (.string k.ok) := by rw [cell_in h]; rfl
  have c3 : w.cell? ⟨a, 3, none⟩ = some (.bool k.ot) := by rw [cell_in h]; rfl
  have c4 : w.cell? ⟨a, 4, none⟩ = some (.int .i64 k.since) := by rw [cell_in h]; rfl
  have f2 : w.frozen? ⟨a, 2, none⟩ = false := frozen_of_row h 2
  have H1 := row_set9 h 2 (.string k.nk)
  have H2 := row_set9 H1 3 (.bool k.nt)
  have H3 := row_set9 H2 4 (.int .i64 now)
  have G1 := grown_set w a 2 (.string k.nk)
  have G2 := grown_trans G1 (grown_set _ a 3 (.bool k.nt))
  have G3 := grown_trans G2 (grown_set _ a 4 (.int .i64 now))
  obtain ⟨R1, hR1⟩ : ∃ R, R = w.setCell ⟨a, 2, none⟩ (.string k.nk) := ⟨_, rfl⟩
  rw [← hR1] at H1 H2 H3 G2 G3
  obtain ⟨R2, hR2⟩ : ∃ R, R = R1.setCell ⟨a, 3, none⟩ (.bool k.nt) := ⟨_, rfl⟩
  rw [← hR2] at H2 H3 G3
  obtain ⟨R3, hR3⟩ : ∃ R, R = R2.setCell ⟨a, 4, none⟩ (.int .i64 now) := ⟨_, rfl⟩
  rw [← hR3] at H3 G3
  have d3 : R1.cell? ⟨a, 3, none⟩ = some (.bool k.ot) := by rw [cell_in H1]; rfl
  have e3 : R1.frozen? ⟨a, 3, none⟩ = false := frozen_of_row H1 3
  have d4 : R2.cell? ⟨a, 4, none⟩ = some (.int .i64 k.since) := by rw [cell_in H2]; rfl
  have e4 : R2.frozen? ⟨a, 4, none⟩ = false := frozen_of_row H2 4
  have HH := Lib.hid H3
  have HG := Lib.hid G3
  have s1 := hR1.symm
  have s2 := hR2.symm
  have s3 := hR3.symm
  have HC := Lib.hid (fun W => clone_any key W (by omega))
  clear H1 H2 H3 G1 G2 G3 hR1 hR2 hR3 h hk
  obtain ⟨nk, nt, ok, ot, since⟩ := k
  dsimp only at *
  go_enter Tryd.func20, Tryd.ntmps20
  go_wp2_with fail
  refine (HC.out _).mono ?_
  rintro e w4 ⟨rfl, hb4⟩
  have h4 : w4.heap[a]? = some (.cells #[.string nk, .bool nt, .string nk, .bool nt, .int .i64 now] 46 (0, 0)) := (hb4.block a (Array.getElem?_eq_some_iff.1 HH.out).1).trans HH.out
  have HG4 := Lib.hid (grown_trans HG.out (grownBy_of_below hb4))
  have b0 : w4.cell? ⟨a, 0, none⟩ = some (.string nk) := by rw [cell_in h4]; rfl
  have g0 : w4.frozen? ⟨a, 0, none⟩ = false := frozen_of_row h4 0
  have H5 := row_set9 h4 0 (.string key)
  have H6 := row_set9 H5 1 (.bool true)
  have G5 := grown_trans HG4.out (grown_set w4 a 0 (.string key))
  have G6 := grown_trans G5 (grown_set _ a 1 (.bool true))
  obtain ⟨R5, hR5⟩ : ∃ R, R = w4.setCell ⟨a, 0, none⟩ (.string key) := ⟨_, rfl⟩
  rw [← hR5] at H5 H6 G6
  have b1 : R5.cell? ⟨a, 1, none⟩ = some (.bool nt) := by rw [cell_in H5]; rfl
  have g1 : R5.frozen? ⟨a, 1, none⟩ = false := frozen_of_row H5 1
  have s5 := hR5.symm
  have HH6 := Lib.hid H6
  have HG6 := Lib.hid G6
  clear H5 H6 G5 G6 hR5 hb4 h4 HC HG HH
  go_wp2_with fail
  go_end0
  exact ⟨rfl, HH6.out, HG6.out⟩
set_option maxHeartbeats 1000000 in
theorem still_any (a : Nat) (k : Ky) (now : Int) (h0 : -1125899906842624 ≤ now ∧ now ≤ 1125899906842624) (h1 : -1125899906842624 ≤ k.since ∧ k.since ≤ 1125899906842624) (w : World) (h : KyS w a k) :
    Calls Tryd.prog 38 #[.pointer (some ⟨a, 0, none⟩), .int .i64 now] w fun e w' => e = .returned (.bool (stillB k now)) ∧ w' = w := by
  have c3 : w.cell? ⟨a, 3, none⟩ = some (.bool k.ot) := by rw [cell_in h]; rfl
  have c4 : w.cell? ⟨a, 4, none⟩ = some (.int .i64 k.since) := by rw [cell_in h]; rfl
  have HB := Lib.hid (show stillB k now = (k.ot && decide (now - k.since ≤ 60000)) from rfl)
  clear h
  obtain ⟨nk, nt, ok, ot, since⟩ := k
  dsimp only at *
  generalize stillB _ now = r at *
  go_enter Tryd.func38, Tryd.ntmps38
  go_wp2_with fail
  all_goals
    go_ret
    refine ⟨?_, rfl⟩
    rw [HB.out]
    first | rfl | simp [*]
set_option maxHeartbeats 1000000 in
theorem stale_any (s : St) (now : Int) (h0 : -1125899906842624 ≤ now ∧ now ≤ 1125899906842624) (h1 : 0 ≤ s.made ∧ s.made ≤ 1099511627776) (w : World) :
    Calls Tryd.prog 39 #[.agg (cellsS s), .int .i64 now] w fun e w' => e = .returned (.bool (staleB s now)) ∧ Below w.heap.size w w' := by
  have HB := Lib.hid (show staleB s now = (decide (now < s.made) || decide (s.life < now - s.made)) by unfold staleB; rw [Bool.decide_or])
  generalize staleB s now = r at *
  obtain ⟨a0, a1, a2, a3, a4, a5, a6, b0, b1, b2, b3, peer, made, life⟩ := s
  dsimp only [cellsS] at *
  go_enter Tryd.func39, Tryd.ntmps39
  go_wp2_with fail
  all_goals
    go_ret
    refine ⟨?_, (Below.refl _ _).alloc (Nat.le_refl _) _⟩
    rw [HB.out]
    first | rfl | simp [*]
end Go.Proofs.YthfiebdpoleeeaaDoor
