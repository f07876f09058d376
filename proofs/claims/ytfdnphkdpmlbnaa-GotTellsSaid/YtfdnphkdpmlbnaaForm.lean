/-
  What chunks of a type have beside numbers: contracts.
-/
import Derived.Test.YtfdnphkdpmlbnaaCkMem
namespace Go.Proofs.Ytfdnphkdpmlbnaa
open Go.RowKit
set_option linter.unusedVariables false
set_option linter.unusedSimpArgs false
set_option maxRecDepth 100000

def formA (k : Int) : Array Value := #[.int .i64 (formOf k).1, .int .i64 (formOf k).2.1.1, .int .i64 (formOf k).2.1.2, .int .i64 (formOf k).2.2.1.1, .int .i64 (formOf k).2.2.1.2, .int .i64 (formOf k).2.2.2]
set_option maxHeartbeats 4000000 in
theorem formOf_any (k : Int) (w : World) : Calls Try.prog 60 #[.int .i64 k] w fun e w' => e = .returned (.agg (formA k)) ∧ Below w.heap.size w w' := by
  by_cases t0 : k = 0
  · subst t0
    have e : formA 0 = #[.int .i64 7, .int .i64 1, .int .i64 1000, .int .i64 0, .int .i64 0, .int .i64 0] := rfl
    rw [e]
    clear e
    go_enter Try.func60, Try.ntmps60
    go_wp2
    exact bodyPost_ret (v := .agg #[.int .i64 7, .int .i64 1, .int .i64 1000, .int .i64 0, .int .i64 0, .int .i64 0]) (by simp [results, Try.results60, go_sem]) rfl ⟨rfl, (Below.refl _ _).alloc (Nat.le_refl _) _⟩
  by_cases t1 : k = 1
  · subst t1
    have e : formA 1 = #[.int .i64 0, .int .i64 0, .int .i64 0, .int .i64 0, .int .i64 9223372036854775807, .int .i64 0] := rfl
    rw [e]
    clear e
    go_enter Try.func60, Try.ntmps60
    go_wp2
    exact bodyPost_ret (v := .agg #[.int .i64 0, .int .i64 0, .int .i64 0, .int .i64 0, .int .i64 9223372036854775807, .int .i64 0]) (by simp [results, Try.results60, go_sem]) rfl ⟨rfl, (Below.refl _ _).alloc (Nat.le_refl _) _⟩
  by_cases t2 : k = 2
  · subst t2
    have e : formA 2 = #[.int .i64 0, .int .i64 0, .int .i64 0, .int .i64 0, .int .i64 9223372036854775807, .int .i64 0] := rfl
    rw [e]
    clear e
    go_enter Try.func60, Try.ntmps60
    go_wp2
    exact bodyPost_ret (v := .agg #[.int .i64 0, .int .i64 0, .int .i64 0, .int .i64 0, .int .i64 9223372036854775807, .int .i64 0]) (by simp [results, Try.results60, go_sem]) rfl ⟨rfl, (Below.refl _ _).alloc (Nat.le_refl _) _⟩
  by_cases t3 : k = 3
  · subst t3
    have e : formA 3 = #[.int .i64 0, .int .i64 0, .int .i64 0, .int .i64 0, .int .i64 0, .int .i64 100] := rfl
    rw [e]
    clear e
    go_enter Try.func60, Try.ntmps60
    go_wp2
    exact bodyPost_ret (v := .agg #[.int .i64 0, .int .i64 0, .int .i64 0, .int .i64 0, .int .i64 0, .int .i64 100]) (by simp [results, Try.results60, go_sem]) rfl ⟨rfl, (Below.refl _ _).alloc (Nat.le_refl _) _⟩
  by_cases t4 : k = 4
  · subst t4
    have e : formA 4 = #[.int .i64 0, .int .i64 0, .int .i64 0, .int .i64 1, .int .i64 1, .int .i64 0] := rfl
    rw [e]
    clear e
    go_enter Try.func60, Try.ntmps60
    go_wp2
    exact bodyPost_ret (v := .agg #[.int .i64 0, .int .i64 0, .int .i64 0, .int .i64 1, .int .i64 1, .int .i64 0]) (by simp [results, Try.results60, go_sem]) rfl ⟨rfl, (Below.refl _ _).alloc (Nat.le_refl _) _⟩
  by_cases t5 : k = 5
  · subst t5
    have e : formA 5 = #[.int .i64 0, .int .i64 0, .int .i64 0, .int .i64 1, .int .i64 1, .int .i64 0] := rfl
    rw [e]
    clear e
    go_enter Try.func60, Try.ntmps60
    go_wp2
    exact bodyPost_ret (v := .agg #[.int .i64 0, .int .i64 0, .int .i64 0, .int .i64 1, .int .i64 1, .int .i64 0]) (by simp [results, Try.results60, go_sem]) rfl ⟨rfl, (Below.refl _ _).alloc (Nat.le_refl _) _⟩
  by_cases t6 : k = 6
  · subst t6
    have e : formA 6 = #[.int .i64 1, .int .i64 0, .int .i64 0, .int .i64 0, .int .i64 9223372036854775807, .int .i64 0] := rfl
    rw [e]
    clear e
    go_enter Try.func60, Try.ntmps60
    go_wp2
    exact bodyPost_ret (v := .agg #[.int .i64 1, .int .i64 0, .int .i64 0, .int .i64 0, .int .i64 9223372036854775807, .int .i64 0]) (by simp [results, Try.results60, go_sem]) rfl ⟨rfl, (Below.refl _ _).alloc (Nat.le_refl _) _⟩
  by_cases t9 : k = 9
  · subst t9
    have e : formA 9 = #[.int .i64 0, .int .i64 0, .int .i64 0, .int .i64 1, .int .i64 9223372036854775807, .int .i64 0] := rfl
    rw [e]
    clear e
    go_enter Try.func60, Try.ntmps60
    go_wp2
    exact bodyPost_ret (v := .agg #[.int .i64 0, .int .i64 0, .int .i64 0, .int .i64 1, .int .i64 9223372036854775807, .int .i64 0]) (by simp [results, Try.results60, go_sem]) rfl ⟨rfl, (Below.refl _ _).alloc (Nat.le_refl _) _⟩
  by_cases t10 : k = 10
  · subst t10
    have e : formA 10 = #[.int .i64 0, .int .i64 1, .int .i64 1000, .int .i64 0, .int .i64 0, .int .i64 0] := rfl
    rw [e]
    clear e
    go_enter Try.func60, Try.ntmps60
    go_wp2
    exact bodyPost_ret (v := .agg #[.int .i64 0, .int .i64 1, .int .i64 1000, .int .i64 0, .int .i64 0, .int .i64 0]) (by simp [results, Try.results60, go_sem]) rfl ⟨rfl, (Below.refl _ _).alloc (Nat.le_refl _) _⟩
  by_cases t7 : k = 7
  · subst t7
    have e : formA 7 = #[.int .i64 0, .int .i64 0, .int .i64 0, .int .i64 0, .int .i64 0, .int .i64 0] := rfl
    rw [e]
    clear e
    go_enter Try.func60, Try.ntmps60
    go_wp2
    exact bodyPost_ret (v := .agg #[.int .i64 0, .int .i64 0, .int .i64 0, .int .i64 0, .int .i64 0, .int .i64 0]) (by simp [results, Try.results60, go_sem]) rfl ⟨rfl, (Below.refl _ _).alloc (Nat.le_refl _) _⟩
  by_cases t8 : k = 8
  · subst t8
    have e : formA 8 = #[.int .i64 0, .int .i64 0, .int .i64 0, .int .i64 0, .int .i64 0, .int .i64 0] := rfl
    rw [e]
    clear e
    go_enter Try.func60, Try.ntmps60
    go_wp2
    exact bodyPost_ret (v := .agg #[.int .i64 0, .int .i64 0, .int .i64 0, .int .i64 0, .int .i64 0, .int .i64 0]) (by simp [results, Try.results60, go_sem]) rfl ⟨rfl, (Below.refl _ _).alloc (Nat.le_refl _) _⟩
  by_cases t11 : k = 11
  · subst t11
    have e : formA 11 = #[.int .i64 0, .int .i64 0, .int .i64 0, .int .i64 0, .int .i64 0, .int .i64 0] := rfl
    rw [e]
    clear e
    go_enter Try.func60, Try.ntmps60
    go_wp2
    exact bodyPost_ret (v := .agg #[.int .i64 0, .int .i64 0, .int .i64 0, .int .i64 0, .int .i64 0, .int .i64 0]) (by simp [results, Try.results60, go_sem]) rfl ⟨rfl, (Below.refl _ _).alloc (Nat.le_refl _) _⟩
  by_cases t14 : k = 14
  · subst t14
    have e : formA 14 = #[.int .i64 1, .int .i64 0, .int .i64 0, .int .i64 0, .int .i64 0, .int .i64 0] := rfl
    rw [e]
    clear e
    go_enter Try.func60, Try.ntmps60
    go_wp2
    exact bodyPost_ret (v := .agg #[.int .i64 1, .int .i64 0, .int .i64 0, .int .i64 0, .int .i64 0, .int .i64 0]) (by simp [results, Try.results60, go_sem]) rfl ⟨rfl, (Below.refl _ _).alloc (Nat.le_refl _) _⟩
  have n0 : (k == 0) = false := beq_eq_false_iff_ne.2 t0
  have n1 : (k == 1) = false := beq_eq_false_iff_ne.2 t1
  have n2 : (k == 2) = false := beq_eq_false_iff_ne.2 t2
  have n3 : (k == 3) = false := beq_eq_false_iff_ne.2 t3
  have n4 : (k == 4) = false := beq_eq_false_iff_ne.2 t4
  have n5 : (k == 5) = false := beq_eq_false_iff_ne.2 t5
  have n6 : (k == 6) = false := beq_eq_false_iff_ne.2 t6
  have n9 : (k == 9) = false := beq_eq_false_iff_ne.2 t9
  have n10 : (k == 10) = false := beq_eq_false_iff_ne.2 t10
  have n7 : (k == 7) = false := beq_eq_false_iff_ne.2 t7
  have n8 : (k == 8) = false := beq_eq_false_iff_ne.2 t8
  have n11 : (k == 11) = false := beq_eq_false_iff_ne.2 t11
  have n14 : (k == 14) = false := beq_eq_false_iff_ne.2 t14
  have e : formA k = #[.int .i64 255, .int .i64 0, .int .i64 1000, .int .i64 0, .int .i64 0, .int .i64 0] := by unfold formA formOf; simp only [t0, t1, t2, t3, t4, t5, t6, t9, t10, t7, t8, t11, t14, or_self, if_false]
  rw [e]
  clear e
  go_enter Try.func60, Try.ntmps60
  go_wp2
  exact bodyPost_ret (v := .agg #[.int .i64 255, .int .i64 0, .int .i64 1000, .int .i64 0, .int .i64 0, .int .i64 0]) (by simp [results, Try.results60, go_sem]) rfl ⟨rfl, (Below.refl _ _).alloc (Nat.le_refl _) _⟩
theorem cwithin_any (n a b : Int) (w : World) : Calls Try.prog 61 #[.int .i64 n, .int .i64 a, .int .i64 b] w fun e w' => e = .returned (.bool (withinB n a b)) ∧ w' = w := by
  by_cases h1 : a ≤ n
  · by_cases h2 : n ≤ b
    · have e : withinB n a b = true := decide_eq_true ⟨h1, h2⟩
      rw [e]
      clear e
      go_enter Try.func61, Try.ntmps61
      go_wp2
      go_ret
      exact ⟨rfl, rfl⟩
    · have e : withinB n a b = false := decide_eq_false fun h => h2 h.2
      rw [e]
      clear e
      go_enter Try.func61, Try.ntmps61
      go_wp2
      go_ret
      exact ⟨rfl, rfl⟩
  · have e : withinB n a b = false := decide_eq_false fun h => h1 h.1
    rw [e]
    clear e
    go_enter Try.func61, Try.ntmps61
    go_wp2
    go_ret
    exact ⟨rfl, rfl⟩
end Go.Proofs.Ytfdnphkdpmlbnaa
