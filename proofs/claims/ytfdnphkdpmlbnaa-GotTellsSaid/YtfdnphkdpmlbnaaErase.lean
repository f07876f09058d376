/-
  A chunk without the numbers of its type: contracts.
-/
import Derived.Test.YtfdnphkdpmlbnaaCkMem
namespace Go.Proofs.Ytfdnphkdpmlbnaa
open Go.RowKit
set_option linter.unusedVariables false
set_option linter.unusedSimpArgs false

theorem erase_32 (b k : Nat) (cs : Array Value) (t : TypeId) (w : World) (h : w.heap[b]? = some (.cells cs t (0, 0))) (hk : k < cs.size) :
    Calls Try.prog 81 #[.pointer (some ⟨b, k, none⟩)] w fun e w' => e = .returned (.tuple #[]) ∧ w'.heap[b]? = some (.cells (cs.setIfInBounds k (.int .u32 0)) t (0, 0)) ∧ Touch (· = b) w w' := by
  have c0 : w.cell? ⟨b, k, none⟩ = some cs[k] := by rw [cell_in h]; exact Array.getElem?_eq_getElem hk
  have f0 : w.frozen? ⟨b, k, none⟩ = false := frozen_of_row h k
  have HR := Lib.hid (row_set h k (.int .u32 0))
  clear h
  go_enter Try.func81, Try.ntmps81
  go_wp2
  go_end0
  exact ⟨rfl, HR.out, Touch.setCell _ _ _ _⟩
theorem erase_16 (b k : Nat) (cs : Array Value) (t : TypeId) (w : World) (h : w.heap[b]? = some (.cells cs t (0, 0))) (hk : k < cs.size) :
    Calls Try.prog 82 #[.pointer (some ⟨b, k, none⟩)] w fun e w' => e = .returned (.tuple #[]) ∧ w'.heap[b]? = some (.cells (cs.setIfInBounds k (.int .u16 0)) t (0, 0)) ∧ Touch (· = b) w w' := by
  have c0 : w.cell? ⟨b, k, none⟩ = some cs[k] := by rw [cell_in h]; exact Array.getElem?_eq_getElem hk
  have f0 : w.frozen? ⟨b, k, none⟩ = false := frozen_of_row h k
  have HR := Lib.hid (row_set h k (.int .u16 0))
  clear h
  go_enter Try.func82, Try.ntmps82
  go_wp2
  go_end0
  exact ⟨rfl, HR.out, Touch.setCell _ _ _ _⟩
set_option maxHeartbeats 4000000 in
theorem numbers_erase (c : Ck) (g d i : Value) (b : Nat) (w : World) (h : w.heap[b]? = some (.cells (cellsC c g d i) 44 (0, 0))) :
    Calls Try.prog 64 #[.pointer (some ⟨b, 0, none⟩), .func (.func 81) #[] #[], .func (.func 82) #[] #[]] w fun e w' =>
      e = .returned (.tuple #[]) ∧ w'.heap[b]? = some (.cells (cellsC (eraseC c) g d i) 44 (0, 0)) ∧ Touch (· = b) w w' := by
  obtain ⟨ty, fl, tsn, tag, win, ppid, st, ssn, outs, ins, gaps, dups, items, text⟩ := c
  have c0 : w.cell? ⟨b, 0, none⟩ = some (.int .i64 ty) := by rw [cell_in h]; rfl
  have HX := Lib.hid h
  have HT := Lib.hid (Touch.refl (· = b) w)
  clear h
  by_cases t0 : ty = 0
  · subst t0
    go_enter Try.func64, Try.ntmps64
    go_wp2_with fail
    refine (erase_32 b 2 _ _ _ HX.out (by simp)).mono ?_
    rintro e w1 ⟨rfl, hx, ht⟩
    replace HX := Lib.hid hx
    replace HT := Lib.hid (HT.out.trans ht)
    clear hx ht
    go_wp2_with fail
    refine (erase_16 b 6 _ _ _ HX.out (by simp)).mono ?_
    rintro e w2 ⟨rfl, hx, ht⟩
    replace HX := Lib.hid hx
    replace HT := Lib.hid (HT.out.trans ht)
    clear hx ht
    go_wp2_with fail
    refine (erase_16 b 7 _ _ _ HX.out (by simp)).mono ?_
    rintro e w3 ⟨rfl, hx, ht⟩
    replace HX := Lib.hid hx
    replace HT := Lib.hid (HT.out.trans ht)
    clear hx ht
    go_wp2_with fail
    refine (erase_32 b 5 _ _ _ HX.out (by simp)).mono ?_
    rintro e w4 ⟨rfl, hx, ht⟩
    replace HX := Lib.hid hx
    replace HT := Lib.hid (HT.out.trans ht)
    clear hx ht
    go_wp2_with fail
    go_end0
    exact ⟨rfl, by have := HX.out; simpa [cellsC, eraseC] using this, HT.out⟩
  by_cases t1 : ty = 1
  · subst t1
    go_enter Try.func64, Try.ntmps64
    go_wp2_with fail
    refine (erase_32 b 3 _ _ _ HX.out (by simp)).mono ?_
    rintro e w1 ⟨rfl, hx, ht⟩
    replace HX := Lib.hid hx
    replace HT := Lib.hid (HT.out.trans ht)
    clear hx ht
    go_wp2_with fail
    refine (erase_32 b 4 _ _ _ HX.out (by simp)).mono ?_
    rintro e w2 ⟨rfl, hx, ht⟩
    replace HX := Lib.hid hx
    replace HT := Lib.hid (HT.out.trans ht)
    clear hx ht
    go_wp2_with fail
    refine (erase_16 b 8 _ _ _ HX.out (by simp)).mono ?_
    rintro e w3 ⟨rfl, hx, ht⟩
    replace HX := Lib.hid hx
    replace HT := Lib.hid (HT.out.trans ht)
    clear hx ht
    go_wp2_with fail
    refine (erase_16 b 9 _ _ _ HX.out (by simp)).mono ?_
    rintro e w4 ⟨rfl, hx, ht⟩
    replace HX := Lib.hid hx
    replace HT := Lib.hid (HT.out.trans ht)
    clear hx ht
    go_wp2_with fail
    refine (erase_32 b 2 _ _ _ HX.out (by simp)).mono ?_
    rintro e w5 ⟨rfl, hx, ht⟩
    replace HX := Lib.hid hx
    replace HT := Lib.hid (HT.out.trans ht)
    clear hx ht
    go_wp2_with fail
    go_end0
    exact ⟨rfl, by have := HX.out; simpa [cellsC, eraseC] using this, HT.out⟩
  by_cases t2 : ty = 2
  · subst t2
    go_enter Try.func64, Try.ntmps64
    go_wp2_with fail
    refine (erase_32 b 3 _ _ _ HX.out (by simp)).mono ?_
    rintro e w1 ⟨rfl, hx, ht⟩
    replace HX := Lib.hid hx
    replace HT := Lib.hid (HT.out.trans ht)
    clear hx ht
    go_wp2_with fail
    refine (erase_32 b 4 _ _ _ HX.out (by simp)).mono ?_
    rintro e w2 ⟨rfl, hx, ht⟩
    replace HX := Lib.hid hx
    replace HT := Lib.hid (HT.out.trans ht)
    clear hx ht
    go_wp2_with fail
    refine (erase_16 b 8 _ _ _ HX.out (by simp)).mono ?_
    rintro e w3 ⟨rfl, hx, ht⟩
    replace HX := Lib.hid hx
    replace HT := Lib.hid (HT.out.trans ht)
    clear hx ht
    go_wp2_with fail
    refine (erase_16 b 9 _ _ _ HX.out (by simp)).mono ?_
    rintro e w4 ⟨rfl, hx, ht⟩
    replace HX := Lib.hid hx
    replace HT := Lib.hid (HT.out.trans ht)
    clear hx ht
    go_wp2_with fail
    refine (erase_32 b 2 _ _ _ HX.out (by simp)).mono ?_
    rintro e w5 ⟨rfl, hx, ht⟩
    replace HX := Lib.hid hx
    replace HT := Lib.hid (HT.out.trans ht)
    clear hx ht
    go_wp2_with fail
    go_end0
    exact ⟨rfl, by have := HX.out; simpa [cellsC, eraseC] using this, HT.out⟩
  by_cases t3 : ty = 3
  · subst t3
    go_enter Try.func64, Try.ntmps64
    go_wp2_with fail
    refine (erase_32 b 2 _ _ _ HX.out (by simp)).mono ?_
    rintro e w1 ⟨rfl, hx, ht⟩
    replace HX := Lib.hid hx
    replace HT := Lib.hid (HT.out.trans ht)
    clear hx ht
    go_wp2_with fail
    refine (erase_32 b 4 _ _ _ HX.out (by simp)).mono ?_
    rintro e w2 ⟨rfl, hx, ht⟩
    replace HX := Lib.hid hx
    replace HT := Lib.hid (HT.out.trans ht)
    clear hx ht
    go_wp2_with fail
    go_end0
    exact ⟨rfl, by have := HX.out; simpa [cellsC, eraseC] using this, HT.out⟩
  by_cases t7 : ty = 7
  · subst t7
    go_enter Try.func64, Try.ntmps64
    go_wp2_with fail
    refine (erase_32 b 2 _ _ _ HX.out (by simp)).mono ?_
    rintro e w1 ⟨rfl, hx, ht⟩
    replace HX := Lib.hid hx
    replace HT := Lib.hid (HT.out.trans ht)
    clear hx ht
    go_wp2_with fail
    go_end0
    exact ⟨rfl, by have := HX.out; simpa [cellsC, eraseC] using this, HT.out⟩
  have n0 : (ty == 0) = false := beq_eq_false_iff_ne.2 t0
  have n1 : (ty == 1) = false := beq_eq_false_iff_ne.2 t1
  have n2 : (ty == 2) = false := beq_eq_false_iff_ne.2 t2
  have n3 : (ty == 3) = false := beq_eq_false_iff_ne.2 t3
  have n7 : (ty == 7) = false := beq_eq_false_iff_ne.2 t7
  go_enter Try.func64, Try.ntmps64
  go_wp2_with fail
  go_end0
  exact ⟨rfl, by have := HX.out; simpa [cellsC, eraseC, t0, t1, t2, t3, t7] using this, HT.out⟩
end Go.Proofs.Ytfdnphkdpmlbnaa
