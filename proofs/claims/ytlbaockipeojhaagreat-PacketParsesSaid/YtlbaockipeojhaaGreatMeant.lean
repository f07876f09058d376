/-
  Whether gaps rise: contracts. What chunks of a type have beside numbers: contracts. A chunk without the numbers of its type: contracts. Whether a chunk is right, but for what tlv says of its items and for its length: contracts. What a chunk's type asks for beyond how much there may be, and whether it is right but for its items and its length: contracts.
-/
import Derived.Test.YtlbaockipeojhaaGreatCkMem
import Derived.BigQuiet
section
namespace Go.Proofs.YtlbaockipeojhaaGreat
open Go.RowKit
set_option linter.unusedVariables false
set_option linter.unusedSimpArgs false
set_option maxRecDepth 100000

theorem apart_step (n : Nat) (l : List (Nat × Nat)) (k : Nat) (h : k < l.length) : apartB n (l.drop k) = (decide (n ≤ l[k].1 ∧ l[k].1 ≤ l[k].2) && apartB (l[k].2 + 2) (l.drop (k + 1))) := by
  rw [List.drop_eq_getElem_cons h, apartB]
set_option maxHeartbeats 2000000 in
theorem apart_any (l : List (Nat × Nat)) (hl : l.length ≤ 100000) (hw : ∀ g ∈ l, g.1 < 65536 ∧ g.2 < 65536) (v : Value) (w : World) (hv : RowG w v l) :
    Calls Tryz.prog 105 #[v] w fun e w' => e = .returned (.bool (apartB 1 l)) ∧ Below w.heap.size w w' := by
  obtain ⟨A, cap, rfl, hcap, hmax, hcells⟩ := hv
  have HC := Lib.hid hcells
  have HS := Lib.hid (fun n k h => apart_step n l k h)
  have HE := Lib.hid (fun n => show apartB n (l.drop l.length) = true from by rw [List.drop_length]; rfl)
  have HW := Lib.hid (fun k (h : k < l.length) => hw l[k] (List.getElem_mem h))
  have H0 := Lib.hid (show apartB 1 l = apartB 1 (l.drop 0) from rfl)
  have hl' : (l.length : Int) ≤ 100000 := by omega
  generalize apartB 1 l = q at *
  clear hcells hw
  go_enter Tryz.func105, Tryz.ntmps105
  go_wp2_with fail
  go_loopw [3, 10] (fun m i wr => ∃ (k n : Nat), k ≤ l.length ∧ i = .int .i64 k ∧ m = .int .i64 (n : Int) ∧ n ≤ 70000 ∧ Hid (q = apartB n (l.drop k)) ∧ Below w.heap.size w wr)
    (fun _ i _ => l.length - (intOf i).toNat)
  case atStart => exact ⟨0, 1, Nat.zero_le _, rfl, rfl, by omega, H0, Below.refl _ _⟩
  case round =>
    obtain ⟨k, n, hk, rfl, rfl, hn, HQ, hbr⟩ := hrel
    by_cases hlt : k < l.length
    · obtain ⟨b, off, rfl, hb, hc⟩ := HC.out (by omega)
      obtain ⟨hc0, hc1⟩ := hc k hlt
      have hx := HW.out k hlt
      have HQ1 := Lib.hid (HQ.out.trans (HS.out n k hlt))
      generalize l[k] = x at *
      obtain ⟨x, y⟩ := x
      dsimp only at hc0 hc1 hx HQ1
      obtain ⟨hx1, hx2⟩ := hx
      have hd0 := (hbr.cell (p := ⟨b, off + k * 2, none⟩) hb).trans hc0
      have hd1 := (hbr.cell (p := ⟨b, off + k * 2 + 1, none⟩) hb).trans hc1
      have hbs := hbr.size
      have hblt := Nat.lt_of_lt_of_le hb hbr.size
      have HB := Lib.hid hbr
      clear hc hc0 hc1 hbr HQ
      by_cases h1 : n ≤ x
      · by_cases h2 : x ≤ y
        · rw [decide_eq_true ⟨h1, h2⟩, Bool.true_and] at HQ1
          have i1 : (n : Int) ≤ (x : Int) := by omega
          have i2 : (x : Int) ≤ (y : Int) := by omega
          go_wp2_with fail
          go_quiet (fail)
          go_wp2_with fail
          go_roundw
          case rel => exact ⟨k + 1, y + 2, by omega, by go_num, by go_num, by omega, HQ1, below_drewN (HB.out.alloc hbs _) _⟩
          case measure => simp [intOf]; omega
        · rw [decide_eq_false (fun h => h2 h.2), Bool.false_and] at HQ1
          obtain rfl := HQ1.out
          have i1 : (n : Int) ≤ (x : Int) := by omega
          have i2 : ¬ (x : Int) ≤ (y : Int) := by omega
          go_wp2_with fail
          go_quiet (fail)
          go_wp2_with fail
          go_ret
          exact ⟨rfl, below_drewN (HB.out.alloc hbs _) _⟩
      · rw [decide_eq_false (fun h => h1 h.1), Bool.false_and] at HQ1
        obtain rfl := HQ1.out
        have i1 : ¬ (n : Int) ≤ (x : Int) := by omega
        go_wp2_with fail
        go_quiet (fail)
        go_wp2_with fail
        go_ret
        exact ⟨rfl, below_drewN (HB.out.alloc hbs _) _⟩
    · obtain rfl : k = l.length := by omega
      rw [HE.out n] at HQ
      obtain rfl := HQ.out
      go_wp2_with fail
      go_ret
      exact ⟨rfl, hbr⟩
end Go.Proofs.YtlbaockipeojhaaGreat
end
section
namespace Go.Proofs.YtlbaockipeojhaaGreat
open Go.RowKit
set_option linter.unusedVariables false
set_option linter.unusedSimpArgs false
set_option maxRecDepth 100000

def formA (k : Int) : Array Value := #[.int .i64 (formOf k).1, .int .i64 (formOf k).2.1.1, .int .i64 (formOf k).2.1.2, .int .i64 (formOf k).2.2.1.1, .int .i64 (formOf k).2.2.1.2, .int .i64 (formOf k).2.2.2]
set_option maxHeartbeats 4000000 in
theorem formOf_any (k : Int) (w : World) : Calls Tryz.prog 71 #[.int .i64 k] w fun e w' => e = .returned (.agg (formA k)) ∧ Below w.heap.size w w' := by
  by_cases t0 : k = 0
  · subst t0
    have e : formA 0 = #[.int .i64 7, .int .i64 1, .int .i64 1000, .int .i64 0, .int .i64 0, .int .i64 0] := rfl
    rw [e]
    clear e
    go_enter Tryz.func71, Tryz.ntmps71
    go_wp2
    exact bodyPost_ret (v := .agg #[.int .i64 7, .int .i64 1, .int .i64 1000, .int .i64 0, .int .i64 0, .int .i64 0]) (by simp [results, Tryz.results71, go_sem]) rfl ⟨rfl, (Below.refl _ _).alloc (Nat.le_refl _) _⟩
  by_cases t1 : k = 1
  · subst t1
    have e : formA 1 = #[.int .i64 0, .int .i64 0, .int .i64 0, .int .i64 0, .int .i64 9223372036854775807, .int .i64 0] := rfl
    rw [e]
    clear e
    go_enter Tryz.func71, Tryz.ntmps71
    go_wp2
    exact bodyPost_ret (v := .agg #[.int .i64 0, .int .i64 0, .int .i64 0, .int .i64 0, .int .i64 9223372036854775807, .int .i64 0]) (by simp [results, Tryz.results71, go_sem]) rfl ⟨rfl, (Below.refl _ _).alloc (Nat.le_refl _) _⟩
  by_cases t2 : k = 2
  · subst t2
    have e : formA 2 = #[.int .i64 0, .int .i64 0, .int .i64 0, .int .i64 0, .int .i64 9223372036854775807, .int .i64 0] := rfl
    rw [e]
    clear e
    go_enter Tryz.func71, Tryz.ntmps71
    go_wp2
    exact bodyPost_ret (v := .agg #[.int .i64 0, .int .i64 0, .int .i64 0, .int .i64 0, .int .i64 9223372036854775807, .int .i64 0]) (by simp [results, Tryz.results71, go_sem]) rfl ⟨rfl, (Below.refl _ _).alloc (Nat.le_refl _) _⟩
  by_cases t3 : k = 3
  · subst t3
    have e : formA 3 = #[.int .i64 0, .int .i64 0, .int .i64 0, .int .i64 0, .int .i64 0, .int .i64 100] := rfl
    rw [e]
    clear e
    go_enter Tryz.func71, Tryz.ntmps71
    go_wp2
    exact bodyPost_ret (v := .agg #[.int .i64 0, .int .i64 0, .int .i64 0, .int .i64 0, .int .i64 0, .int .i64 100]) (by simp [results, Tryz.results71, go_sem]) rfl ⟨rfl, (Below.refl _ _).alloc (Nat.le_refl _) _⟩
  by_cases t4 : k = 4
  · subst t4
    have e : formA 4 = #[.int .i64 0, .int .i64 0, .int .i64 0, .int .i64 1, .int .i64 1, .int .i64 0] := rfl
    rw [e]
    clear e
    go_enter Tryz.func71, Tryz.ntmps71
    go_wp2
    exact bodyPost_ret (v := .agg #[.int .i64 0, .int .i64 0, .int .i64 0, .int .i64 1, .int .i64 1, .int .i64 0]) (by simp [results, Tryz.results71, go_sem]) rfl ⟨rfl, (Below.refl _ _).alloc (Nat.le_refl _) _⟩
  by_cases t5 : k = 5
  · subst t5
    have e : formA 5 = #[.int .i64 0, .int .i64 0, .int .i64 0, .int .i64 1, .int .i64 1, .int .i64 0] := rfl
    rw [e]
    clear e
    go_enter Tryz.func71, Tryz.ntmps71
    go_wp2
    exact bodyPost_ret (v := .agg #[.int .i64 0, .int .i64 0, .int .i64 0, .int .i64 1, .int .i64 1, .int .i64 0]) (by simp [results, Tryz.results71, go_sem]) rfl ⟨rfl, (Below.refl _ _).alloc (Nat.le_refl _) _⟩
  by_cases t6 : k = 6
  · subst t6
    have e : formA 6 = #[.int .i64 1, .int .i64 0, .int .i64 0, .int .i64 0, .int .i64 9223372036854775807, .int .i64 0] := rfl
    rw [e]
    clear e
    go_enter Tryz.func71, Tryz.ntmps71
    go_wp2
    exact bodyPost_ret (v := .agg #[.int .i64 1, .int .i64 0, .int .i64 0, .int .i64 0, .int .i64 9223372036854775807, .int .i64 0]) (by simp [results, Tryz.results71, go_sem]) rfl ⟨rfl, (Below.refl _ _).alloc (Nat.le_refl _) _⟩
  by_cases t9 : k = 9
  · subst t9
    have e : formA 9 = #[.int .i64 0, .int .i64 0, .int .i64 0, .int .i64 1, .int .i64 9223372036854775807, .int .i64 0] := rfl
    rw [e]
    clear e
    go_enter Tryz.func71, Tryz.ntmps71
    go_wp2
    exact bodyPost_ret (v := .agg #[.int .i64 0, .int .i64 0, .int .i64 0, .int .i64 1, .int .i64 9223372036854775807, .int .i64 0]) (by simp [results, Tryz.results71, go_sem]) rfl ⟨rfl, (Below.refl _ _).alloc (Nat.le_refl _) _⟩
  by_cases t10 : k = 10
  · subst t10
    have e : formA 10 = #[.int .i64 0, .int .i64 1, .int .i64 1000, .int .i64 0, .int .i64 0, .int .i64 0] := rfl
    rw [e]
    clear e
    go_enter Tryz.func71, Tryz.ntmps71
    go_wp2
    exact bodyPost_ret (v := .agg #[.int .i64 0, .int .i64 1, .int .i64 1000, .int .i64 0, .int .i64 0, .int .i64 0]) (by simp [results, Tryz.results71, go_sem]) rfl ⟨rfl, (Below.refl _ _).alloc (Nat.le_refl _) _⟩
  by_cases t7 : k = 7
  · subst t7
    have e : formA 7 = #[.int .i64 0, .int .i64 0, .int .i64 0, .int .i64 0, .int .i64 0, .int .i64 0] := rfl
    rw [e]
    clear e
    go_enter Tryz.func71, Tryz.ntmps71
    go_wp2
    exact bodyPost_ret (v := .agg #[.int .i64 0, .int .i64 0, .int .i64 0, .int .i64 0, .int .i64 0, .int .i64 0]) (by simp [results, Tryz.results71, go_sem]) rfl ⟨rfl, (Below.refl _ _).alloc (Nat.le_refl _) _⟩
  by_cases t8 : k = 8
  · subst t8
    have e : formA 8 = #[.int .i64 0, .int .i64 0, .int .i64 0, .int .i64 0, .int .i64 0, .int .i64 0] := rfl
    rw [e]
    clear e
    go_enter Tryz.func71, Tryz.ntmps71
    go_wp2
    exact bodyPost_ret (v := .agg #[.int .i64 0, .int .i64 0, .int .i64 0, .int .i64 0, .int .i64 0, .int .i64 0]) (by simp [results, Tryz.results71, go_sem]) rfl ⟨rfl, (Below.refl _ _).alloc (Nat.le_refl _) _⟩
  by_cases t11 : k = 11
  · subst t11
    have e : formA 11 = #[.int .i64 0, .int .i64 0, .int .i64 0, .int .i64 0, .int .i64 0, .int .i64 0] := rfl
    rw [e]
    clear e
    go_enter Tryz.func71, Tryz.ntmps71
    go_wp2
    exact bodyPost_ret (v := .agg #[.int .i64 0, .int .i64 0, .int .i64 0, .int .i64 0, .int .i64 0, .int .i64 0]) (by simp [results, Tryz.results71, go_sem]) rfl ⟨rfl, (Below.refl _ _).alloc (Nat.le_refl _) _⟩
  by_cases t14 : k = 14
  · subst t14
    have e : formA 14 = #[.int .i64 1, .int .i64 0, .int .i64 0, .int .i64 0, .int .i64 0, .int .i64 0] := rfl
    rw [e]
    clear e
    go_enter Tryz.func71, Tryz.ntmps71
    go_wp2
    exact bodyPost_ret (v := .agg #[.int .i64 1, .int .i64 0, .int .i64 0, .int .i64 0, .int .i64 0, .int .i64 0]) (by simp [results, Tryz.results71, go_sem]) rfl ⟨rfl, (Below.refl _ _).alloc (Nat.le_refl _) _⟩
  have n0 : (k == 0) = false := beq_eq_false_iff_ne.2 t0
  have n1 : (k == 1) = false := beq_eq_false_iff_ne.2 t1
  have n2 : (k == 2) = false := beq_eq_false_iff_ne.2 t2
  have n3 : (k == 3) = false := beq_eq_false_iff_ne.2 t3
  have n4 : (k == 4) = false := beq_eq_false_iff_ne.2 t4
  have n5 : (k == 5) = false := beq_eq_false_iff_ne.2 t5
  have n6 : (k == 6) = false := beq_eq_false_iff_ne.2 t6
  have n9 : (k == 9) = false := beq_eq_false_iff_ne.2 t9
  have n10 : (k == 10) = false := beq_eq_false_iff_ne.2 t10
  have n7 : (k == 7) = false := beq_eq_false_iff_ne.2 t7
  have n8 : (k == 8) = false := beq_eq_false_iff_ne.2 t8
  have n11 : (k == 11) = false := beq_eq_false_iff_ne.2 t11
  have n14 : (k == 14) = false := beq_eq_false_iff_ne.2 t14
  have e : formA k = #[.int .i64 255, .int .i64 0, .int .i64 1000, .int .i64 0, .int .i64 0, .int .i64 0] := by unfold formA formOf; simp only [t0, t1, t2, t3, t4, t5, t6, t9, t10, t7, t8, t11, t14, or_self, if_false]
  rw [e]
  clear e
  go_enter Tryz.func71, Tryz.ntmps71
  go_wp2
  exact bodyPost_ret (v := .agg #[.int .i64 255, .int .i64 0, .int .i64 1000, .int .i64 0, .int .i64 0, .int .i64 0]) (by simp [results, Tryz.results71, go_sem]) rfl ⟨rfl, (Below.refl _ _).alloc (Nat.le_refl _) _⟩
theorem within_any (n a b : Int) (w : World) : Calls Tryz.prog 72 #[.int .i64 n, .int .i64 a, .int .i64 b] w fun e w' => e = .returned (.bool (withinB n a b)) ∧ w' = w := by
  by_cases h1 : a ≤ n
  · by_cases h2 : n ≤ b
    · have e : withinB n a b = true := decide_eq_true ⟨h1, h2⟩
      rw [e]
      clear e
      go_enter Tryz.func72, Tryz.ntmps72
      go_wp2
      go_ret
      exact ⟨rfl, rfl⟩
    · have e : withinB n a b = false := decide_eq_false fun h => h2 h.2
      rw [e]
      clear e
      go_enter Tryz.func72, Tryz.ntmps72
      go_wp2
      go_ret
      exact ⟨rfl, rfl⟩
  · have e : withinB n a b = false := decide_eq_false fun h => h1 h.1
    rw [e]
    clear e
    go_enter Tryz.func72, Tryz.ntmps72
    go_wp2
    go_ret
    exact ⟨rfl, rfl⟩
end Go.Proofs.YtlbaockipeojhaaGreat
end
section
namespace Go.Proofs.YtlbaockipeojhaaGreat
open Go.RowKit
set_option linter.unusedVariables false
set_option linter.unusedSimpArgs false

theorem erase_32 (b k : Nat) (cs : Array Value) (t : TypeId) (w : World) (h : w.heap[b]? = some (.cells cs t (0, 0))) (hk : k < cs.size) :
    Calls Tryz.prog 103 #[.pointer (some ⟨b, k, none⟩)] w fun e w' => e = .returned (.tuple #[]) ∧ w'.heap[b]? = some (.cells (cs.setIfInBounds k (.int .u32 0)) t (0, 0)) ∧ Touch (· = b) w w' := by
  have c0 : w.cell? ⟨b, k, none⟩ = some cs[k] := by rw [cell_in h]; exact Array.getElem?_eq_getElem hk
  have f0 : w.frozen? ⟨b, k, none⟩ = false := frozen_of_row h k
  have HR := Lib.hid (row_set h k (.int .u32 0))
  clear h
  go_enter Tryz.func103, Tryz.ntmps103
  go_wp2
  go_end0
  exact ⟨rfl, HR.out, Touch.setCell _ _ _ _⟩
theorem erase_16 (b k : Nat) (cs : Array Value) (t : TypeId) (w : World) (h : w.heap[b]? = some (.cells cs t (0, 0))) (hk : k < cs.size) :
    Calls Tryz.prog 104 #[.pointer (some ⟨b, k, none⟩)] w fun e w' => e = .returned (.tuple #[]) ∧ w'.heap[b]? = some (.cells (cs.setIfInBounds k (.int .u16 0)) t (0, 0)) ∧ Touch (· = b) w w' := by
  have c0 : w.cell? ⟨b, k, none⟩ = some cs[k] := by rw [cell_in h]; exact Array.getElem?_eq_getElem hk
  have f0 : w.frozen? ⟨b, k, none⟩ = false := frozen_of_row h k
  have HR := Lib.hid (row_set h k (.int .u16 0))
  clear h
  go_enter Tryz.func104, Tryz.ntmps104
  go_wp2
  go_end0
  exact ⟨rfl, HR.out, Touch.setCell _ _ _ _⟩
set_option maxHeartbeats 4000000 in
theorem numbers_erase (c : Ck) (g d i : Value) (b : Nat) (w : World) (h : w.heap[b]? = some (.cells (cellsC c g d i) 52 (0, 0))) :
    Calls Tryz.prog 75 #[.pointer (some ⟨b, 0, none⟩), .func (.func 103) #[] #[], .func (.func 104) #[] #[]] w fun e w' =>
      e = .returned (.tuple #[]) ∧ w'.heap[b]? = some (.cells (cellsC (eraseC c) g d i) 52 (0, 0)) ∧ Touch (· = b) w w' := by
  obtain ⟨ty, fl, tsn, tag, win, ppid, st, ssn, outs, ins, gaps, dups, items, text⟩ := c
  have c0 : w.cell? ⟨b, 0, none⟩ = some (.int .i64 ty) := by rw [cell_in h]; rfl
  have HX := Lib.hid h
  have HT := Lib.hid (Touch.refl (· = b) w)
  clear h
  by_cases t0 : ty = 0
  · subst t0
    go_enter Tryz.func75, Tryz.ntmps75
    go_wp2_with fail
    refine (erase_32 b 2 _ _ _ HX.out (by simp)).mono ?_
    rintro e w1 ⟨rfl, hx, ht⟩
    replace HX := Lib.hid hx
    replace HT := Lib.hid (HT.out.trans ht)
    clear hx ht
    go_wp2_with fail
    refine (erase_16 b 6 _ _ _ HX.out (by simp)).mono ?_
    rintro e w2 ⟨rfl, hx, ht⟩
    replace HX := Lib.hid hx
    replace HT := Lib.hid (HT.out.trans ht)
    clear hx ht
    go_wp2_with fail
    refine (erase_16 b 7 _ _ _ HX.out (by simp)).mono ?_
    rintro e w3 ⟨rfl, hx, ht⟩
    replace HX := Lib.hid hx
    replace HT := Lib.hid (HT.out.trans ht)
    clear hx ht
    go_wp2_with fail
    refine (erase_32 b 5 _ _ _ HX.out (by simp)).mono ?_
    rintro e w4 ⟨rfl, hx, ht⟩
    replace HX := Lib.hid hx
    replace HT := Lib.hid (HT.out.trans ht)
    clear hx ht
    go_wp2_with fail
    go_end0
    exact ⟨rfl, by have := HX.out; simpa [cellsC, eraseC] using this, HT.out⟩
  by_cases t1 : ty = 1
  · subst t1
    go_enter Tryz.func75, Tryz.ntmps75
    go_wp2_with fail
    refine (erase_32 b 3 _ _ _ HX.out (by simp)).mono ?_
    rintro e w1 ⟨rfl, hx, ht⟩
    replace HX := Lib.hid hx
    replace HT := Lib.hid (HT.out.trans ht)
    clear hx ht
    go_wp2_with fail
    refine (erase_32 b 4 _ _ _ HX.out (by simp)).mono ?_
    rintro e w2 ⟨rfl, hx, ht⟩
    replace HX := Lib.hid hx
    replace HT := Lib.hid (HT.out.trans ht)
    clear hx ht
    go_wp2_with fail
    refine (erase_16 b 8 _ _ _ HX.out (by simp)).mono ?_
    rintro e w3 ⟨rfl, hx, ht⟩
    replace HX := Lib.hid hx
    replace HT := Lib.hid (HT.out.trans ht)
    clear hx ht
    go_wp2_with fail
    refine (erase_16 b 9 _ _ _ HX.out (by simp)).mono ?_
    rintro e w4 ⟨rfl, hx, ht⟩
    replace HX := Lib.hid hx
    replace HT := Lib.hid (HT.out.trans ht)
    clear hx ht
    go_wp2_with fail
    refine (erase_32 b 2 _ _ _ HX.out (by simp)).mono ?_
    rintro e w5 ⟨rfl, hx, ht⟩
    replace HX := Lib.hid hx
    replace HT := Lib.hid (HT.out.trans ht)
    clear hx ht
    go_wp2_with fail
    go_end0
    exact ⟨rfl, by have := HX.out; simpa [cellsC, eraseC] using this, HT.out⟩
  by_cases t2 : ty = 2
  · subst t2
    go_enter Tryz.func75, Tryz.ntmps75
    go_wp2_with fail
    refine (erase_32 b 3 _ _ _ HX.out (by simp)).mono ?_
    rintro e w1 ⟨rfl, hx, ht⟩
    replace HX := Lib.hid hx
    replace HT := Lib.hid (HT.out.trans ht)
    clear hx ht
    go_wp2_with fail
    refine (erase_32 b 4 _ _ _ HX.out (by simp)).mono ?_
    rintro e w2 ⟨rfl, hx, ht⟩
    replace HX := Lib.hid hx
    replace HT := Lib.hid (HT.out.trans ht)
    clear hx ht
    go_wp2_with fail
    refine (erase_16 b 8 _ _ _ HX.out (by simp)).mono ?_
    rintro e w3 ⟨rfl, hx, ht⟩
    replace HX := Lib.hid hx
    replace HT := Lib.hid (HT.out.trans ht)
    clear hx ht
    go_wp2_with fail
    refine (erase_16 b 9 _ _ _ HX.out (by simp)).mono ?_
    rintro e w4 ⟨rfl, hx, ht⟩
    replace HX := Lib.hid hx
    replace HT := Lib.hid (HT.out.trans ht)
    clear hx ht
    go_wp2_with fail
    refine (erase_32 b 2 _ _ _ HX.out (by simp)).mono ?_
    rintro e w5 ⟨rfl, hx, ht⟩
    replace HX := Lib.hid hx
    replace HT := Lib.hid (HT.out.trans ht)
    clear hx ht
    go_wp2_with fail
    go_end0
    exact ⟨rfl, by have := HX.out; simpa [cellsC, eraseC] using this, HT.out⟩
  by_cases t3 : ty = 3
  · subst t3
    go_enter Tryz.func75, Tryz.ntmps75
    go_wp2_with fail
    refine (erase_32 b 2 _ _ _ HX.out (by simp)).mono ?_
    rintro e w1 ⟨rfl, hx, ht⟩
    replace HX := Lib.hid hx
    replace HT := Lib.hid (HT.out.trans ht)
    clear hx ht
    go_wp2_with fail
    refine (erase_32 b 4 _ _ _ HX.out (by simp)).mono ?_
    rintro e w2 ⟨rfl, hx, ht⟩
    replace HX := Lib.hid hx
    replace HT := Lib.hid (HT.out.trans ht)
    clear hx ht
    go_wp2_with fail
    go_end0
    exact ⟨rfl, by have := HX.out; simpa [cellsC, eraseC] using this, HT.out⟩
  by_cases t7 : ty = 7
  · subst t7
    go_enter Tryz.func75, Tryz.ntmps75
    go_wp2_with fail
    refine (erase_32 b 2 _ _ _ HX.out (by simp)).mono ?_
    rintro e w1 ⟨rfl, hx, ht⟩
    replace HX := Lib.hid hx
    replace HT := Lib.hid (HT.out.trans ht)
    clear hx ht
    go_wp2_with fail
    go_end0
    exact ⟨rfl, by have := HX.out; simpa [cellsC, eraseC] using this, HT.out⟩
  have n0 : (ty == 0) = false := beq_eq_false_iff_ne.2 t0
  have n1 : (ty == 1) = false := beq_eq_false_iff_ne.2 t1
  have n2 : (ty == 2) = false := beq_eq_false_iff_ne.2 t2
  have n3 : (ty == 3) = false := beq_eq_false_iff_ne.2 t3
  have n7 : (ty == 7) = false := beq_eq_false_iff_ne.2 t7
  go_enter Tryz.func75, Tryz.ntmps75
  go_wp2_with fail
  go_end0
  exact ⟨rfl, by have := HX.out; simpa [cellsC, eraseC, t0, t1, t2, t3, t7] using this, HT.out⟩
end Go.Proofs.YtlbaockipeojhaaGreat
end
section
namespace Go.Proofs.YtlbaockipeojhaaGreat
open Go.RowKit
set_option linter.unusedVariables false
set_option linter.unusedSimpArgs false
set_option maxRecDepth 100000

theorem or_nats (k : IntKind) (n x y : Nat) (hk : k.bits = n) (hs : k.signed = false) (hx : x < 2 ^ n) (hy : y < 2 ^ n) : bits .or k (x : Int) (y : Int) = ((x ||| y : Nat) : Int) := by
  subst hk
  have h := Nat.or_lt_two_pow hx hy
  show k.wrap ((BitVec.ofInt k.bits (x : Int) ||| BitVec.ofInt k.bits (y : Int)).toNat : Int) = _
  rw [BitVec.ofInt_natCast, BitVec.ofInt_natCast, BitVec.toNat_or, BitVec.toNat_ofNat, BitVec.toNat_ofNat, Nat.mod_eq_of_lt hx, Nat.mod_eq_of_lt hy]
  unfold IntKind.wrap
  simp only [hs]
  have e : (((x ||| y : Nat) : Int) % 2 ^ k.bits) = ((x ||| y : Nat) : Int) := by
    apply Int.emod_eq_of_lt (by omega)
    exact_mod_cast h
  simpa using e
theorem or_zero (x y : Nat) : x ||| y = 0 ↔ x = 0 ∧ y = 0 := Nat.or_eq_zero_iff
theorem or4_32 (x y z u : Nat) (hx : x < 4294967296) (hy : y < 4294967296) (hz : z < 4294967296) (hu : u < 4294967296) :
    (bits .or .u32 (bits .or .u32 (bits .or .u32 (x : Int) (y : Int)) (z : Int)) (u : Int) == 0) = decide (x = 0 ∧ y = 0 ∧ z = 0 ∧ u = 0) := by
  have e1 := Nat.or_lt_two_pow (n := 32) hx hy
  have e2 := Nat.or_lt_two_pow (n := 32) e1 hz
  rw [or_nats .u32 32 x y rfl rfl hx hy, or_nats .u32 32 _ z rfl rfl e1 hz, or_nats .u32 32 _ u rfl rfl e2 hu]
  rw [Bool.eq_iff_iff, beq_iff_eq, decide_eq_true_eq]
  have : (((x ||| y ||| z ||| u : Nat) : Int) = 0) ↔ x ||| y ||| z ||| u = 0 := by omega
  rw [this, or_zero, or_zero, or_zero]
  simp only [and_assoc]
theorem or4_16 (x y z u : Nat) (hx : x < 65536) (hy : y < 65536) (hz : z < 65536) (hu : u < 65536) :
    (bits .or .u16 (bits .or .u16 (bits .or .u16 (x : Int) (y : Int)) (z : Int)) (u : Int) == 0) = decide (x = 0 ∧ y = 0 ∧ z = 0 ∧ u = 0) := by
  have e1 := Nat.or_lt_two_pow (n := 16) hx hy
  have e2 := Nat.or_lt_two_pow (n := 16) e1 hz
  rw [or_nats .u16 16 x y rfl rfl hx hy, or_nats .u16 16 _ z rfl rfl e1 hz, or_nats .u16 16 _ u rfl rfl e2 hu]
  rw [Bool.eq_iff_iff, beq_iff_eq, decide_eq_true_eq]
  have : (((x ||| y ||| z ||| u : Nat) : Int) = 0) ↔ x ||| y ||| z ||| u = 0 := by omega
  rw [this, or_zero, or_zero, or_zero]
  simp only [and_assoc]
theorem erase_wf {c : Ck} (h : WfC c) : WfC (eraseC c) := by
  obtain ⟨ty, fl, tsn, tag, win, ppid, st, ssn, outs, ins, gaps, dups, items, text⟩ := c
  obtain ⟨a1, a2, a3, a4, a5, a6, a7, a8, a9, a10⟩ := h
  unfold eraseC
  dsimp only at *
  repeat' split
  all_goals (constructor <;> dsimp only <;> first | assumption | omega)
set_option maxHeartbeats 4000000 in
theorem own_any (c : Ck) (hw : WfC c) (g d i : Value) (w : World) :
    Calls Tryz.prog 73 #[.agg (cellsC c g d i)] w fun e w' => e = .returned (.bool (ownB c)) ∧ Below w.heap.size w w' := by
  have hw' := erase_wf hw
  have HN := Lib.hid (numbers_erase c g d i w.heap.size (w.alloc (.cells (cellsC c g d i) 52)) (heap_alloc_new w _))
  unfold ownB
  generalize eraseC c = c' at *
  obtain ⟨ty', fl', tsn', tag', win', ppid', st', ssn', outs', ins', gaps', dups', items', text'⟩ := c'
  obtain ⟨a1, a2, a3, a4, a5, a6, a7, a8, a9, a10⟩ := hw'
  dsimp only at a1 a2 a3 a4 a5 a6 a7 a8
  have h1 := or4_32 tsn' tag' win' ppid' a1 a2 a3 a4
  have h2 := or4_16 st' ssn' outs' ins' a5 a6 a7 a8
  unfold nothingB
  dsimp only
  generalize decide (tsn' = 0 ∧ tag' = 0 ∧ win' = 0 ∧ ppid' = 0) = q1 at *
  generalize decide (st' = 0 ∧ ssn' = 0 ∧ outs' = 0 ∧ ins' = 0) = q2 at *
  have HB := Lib.hid ((Below.refl w.heap.size w).alloc (Nat.le_refl _) (.cells (cellsC c g d i) 52))
  clear hw
  obtain ⟨ty, fl, tsn, tag, win, ppid, st, ssn, outs, ins, gaps, dups, items, text⟩ := c
  dsimp only [cellsC] at HN HB ⊢
  cases q1 <;> cases q2
  all_goals
    simp only [Bool.and_false, Bool.false_and, Bool.and_true, Bool.and_self]
    go_enter Tryz.func73, Tryz.ntmps73
    go_wp2_with fail
    refine HN.out.mono ?_
    rintro e w1 ⟨rfl, hx, ht⟩
    replace HB := Lib.hid (HB.out.trans (ht.below fun k hk => Nat.le_of_eq hk.symm))
    have c2 : w1.cell? ⟨w.heap.size, 2, none⟩ = some (.int .u32 (tsn' : Int)) := by rw [cell_in hx]; rfl
    have c3 : w1.cell? ⟨w.heap.size, 3, none⟩ = some (.int .u32 (tag' : Int)) := by rw [cell_in hx]; rfl
    have c4 : w1.cell? ⟨w.heap.size, 4, none⟩ = some (.int .u32 (win' : Int)) := by rw [cell_in hx]; rfl
    have c5 : w1.cell? ⟨w.heap.size, 5, none⟩ = some (.int .u32 (ppid' : Int)) := by rw [cell_in hx]; rfl
    have c6 : w1.cell? ⟨w.heap.size, 6, none⟩ = some (.int .u16 (st' : Int)) := by rw [cell_in hx]; rfl
    have c7 : w1.cell? ⟨w.heap.size, 7, none⟩ = some (.int .u16 (ssn' : Int)) := by rw [cell_in hx]; rfl
    have c8 : w1.cell? ⟨w.heap.size, 8, none⟩ = some (.int .u16 (outs' : Int)) := by rw [cell_in hx]; rfl
    have c9 : w1.cell? ⟨w.heap.size, 9, none⟩ = some (.int .u16 (ins' : Int)) := by rw [cell_in hx]; rfl
    clear hx ht HN
    go_wp2_with fail
    go_ret
    exact ⟨rfl, HB.out⟩
end Go.Proofs.YtlbaockipeojhaaGreat
end
section
namespace Go.Proofs.YtlbaockipeojhaaGreat
open Go.RowKit
set_option linter.unusedVariables false
set_option linter.unusedSimpArgs false
set_option maxRecDepth 100000

set_option maxHeartbeats 4000000 in
theorem meant_any (c : Ck) (hw : WfC c) (hl : c.gaps.length ≤ 100000) (hi : c.type = 4 ∨ c.type = 5 → c.items ≠ []) (g d i : Value) (w : World) (hp : Parts w c g d i) :
    Calls Tryz.prog 74 #[.agg (cellsC c g d i)] w fun e w' => e = .returned (.bool (meantB c)) ∧ Below w.heap.size w w' := by
  obtain ⟨ty, fl, tsn, tag, win, ppid, st, ssn, outs, ins, gaps, dups, items, text⟩ := c
  obtain ⟨p1, p2, p3⟩ := hp
  obtain ⟨a1, a2, a3, a4, a5, a6, a7, a8, a9, a10⟩ := hw
  dsimp only at p1 p3 a2 a7 a8 a9 hi hl
  have HB := Lib.hid ((Below.refl w.heap.size w).alloc (Nat.le_refl _) (.cells (cellsC ⟨ty, fl, tsn, tag, win, ppid, st, ssn, outs, ins, gaps, dups, items, text⟩ g d i) 52))
  have HA := Lib.hid (apart_any gaps hl a9 g _ (p1.below HB.out))
  dsimp only [cellsC] at HB HA ⊢
  clear a1 a3 a4 a5 a6 a9 a10 p1 p2
  by_cases t1 : ty = 1
  · subst t1
    clear HA
    have e : meantB ⟨1, fl, tsn, tag, win, ppid, st, ssn, outs, ins, gaps, dups, items, text⟩ = (decide (tag ≠ 0) && decide (outs ≠ 0) && decide (ins ≠ 0)) := rfl
    rw [e]
    clear e
    by_cases h1 : tag = 0
    · subst h1
      simp only [ne_eq, not_true_eq_false, decide_false, Bool.false_and]
      go_enter Tryz.func74, Tryz.ntmps74
      go_wp2_with fail
      go_ret
      exact ⟨rfl, HB.out⟩
    have k1 : ((tag : Int) != 0) = true := bne_iff_ne.2 (by omega)
    by_cases h2 : outs = 0
    · subst h2
      simp only [ne_eq, not_true_eq_false, decide_false, Bool.false_and, Bool.and_false]
      go_enter Tryz.func74, Tryz.ntmps74
      go_wp2_with fail
      go_ret
      exact ⟨rfl, HB.out⟩
    have k2 : ((outs : Int) != 0) = true := bne_iff_ne.2 (by omega)
    by_cases h3 : ins = 0
    · subst h3
      simp only [ne_eq, not_true_eq_false, decide_false, Bool.false_and, Bool.and_false]
      go_enter Tryz.func74, Tryz.ntmps74
      go_wp2_with fail
      go_ret
      exact ⟨rfl, HB.out⟩
    have k3 : ((ins : Int) != 0) = true := bne_iff_ne.2 (by omega)
    rw [decide_eq_true h1, decide_eq_true h2, decide_eq_true h3]
    clear h1 h2 h3
    go_enter Tryz.func74, Tryz.ntmps74
    go_wp2_with fail
    go_ret
    exact ⟨rfl, HB.out⟩
  by_cases t2 : ty = 2
  · subst t2
    clear HA
    have e : meantB ⟨2, fl, tsn, tag, win, ppid, st, ssn, outs, ins, gaps, dups, items, text⟩ = (decide (tag ≠ 0) && decide (outs ≠ 0) && decide (ins ≠ 0)) := rfl
    rw [e]
    clear e
    by_cases h1 : tag = 0
    · subst h1
      simp only [ne_eq, not_true_eq_false, decide_false, Bool.false_and]
      go_enter Tryz.func74, Tryz.ntmps74
      go_wp2_with fail
      go_ret
      exact ⟨rfl, HB.out⟩
    have k1 : ((tag : Int) != 0) = true := bne_iff_ne.2 (by omega)
    by_cases h2 : outs = 0
    · subst h2
      simp only [ne_eq, not_true_eq_false, decide_false, Bool.false_and, Bool.and_false]
      go_enter Tryz.func74, Tryz.ntmps74
      go_wp2_with fail
      go_ret
      exact ⟨rfl, HB.out⟩
    have k2 : ((outs : Int) != 0) = true := bne_iff_ne.2 (by omega)
    by_cases h3 : ins = 0
    · subst h3
      simp only [ne_eq, not_true_eq_false, decide_false, Bool.false_and, Bool.and_false]
      go_enter Tryz.func74, Tryz.ntmps74
      go_wp2_with fail
      go_ret
      exact ⟨rfl, HB.out⟩
    have k3 : ((ins : Int) != 0) = true := bne_iff_ne.2 (by omega)
    rw [decide_eq_true h1, decide_eq_true h2, decide_eq_true h3]
    clear h1 h2 h3
    go_enter Tryz.func74, Tryz.ntmps74
    go_wp2_with fail
    go_ret
    exact ⟨rfl, HB.out⟩
  by_cases t3 : ty = 3
  · subst t3
    have e : meantB ⟨3, fl, tsn, tag, win, ppid, st, ssn, outs, ins, gaps, dups, items, text⟩ = apartB 1 gaps := rfl
    rw [e]
    generalize apartB 1 gaps = q at *
    clear e
    go_enter Tryz.func74, Tryz.ntmps74
    go_wp2_with fail
    refine HA.out.mono ?_
    rintro e w1 ⟨rfl, hb1⟩
    replace HB := Lib.hid (HB.out.trans (hb1.mono HB.out.size))
    clear hb1
    go_wp2_with fail
    go_ret
    exact ⟨rfl, HB.out⟩
  by_cases t4 : ty = 4
  · subst t4
    clear HA
    have hne := hi (by omega)
    obtain ⟨⟨x, t⟩, l, rfl⟩ := List.exists_cons_of_ne_nil hne
    have e : meantB ⟨4, fl, tsn, tag, win, ppid, st, ssn, outs, ins, gaps, dups, (x, t) :: l, text⟩ = decide (x = 1) := rfl
    rw [e]
    obtain ⟨A, cap, rfl, hcap, hmax, hcells⟩ := p3
    obtain ⟨b, off, rfl, hb, hc⟩ := hcells (by simp)
    have hc0 := (hc 0 (by simp)).1
    simp only [Nat.zero_mul, Nat.add_zero, List.getElem_cons_zero] at hc0
    have hz : 0 < (((x, t) : Item) :: l).length := by simp
    have hz' : (0 : Int) < ((((x, t) : Item) :: l).length : Int) := by omega
    clear e hc hcells hne hi
    generalize (((x, t) : Item) :: l).length = n at *
    by_cases hx : x = 1
    · subst hx
      rw [decide_eq_true rfl]
      go_enter Tryz.func74, Tryz.ntmps74
      go_wp2_with fail
      go_ret
      exact ⟨rfl, HB.out⟩
    · have k1 : (x == 1) = false := beq_eq_false_iff_ne.2 hx
      rw [decide_eq_false hx]
      clear hx
      go_enter Tryz.func74, Tryz.ntmps74
      go_wp2_with fail
      go_ret
      exact ⟨rfl, HB.out⟩
  by_cases t5 : ty = 5
  · subst t5
    clear HA
    have hne := hi (by omega)
    obtain ⟨⟨x, t⟩, l, rfl⟩ := List.exists_cons_of_ne_nil hne
    have e : meantB ⟨5, fl, tsn, tag, win, ppid, st, ssn, outs, ins, gaps, dups, (x, t) :: l, text⟩ = decide (x = 1) := rfl
    rw [e]
    obtain ⟨A, cap, rfl, hcap, hmax, hcells⟩ := p3
    obtain ⟨b, off, rfl, hb, hc⟩ := hcells (by simp)
    have hc0 := (hc 0 (by simp)).1
    simp only [Nat.zero_mul, Nat.add_zero, List.getElem_cons_zero] at hc0
    have hz : 0 < (((x, t) : Item) :: l).length := by simp
    have hz' : (0 : Int) < ((((x, t) : Item) :: l).length : Int) := by omega
    clear e hc hcells hne hi
    generalize (((x, t) : Item) :: l).length = n at *
    by_cases hx : x = 1
    · subst hx
      rw [decide_eq_true rfl]
      go_enter Tryz.func74, Tryz.ntmps74
      go_wp2_with fail
      go_ret
      exact ⟨rfl, HB.out⟩
    · have k1 : (x == 1) = false := beq_eq_false_iff_ne.2 hx
      rw [decide_eq_false hx]
      clear hx
      go_enter Tryz.func74, Tryz.ntmps74
      go_wp2_with fail
      go_ret
      exact ⟨rfl, HB.out⟩
  have e : meantB ⟨ty, fl, tsn, tag, win, ppid, st, ssn, outs, ins, gaps, dups, items, text⟩ = true := by unfold meantB; simp only [t1, t2, t3, t4, t5, or_self, if_false]
  rw [e]
  have n1 : (ty == 1) = false := beq_eq_false_iff_ne.2 t1
  have n2 : (ty == 2) = false := beq_eq_false_iff_ne.2 t2
  have n3 : (ty == 3) = false := beq_eq_false_iff_ne.2 t3
  have n4 : (ty == 4) = false := beq_eq_false_iff_ne.2 t4
  have n5 : (ty == 5) = false := beq_eq_false_iff_ne.2 t5
  clear e HA
  go_enter Tryz.func74, Tryz.ntmps74
  go_wp2_with fail
  go_ret
  exact ⟨rfl, HB.out⟩
theorem form_items {k : Int} {n : Nat} (h : withinB (n : Int) (formOf k).2.2.1.1 (formOf k).2.2.1.2 = true) (hk : k = 4 ∨ k = 5) : n = 1 := by
  have := within_true.1 h
  rcases hk with rfl | rfl
  · have e : formOf 4 = (0, (0, 0), (1, 1), 0) := rfl
    rw [e] at this
    dsimp only at this
    omega
  · have e : formOf 5 = (0, (0, 0), (1, 1), 0) := rfl
    rw [e] at this
    dsimp only at this
    omega
set_option maxHeartbeats 8000000 in
theorem formed_any (c : Ck) (hw : WfC c) (hl : c.gaps.length ≤ 100000) (hl2 : c.dups.length ≤ 100000) (hl3 : c.items.length ≤ 100000) (hs : c.text.size ≤ 1000000) (g d i : Value) (w : World) (hp : Parts w c g d i) :
    Calls Tryz.prog 44 #[.agg (cellsC c g d i)] w fun e w' => e = .returned (.bool (formedB c)) ∧ Below w.heap.size w w' := by
  have HB := Lib.hid ((Below.refl w.heap.size w).alloc (Nat.le_refl _) (.cells (cellsC c g d i) 52))
  have HX0 := Lib.hid (heap_alloc_new w (.cells (cellsC c g d i) 52))
  have HP := Lib.hid hp
  have HF := Lib.hid (fun W => formOf_any c.type W)
  have HM := Lib.hid (fun hi W h => meant_any c hw hl hi g d i W h)
  have HO := Lib.hid (fun W => own_any c hw g d i W)
  have HI := Lib.hid (fun h hk => form_items (k := c.type) (n := c.items.length) h hk)
  have HL := Lib.hid (show c.items.length = 1 → c.items ≠ [] from fun h e => by rw [e] at h; cases h)
  have W1 := Lib.hid (fun W => within_any c.type 0 255 W)
  have W2 := Lib.hid (fun W => within_any c.flags 0 (formOf c.type).1 W)
  have W3 := Lib.hid (fun W => within_any (c.text.size : Int) (formOf c.type).2.1.1 (formOf c.type).2.1.2 W)
  have W4 := Lib.hid (fun W => within_any (c.items.length : Int) (formOf c.type).2.2.1.1 (formOf c.type).2.2.1.2 W)
  unfold formedB
  unfold formA at HF
  obtain ⟨⟨A1, k1, rfl⟩, ⟨A2, k2, rfl⟩, ⟨A3, k3, rfl⟩⟩ := hp.slices
  obtain ⟨ty, fl, tsn, tag, win, ppid, st, ssn, outs, ins, gaps, dups, items, text⟩ := c
  dsimp only [cellsC] at *
  clear hw hp hl3
  generalize formOf ty = F at *
  obtain ⟨mf, ⟨ta, tb⟩, ⟨ia, ib⟩, mr⟩ := F
  dsimp only at *
  generalize withinB ty 0 255 = b1 at *
  generalize withinB fl 0 mf = b2 at *
  generalize withinB (text.size : Int) ta tb = b3 at *
  generalize withinB (items.length : Int) ia ib = b4 at *
  generalize ownB ⟨ty, fl, tsn, tag, win, ppid, st, ssn, outs, ins, gaps, dups, items, text⟩ = b7 at *
  generalize meantB ⟨ty, fl, tsn, tag, win, ppid, st, ssn, outs, ins, gaps, dups, items, text⟩ = b8 at *
  have hl' : (gaps.length : Int) ≤ 100000 := by omega
  have hl2' : (dups.length : Int) ≤ 100000 := by omega
  have hs' : (text.size : Int) ≤ 1000000 := by omega
  cases b1 with
  | false =>
    simp only [Bool.false_and, Bool.true_and, Bool.and_false]
    go_enter Tryz.func44, Tryz.ntmps44
    go_wp2_with fail
    refine (HF.out _).mono ?_
    rintro e w1 ⟨rfl, hb1⟩
    have hx := (hb1.block _ (Array.getElem?_eq_some_iff.1 HX0.out).1).trans HX0.out
    replace HP := Lib.hid ((HP.out.below ((Below.refl _ _).alloc (Nat.le_refl _) _)).below hb1)
    replace HB := Lib.hid (HB.out.trans (hb1.mono HB.out.size))
    have c0 : w1.cell? ⟨w.heap.size, 0, none⟩ = some (.int .i64 ty) := by rw [cell_in hx]; rfl
    have c1 : w1.cell? ⟨w.heap.size, 1, none⟩ = some (.int .i64 fl) := by rw [cell_in hx]; rfl
    have c2 : w1.cell? ⟨w.heap.size, 2, none⟩ = some (.int .u32 (tsn : Int)) := by rw [cell_in hx]; rfl
    have c3 : w1.cell? ⟨w.heap.size, 3, none⟩ = some (.int .u32 (tag : Int)) := by rw [cell_in hx]; rfl
    have c4 : w1.cell? ⟨w.heap.size, 4, none⟩ = some (.int .u32 (win : Int)) := by rw [cell_in hx]; rfl
    have c5 : w1.cell? ⟨w.heap.size, 5, none⟩ = some (.int .u32 (ppid : Int)) := by rw [cell_in hx]; rfl
    have c6 : w1.cell? ⟨w.heap.size, 6, none⟩ = some (.int .u16 (st : Int)) := by rw [cell_in hx]; rfl
    have c7 : w1.cell? ⟨w.heap.size, 7, none⟩ = some (.int .u16 (ssn : Int)) := by rw [cell_in hx]; rfl
    have c8 : w1.cell? ⟨w.heap.size, 8, none⟩ = some (.int .u16 (outs : Int)) := by rw [cell_in hx]; rfl
    have c9 : w1.cell? ⟨w.heap.size, 9, none⟩ = some (.int .u16 (ins : Int)) := by rw [cell_in hx]; rfl
    have c10 : w1.cell? ⟨w.heap.size, 10, none⟩ = some (.slice A1 gaps.length k1) := by rw [cell_in hx]; rfl
    have c11 : w1.cell? ⟨w.heap.size, 11, none⟩ = some (.slice A2 dups.length k2) := by rw [cell_in hx]; rfl
    have c12 : w1.cell? ⟨w.heap.size, 12, none⟩ = some (.slice A3 items.length k3) := by rw [cell_in hx]; rfl
    have c13 : w1.cell? ⟨w.heap.size, 13, none⟩ = some (.string text) := by rw [cell_in hx]; rfl
    have hlt : w.heap.size < w1.heap.size := (Array.getElem?_eq_some_iff.1 hx).1
    have HX := Lib.hid hx
    clear hx hb1 HX0
    go_wp2_with (first
      | (go_at_call 72; ((with_reducible refine (W1.out _).mono ?_); rintro e w2 ⟨rfl, rfl⟩)))
    go_ret
    exact ⟨rfl, HB.out.alloc HB.out.size _⟩
  | true =>
    cases b2 with
    | false =>
      simp only [Bool.false_and, Bool.true_and, Bool.and_false]
      go_enter Tryz.func44, Tryz.ntmps44
      go_wp2_with fail
      refine (HF.out _).mono ?_
      rintro e w1 ⟨rfl, hb1⟩
      have hx := (hb1.block _ (Array.getElem?_eq_some_iff.1 HX0.out).1).trans HX0.out
      replace HP := Lib.hid ((HP.out.below ((Below.refl _ _).alloc (Nat.le_refl _) _)).below hb1)
      replace HB := Lib.hid (HB.out.trans (hb1.mono HB.out.size))
      have c0 : w1.cell? ⟨w.heap.size, 0, none⟩ = some (.int .i64 ty) := by rw [cell_in hx]; rfl
      have c1 : w1.cell? ⟨w.heap.size, 1, none⟩ = some (.int .i64 fl) := by rw [cell_in hx]; rfl
      have c2 : w1.cell? ⟨w.heap.size, 2, none⟩ = some (.int .u32 (tsn : Int)) := by rw [cell_in hx]; rfl
      have c3 : w1.cell? ⟨w.heap.size, 3, none⟩ = some (.int .u32 (tag : Int)) := by rw [cell_in hx]; rfl
      have c4 : w1.cell? ⟨w.heap.size, 4, none⟩ = some (.int .u32 (win : Int)) := by rw [cell_in hx]; rfl
      have c5 : w1.cell? ⟨w.heap.size, 5, none⟩ = some (.int .u32 (ppid : Int)) := by rw [cell_in hx]; rfl
      have c6 : w1.cell? ⟨w.heap.size, 6, none⟩ = some (.int .u16 (st : Int)) := by rw [cell_in hx]; rfl
      have c7 : w1.cell? ⟨w.heap.size, 7, none⟩ = some (.int .u16 (ssn : Int)) := by rw [cell_in hx]; rfl
      have c8 : w1.cell? ⟨w.heap.size, 8, none⟩ = some (.int .u16 (outs : Int)) := by rw [cell_in hx]; rfl
      have c9 : w1.cell? ⟨w.heap.size, 9, none⟩ = some (.int .u16 (ins : Int)) := by rw [cell_in hx]; rfl
      have c10 : w1.cell? ⟨w.heap.size, 10, none⟩ = some (.slice A1 gaps.length k1) := by rw [cell_in hx]; rfl
      have c11 : w1.cell? ⟨w.heap.size, 11, none⟩ = some (.slice A2 dups.length k2) := by rw [cell_in hx]; rfl
      have c12 : w1.cell? ⟨w.heap.size, 12, none⟩ = some (.slice A3 items.length k3) := by rw [cell_in hx]; rfl
      have c13 : w1.cell? ⟨w.heap.size, 13, none⟩ = some (.string text) := by rw [cell_in hx]; rfl
      have hlt : w.heap.size < w1.heap.size := (Array.getElem?_eq_some_iff.1 hx).1
      have HX := Lib.hid hx
      clear hx hb1 HX0
      go_wp2_with (first
        | (go_at_call 72; ((with_reducible refine (W1.out _).mono ?_); rintro e w2 ⟨rfl, rfl⟩))
        | (go_at_call 72; ((with_reducible refine (W2.out _).mono ?_); rintro e w2 ⟨rfl, rfl⟩)))
      go_ret
      exact ⟨rfl, HB.out.alloc HB.out.size _⟩
    | true =>
      cases b3 with
      | false =>
        simp only [Bool.false_and, Bool.true_and, Bool.and_false]
        go_enter Tryz.func44, Tryz.ntmps44
        go_wp2_with fail
        refine (HF.out _).mono ?_
        rintro e w1 ⟨rfl, hb1⟩
        have hx := (hb1.block _ (Array.getElem?_eq_some_iff.1 HX0.out).1).trans HX0.out
        replace HP := Lib.hid ((HP.out.below ((Below.refl _ _).alloc (Nat.le_refl _) _)).below hb1)
        replace HB := Lib.hid (HB.out.trans (hb1.mono HB.out.size))
        have c0 : w1.cell? ⟨w.heap.size, 0, none⟩ = some (.int .i64 ty) := by rw [cell_in hx]; rfl
        have c1 : w1.cell? ⟨w.heap.size, 1, none⟩ = some (.int .i64 fl) := by rw [cell_in hx]; rfl
        have c2 : w1.cell? ⟨w.heap.size, 2, none⟩ = some (.int .u32 (tsn : Int)) := by rw [cell_in hx]; rfl
        have c3 : w1.cell? ⟨w.heap.size, 3, none⟩ = some (.int .u32 (tag : Int)) := by rw [cell_in hx]; rfl
        have c4 : w1.cell? ⟨w.heap.size, 4, none⟩ = some (.int .u32 (win : Int)) := by rw [cell_in hx]; rfl
        have c5 : w1.cell? ⟨w.heap.size, 5, none⟩ = some (.int .u32 (ppid : Int)) := by rw [cell_in hx]; rfl
        have c6 : w1.cell? ⟨w.heap.size, 6, none⟩ = some (.int .u16 (st : Int)) := by rw [cell_in hx]; rfl
        have c7 : w1.cell? ⟨w.heap.size, 7, none⟩ = some (.int .u16 (ssn : Int)) := by rw [cell_in hx]; rfl
        have c8 : w1.cell? ⟨w.heap.size, 8, none⟩ = some (.int .u16 (outs : Int)) := by rw [cell_in hx]; rfl
        have c9 : w1.cell? ⟨w.heap.size, 9, none⟩ = some (.int .u16 (ins : Int)) := by rw [cell_in hx]; rfl
        have c10 : w1.cell? ⟨w.heap.size, 10, none⟩ = some (.slice A1 gaps.length k1) := by rw [cell_in hx]; rfl
        have c11 : w1.cell? ⟨w.heap.size, 11, none⟩ = some (.slice A2 dups.length k2) := by rw [cell_in hx]; rfl
        have c12 : w1.cell? ⟨w.heap.size, 12, none⟩ = some (.slice A3 items.length k3) := by rw [cell_in hx]; rfl
        have c13 : w1.cell? ⟨w.heap.size, 13, none⟩ = some (.string text) := by rw [cell_in hx]; rfl
        have hlt : w.heap.size < w1.heap.size := (Array.getElem?_eq_some_iff.1 hx).1
        have HX := Lib.hid hx
        clear hx hb1 HX0
        go_wp2_with (first
          | (go_at_call 72; ((with_reducible refine (W1.out _).mono ?_); rintro e w2 ⟨rfl, rfl⟩))
          | (go_at_call 72; ((with_reducible refine (W2.out _).mono ?_); rintro e w2 ⟨rfl, rfl⟩))
          | (go_at_call 72; ((with_reducible refine (W3.out _).mono ?_); rintro e w2 ⟨rfl, rfl⟩)))
        go_ret
        exact ⟨rfl, HB.out.alloc HB.out.size _⟩
      | true =>
        cases b4 with
        | false =>
          simp only [Bool.false_and, Bool.true_and, Bool.and_false]
          go_enter Tryz.func44, Tryz.ntmps44
          go_wp2_with fail
          refine (HF.out _).mono ?_
          rintro e w1 ⟨rfl, hb1⟩
          have hx := (hb1.block _ (Array.getElem?_eq_some_iff.1 HX0.out).1).trans HX0.out
          replace HP := Lib.hid ((HP.out.below ((Below.refl _ _).alloc (Nat.le_refl _) _)).below hb1)
          replace HB := Lib.hid (HB.out.trans (hb1.mono HB.out.size))
          have c0 : w1.cell? ⟨w.heap.size, 0, none⟩ = some (.int .i64 ty) := by rw [cell_in hx]; rfl
          have c1 : w1.cell? ⟨w.heap.size, 1, none⟩ = some (.int .i64 fl) := by rw [cell_in hx]; rfl
          have c2 : w1.cell? ⟨w.heap.size, 2, none⟩ = some (.int .u32 (tsn : Int)) := by rw [cell_in hx]; rfl
          have c3 : w1.cell? ⟨w.heap.size, 3, none⟩ = some (.int .u32 (tag : Int)) := by rw [cell_in hx]; rfl
          have c4 : w1.cell? ⟨w.heap.size, 4, none⟩ = some (.int .u32 (win : Int)) := by rw [cell_in hx]; rfl
          have c5 : w1.cell? ⟨w.heap.size, 5, none⟩ = some (.int .u32 (ppid : Int)) := by rw [cell_in hx]; rfl
          have c6 : w1.cell? ⟨w.heap.size, 6, none⟩ = some (.int .u16 (st : Int)) := by rw [cell_in hx]; rfl
          have c7 : w1.cell? ⟨w.heap.size, 7, none⟩ = some (.int .u16 (ssn : Int)) := by rw [cell_in hx]; rfl
          have c8 : w1.cell? ⟨w.heap.size, 8, none⟩ = some (.int .u16 (outs : Int)) := by rw [cell_in hx]; rfl
          have c9 : w1.cell? ⟨w.heap.size, 9, none⟩ = some (.int .u16 (ins : Int)) := by rw [cell_in hx]; rfl
          have c10 : w1.cell? ⟨w.heap.size, 10, none⟩ = some (.slice A1 gaps.length k1) := by rw [cell_in hx]; rfl
          have c11 : w1.cell? ⟨w.heap.size, 11, none⟩ = some (.slice A2 dups.length k2) := by rw [cell_in hx]; rfl
          have c12 : w1.cell? ⟨w.heap.size, 12, none⟩ = some (.slice A3 items.length k3) := by rw [cell_in hx]; rfl
          have c13 : w1.cell? ⟨w.heap.size, 13, none⟩ = some (.string text) := by rw [cell_in hx]; rfl
          have hlt : w.heap.size < w1.heap.size := (Array.getElem?_eq_some_iff.1 hx).1
          have HX := Lib.hid hx
          clear hx hb1 HX0
          go_wp2_with (first
            | (go_at_call 72; ((with_reducible refine (W1.out _).mono ?_); rintro e w2 ⟨rfl, rfl⟩))
            | (go_at_call 72; ((with_reducible refine (W2.out _).mono ?_); rintro e w2 ⟨rfl, rfl⟩))
            | (go_at_call 72; ((with_reducible refine (W3.out _).mono ?_); rintro e w2 ⟨rfl, rfl⟩))
            | (go_at_call 72; ((with_reducible refine (W4.out _).mono ?_); rintro e w2 ⟨rfl, rfl⟩)))
          go_ret
          exact ⟨rfl, HB.out.alloc HB.out.size _⟩
        | true =>
          by_cases h5 : (gaps.length : Int) ≤ mr
          case neg =>
            rw [decide_eq_false h5]
            simp only [Bool.false_and, Bool.true_and, Bool.and_false]
            go_enter Tryz.func44, Tryz.ntmps44
            go_wp2_with fail
            refine (HF.out _).mono ?_
            rintro e w1 ⟨rfl, hb1⟩
            have hx := (hb1.block _ (Array.getElem?_eq_some_iff.1 HX0.out).1).trans HX0.out
            replace HP := Lib.hid ((HP.out.below ((Below.refl _ _).alloc (Nat.le_refl _) _)).below hb1)
            replace HB := Lib.hid (HB.out.trans (hb1.mono HB.out.size))
            have c0 : w1.cell? ⟨w.heap.size, 0, none⟩ = some (.int .i64 ty) := by rw [cell_in hx]; rfl
            have c1 : w1.cell? ⟨w.heap.size, 1, none⟩ = some (.int .i64 fl) := by rw [cell_in hx]; rfl
            have c2 : w1.cell? ⟨w.heap.size, 2, none⟩ = some (.int .u32 (tsn : Int)) := by rw [cell_in hx]; rfl
            have c3 : w1.cell? ⟨w.heap.size, 3, none⟩ = some (.int .u32 (tag : Int)) := by rw [cell_in hx]; rfl
            have c4 : w1.cell? ⟨w.heap.size, 4, none⟩ = some (.int .u32 (win : Int)) := by rw [cell_in hx]; rfl
            have c5 : w1.cell? ⟨w.heap.size, 5, none⟩ = some (.int .u32 (ppid : Int)) := by rw [cell_in hx]; rfl
            have c6 : w1.cell? ⟨w.heap.size, 6, none⟩ = some (.int .u16 (st : Int)) := by rw [cell_in hx]; rfl
            have c7 : w1.cell? ⟨w.heap.size, 7, none⟩ = some (.int .u16 (ssn : Int)) := by rw [cell_in hx]; rfl
            have c8 : w1.cell? ⟨w.heap.size, 8, none⟩ = some (.int .u16 (outs : Int)) := by rw [cell_in hx]; rfl
            have c9 : w1.cell? ⟨w.heap.size, 9, none⟩ = some (.int .u16 (ins : Int)) := by rw [cell_in hx]; rfl
            have c10 : w1.cell? ⟨w.heap.size, 10, none⟩ = some (.slice A1 gaps.length k1) := by rw [cell_in hx]; rfl
            have c11 : w1.cell? ⟨w.heap.size, 11, none⟩ = some (.slice A2 dups.length k2) := by rw [cell_in hx]; rfl
            have c12 : w1.cell? ⟨w.heap.size, 12, none⟩ = some (.slice A3 items.length k3) := by rw [cell_in hx]; rfl
            have c13 : w1.cell? ⟨w.heap.size, 13, none⟩ = some (.string text) := by rw [cell_in hx]; rfl
            have hlt : w.heap.size < w1.heap.size := (Array.getElem?_eq_some_iff.1 hx).1
            have HX := Lib.hid hx
            clear hx hb1 HX0
            go_wp2_with (first
              | (go_at_call 72; ((with_reducible refine (W1.out _).mono ?_); rintro e w2 ⟨rfl, rfl⟩))
              | (go_at_call 72; ((with_reducible refine (W2.out _).mono ?_); rintro e w2 ⟨rfl, rfl⟩))
              | (go_at_call 72; ((with_reducible refine (W3.out _).mono ?_); rintro e w2 ⟨rfl, rfl⟩))
              | (go_at_call 72; ((with_reducible refine (W4.out _).mono ?_); rintro e w2 ⟨rfl, rfl⟩)))
            go_ret
            exact ⟨rfl, HB.out.alloc HB.out.size _⟩
          rw [decide_eq_true h5]
          by_cases h6 : (dups.length : Int) ≤ mr
          case neg =>
            rw [decide_eq_false h6]
            simp only [Bool.false_and, Bool.true_and, Bool.and_false]
            go_enter Tryz.func44, Tryz.ntmps44
            go_wp2_with fail
            refine (HF.out _).mono ?_
            rintro e w1 ⟨rfl, hb1⟩
            have hx := (hb1.block _ (Array.getElem?_eq_some_iff.1 HX0.out).1).trans HX0.out
            replace HP := Lib.hid ((HP.out.below ((Below.refl _ _).alloc (Nat.le_refl _) _)).below hb1)
            replace HB := Lib.hid (HB.out.trans (hb1.mono HB.out.size))
            have c0 : w1.cell? ⟨w.heap.size, 0, none⟩ = some (.int .i64 ty) := by rw [cell_in hx]; rfl
            have c1 : w1.cell? ⟨w.heap.size, 1, none⟩ = some (.int .i64 fl) := by rw [cell_in hx]; rfl
            have c2 : w1.cell? ⟨w.heap.size, 2, none⟩ = some (.int .u32 (tsn : Int)) := by rw [cell_in hx]; rfl
            have c3 : w1.cell? ⟨w.heap.size, 3, none⟩ = some (.int .u32 (tag : Int)) := by rw [cell_in hx]; rfl
            have c4 : w1.cell? ⟨w.heap.size, 4, none⟩ = some (.int .u32 (win : Int)) := by rw [cell_in hx]; rfl
            have c5 : w1.cell? ⟨w.heap.size, 5, none⟩ = some (.int .u32 (ppid : Int)) := by rw [cell_in hx]; rfl
            have c6 : w1.cell? ⟨w.heap.size, 6, none⟩ = some (.int .u16 (st : Int)) := by rw [cell_in hx]; rfl
            have c7 : w1.cell? ⟨w.heap.size, 7, none⟩ = some (.int .u16 (ssn : Int)) := by rw [cell_in hx]; rfl
            have c8 : w1.cell? ⟨w.heap.size, 8, none⟩ = some (.int .u16 (outs : Int)) := by rw [cell_in hx]; rfl
            have c9 : w1.cell? ⟨w.heap.size, 9, none⟩ = some (.int .u16 (ins : Int)) := by rw [cell_in hx]; rfl
            have c10 : w1.cell? ⟨w.heap.size, 10, none⟩ = some (.slice A1 gaps.length k1) := by rw [cell_in hx]; rfl
            have c11 : w1.cell? ⟨w.heap.size, 11, none⟩ = some (.slice A2 dups.length k2) := by rw [cell_in hx]; rfl
            have c12 : w1.cell? ⟨w.heap.size, 12, none⟩ = some (.slice A3 items.length k3) := by rw [cell_in hx]; rfl
            have c13 : w1.cell? ⟨w.heap.size, 13, none⟩ = some (.string text) := by rw [cell_in hx]; rfl
            have hlt : w.heap.size < w1.heap.size := (Array.getElem?_eq_some_iff.1 hx).1
            have HX := Lib.hid hx
            clear hx hb1 HX0
            go_wp2_with (first
              | (go_at_call 72; ((with_reducible refine (W1.out _).mono ?_); rintro e w2 ⟨rfl, rfl⟩))
              | (go_at_call 72; ((with_reducible refine (W2.out _).mono ?_); rintro e w2 ⟨rfl, rfl⟩))
              | (go_at_call 72; ((with_reducible refine (W3.out _).mono ?_); rintro e w2 ⟨rfl, rfl⟩))
              | (go_at_call 72; ((with_reducible refine (W4.out _).mono ?_); rintro e w2 ⟨rfl, rfl⟩)))
            go_ret
            exact ⟨rfl, HB.out.alloc HB.out.size _⟩
          rw [decide_eq_true h6]
          cases b7 with
          | false =>
            simp only [Bool.false_and, Bool.true_and, Bool.and_false]
            go_enter Tryz.func44, Tryz.ntmps44
            go_wp2_with fail
            refine (HF.out _).mono ?_
            rintro e w1 ⟨rfl, hb1⟩
            have hx := (hb1.block _ (Array.getElem?_eq_some_iff.1 HX0.out).1).trans HX0.out
            replace HP := Lib.hid ((HP.out.below ((Below.refl _ _).alloc (Nat.le_refl _) _)).below hb1)
            replace HB := Lib.hid (HB.out.trans (hb1.mono HB.out.size))
            have c0 : w1.cell? ⟨w.heap.size, 0, none⟩ = some (.int .i64 ty) := by rw [cell_in hx]; rfl
            have c1 : w1.cell? ⟨w.heap.size, 1, none⟩ = some (.int .i64 fl) := by rw [cell_in hx]; rfl
            have c2 : w1.cell? ⟨w.heap.size, 2, none⟩ = some (.int .u32 (tsn : Int)) := by rw [cell_in hx]; rfl
            have c3 : w1.cell? ⟨w.heap.size, 3, none⟩ = some (.int .u32 (tag : Int)) := by rw [cell_in hx]; rfl
            have c4 : w1.cell? ⟨w.heap.size, 4, none⟩ = some (.int .u32 (win : Int)) := by rw [cell_in hx]; rfl
            have c5 : w1.cell? ⟨w.heap.size, 5, none⟩ = some (.int .u32 (ppid : Int)) := by rw [cell_in hx]; rfl
            have c6 : w1.cell? ⟨w.heap.size, 6, none⟩ = some (.int .u16 (st : Int)) := by rw [cell_in hx]; rfl
            have c7 : w1.cell? ⟨w.heap.size, 7, none⟩ = some (.int .u16 (ssn : Int)) := by rw [cell_in hx]; rfl
            have c8 : w1.cell? ⟨w.heap.size, 8, none⟩ = some (.int .u16 (outs : Int)) := by rw [cell_in hx]; rfl
            have c9 : w1.cell? ⟨w.heap.size, 9, none⟩ = some (.int .u16 (ins : Int)) := by rw [cell_in hx]; rfl
            have c10 : w1.cell? ⟨w.heap.size, 10, none⟩ = some (.slice A1 gaps.length k1) := by rw [cell_in hx]; rfl
            have c11 : w1.cell? ⟨w.heap.size, 11, none⟩ = some (.slice A2 dups.length k2) := by rw [cell_in hx]; rfl
            have c12 : w1.cell? ⟨w.heap.size, 12, none⟩ = some (.slice A3 items.length k3) := by rw [cell_in hx]; rfl
            have c13 : w1.cell? ⟨w.heap.size, 13, none⟩ = some (.string text) := by rw [cell_in hx]; rfl
            have hlt : w.heap.size < w1.heap.size := (Array.getElem?_eq_some_iff.1 hx).1
            have HX := Lib.hid hx
            clear hx hb1 HX0
            go_wp2_with (first
              | (go_at_call 72; ((with_reducible refine (W1.out _).mono ?_); rintro e w2 ⟨rfl, rfl⟩))
              | (go_at_call 72; ((with_reducible refine (W2.out _).mono ?_); rintro e w2 ⟨rfl, rfl⟩))
              | (go_at_call 72; ((with_reducible refine (W3.out _).mono ?_); rintro e w2 ⟨rfl, rfl⟩))
              | (go_at_call 72; ((with_reducible refine (W4.out _).mono ?_); rintro e w2 ⟨rfl, rfl⟩)))
            refine (HO.out _).mono ?_
            rintro e w3 ⟨rfl, hb3⟩
            have hsz : w.heap.size < w3.heap.size := by have := hb3.size; rw [World.size_alloc] at this; omega
            have hx := (hb3.block _ (by rw [World.size_alloc]; omega)).trans ((Below.heap_alloc w1 _ _ hlt).trans HX.out)
            replace HP := Lib.hid ((HP.out.below ((Below.refl _ _).alloc (Nat.le_refl _) _)).below hb3)
            replace HB := Lib.hid ((HB.out.alloc HB.out.size _).trans (hb3.mono (by rw [World.size_alloc]; omega)))
            clear c0 c1 c2 c3 c4 c5 c6 c7 c8 c9 c10 c11 c12 c13 hb3 HX hlt
            have c0 : w3.cell? ⟨w.heap.size, 0, none⟩ = some (.int .i64 ty) := by rw [cell_in hx]; rfl
            have c1 : w3.cell? ⟨w.heap.size, 1, none⟩ = some (.int .i64 fl) := by rw [cell_in hx]; rfl
            have c2 : w3.cell? ⟨w.heap.size, 2, none⟩ = some (.int .u32 (tsn : Int)) := by rw [cell_in hx]; rfl
            have c3 : w3.cell? ⟨w.heap.size, 3, none⟩ = some (.int .u32 (tag : Int)) := by rw [cell_in hx]; rfl
            have c4 : w3.cell? ⟨w.heap.size, 4, none⟩ = some (.int .u32 (win : Int)) := by rw [cell_in hx]; rfl
            have c5 : w3.cell? ⟨w.heap.size, 5, none⟩ = some (.int .u32 (ppid : Int)) := by rw [cell_in hx]; rfl
            have c6 : w3.cell? ⟨w.heap.size, 6, none⟩ = some (.int .u16 (st : Int)) := by rw [cell_in hx]; rfl
            have c7 : w3.cell? ⟨w.heap.size, 7, none⟩ = some (.int .u16 (ssn : Int)) := by rw [cell_in hx]; rfl
            have c8 : w3.cell? ⟨w.heap.size, 8, none⟩ = some (.int .u16 (outs : Int)) := by rw [cell_in hx]; rfl
            have c9 : w3.cell? ⟨w.heap.size, 9, none⟩ = some (.int .u16 (ins : Int)) := by rw [cell_in hx]; rfl
            have c10 : w3.cell? ⟨w.heap.size, 10, none⟩ = some (.slice A1 gaps.length k1) := by rw [cell_in hx]; rfl
            have c11 : w3.cell? ⟨w.heap.size, 11, none⟩ = some (.slice A2 dups.length k2) := by rw [cell_in hx]; rfl
            have c12 : w3.cell? ⟨w.heap.size, 12, none⟩ = some (.slice A3 items.length k3) := by rw [cell_in hx]; rfl
            have c13 : w3.cell? ⟨w.heap.size, 13, none⟩ = some (.string text) := by rw [cell_in hx]; rfl
            clear hx
            go_wp2_with fail
            go_ret
            exact ⟨rfl, HB.out⟩
          | true =>
            simp only [Bool.true_and]
            have HNE := Lib.hid (fun hk => HL.out (HI.out rfl hk))
            go_enter Tryz.func44, Tryz.ntmps44
            go_wp2_with fail
            refine (HF.out _).mono ?_
            rintro e w1 ⟨rfl, hb1⟩
            have hx := (hb1.block _ (Array.getElem?_eq_some_iff.1 HX0.out).1).trans HX0.out
            replace HP := Lib.hid ((HP.out.below ((Below.refl _ _).alloc (Nat.le_refl _) _)).below hb1)
            replace HB := Lib.hid (HB.out.trans (hb1.mono HB.out.size))
            have c0 : w1.cell? ⟨w.heap.size, 0, none⟩ = some (.int .i64 ty) := by rw [cell_in hx]; rfl
            have c1 : w1.cell? ⟨w.heap.size, 1, none⟩ = some (.int .i64 fl) := by rw [cell_in hx]; rfl
            have c2 : w1.cell? ⟨w.heap.size, 2, none⟩ = some (.int .u32 (tsn : Int)) := by rw [cell_in hx]; rfl
            have c3 : w1.cell? ⟨w.heap.size, 3, none⟩ = some (.int .u32 (tag : Int)) := by rw [cell_in hx]; rfl
            have c4 : w1.cell? ⟨w.heap.size, 4, none⟩ = some (.int .u32 (win : Int)) := by rw [cell_in hx]; rfl
            have c5 : w1.cell? ⟨w.heap.size, 5, none⟩ = some (.int .u32 (ppid : Int)) := by rw [cell_in hx]; rfl
            have c6 : w1.cell? ⟨w.heap.size, 6, none⟩ = some (.int .u16 (st : Int)) := by rw [cell_in hx]; rfl
            have c7 : w1.cell? ⟨w.heap.size, 7, none⟩ = some (.int .u16 (ssn : Int)) := by rw [cell_in hx]; rfl
            have c8 : w1.cell? ⟨w.heap.size, 8, none⟩ = some (.int .u16 (outs : Int)) := by rw [cell_in hx]; rfl
            have c9 : w1.cell? ⟨w.heap.size, 9, none⟩ = some (.int .u16 (ins : Int)) := by rw [cell_in hx]; rfl
            have c10 : w1.cell? ⟨w.heap.size, 10, none⟩ = some (.slice A1 gaps.length k1) := by rw [cell_in hx]; rfl
            have c11 : w1.cell? ⟨w.heap.size, 11, none⟩ = some (.slice A2 dups.length k2) := by rw [cell_in hx]; rfl
            have c12 : w1.cell? ⟨w.heap.size, 12, none⟩ = some (.slice A3 items.length k3) := by rw [cell_in hx]; rfl
            have c13 : w1.cell? ⟨w.heap.size, 13, none⟩ = some (.string text) := by rw [cell_in hx]; rfl
            have hlt : w.heap.size < w1.heap.size := (Array.getElem?_eq_some_iff.1 hx).1
            have HX := Lib.hid hx
            clear hx hb1 HX0
            go_wp2_with (first
              | (go_at_call 72; ((with_reducible refine (W1.out _).mono ?_); rintro e w2 ⟨rfl, rfl⟩))
              | (go_at_call 72; ((with_reducible refine (W2.out _).mono ?_); rintro e w2 ⟨rfl, rfl⟩))
              | (go_at_call 72; ((with_reducible refine (W3.out _).mono ?_); rintro e w2 ⟨rfl, rfl⟩))
              | (go_at_call 72; ((with_reducible refine (W4.out _).mono ?_); rintro e w2 ⟨rfl, rfl⟩)))
            refine (HO.out _).mono ?_
            rintro e w3 ⟨rfl, hb3⟩
            have hsz : w.heap.size < w3.heap.size := by have := hb3.size; rw [World.size_alloc] at this; omega
            have hx := (hb3.block _ (by rw [World.size_alloc]; omega)).trans ((Below.heap_alloc w1 _ _ hlt).trans HX.out)
            replace HP := Lib.hid ((HP.out.below ((Below.refl _ _).alloc (Nat.le_refl _) _)).below hb3)
            replace HB := Lib.hid ((HB.out.alloc HB.out.size _).trans (hb3.mono (by rw [World.size_alloc]; omega)))
            clear c0 c1 c2 c3 c4 c5 c6 c7 c8 c9 c10 c11 c12 c13 hb3 HX hlt
            have c0 : w3.cell? ⟨w.heap.size, 0, none⟩ = some (.int .i64 ty) := by rw [cell_in hx]; rfl
            have c1 : w3.cell? ⟨w.heap.size, 1, none⟩ = some (.int .i64 fl) := by rw [cell_in hx]; rfl
            have c2 : w3.cell? ⟨w.heap.size, 2, none⟩ = some (.int .u32 (tsn : Int)) := by rw [cell_in hx]; rfl
            have c3 : w3.cell? ⟨w.heap.size, 3, none⟩ = some (.int .u32 (tag : Int)) := by rw [cell_in hx]; rfl
            have c4 : w3.cell? ⟨w.heap.size, 4, none⟩ = some (.int .u32 (win : Int)) := by rw [cell_in hx]; rfl
            have c5 : w3.cell? ⟨w.heap.size, 5, none⟩ = some (.int .u32 (ppid : Int)) := by rw [cell_in hx]; rfl
            have c6 : w3.cell? ⟨w.heap.size, 6, none⟩ = some (.int .u16 (st : Int)) := by rw [cell_in hx]; rfl
            have c7 : w3.cell? ⟨w.heap.size, 7, none⟩ = some (.int .u16 (ssn : Int)) := by rw [cell_in hx]; rfl
            have c8 : w3.cell? ⟨w.heap.size, 8, none⟩ = some (.int .u16 (outs : Int)) := by rw [cell_in hx]; rfl
            have c9 : w3.cell? ⟨w.heap.size, 9, none⟩ = some (.int .u16 (ins : Int)) := by rw [cell_in hx]; rfl
            have c10 : w3.cell? ⟨w.heap.size, 10, none⟩ = some (.slice A1 gaps.length k1) := by rw [cell_in hx]; rfl
            have c11 : w3.cell? ⟨w.heap.size, 11, none⟩ = some (.slice A2 dups.length k2) := by rw [cell_in hx]; rfl
            have c12 : w3.cell? ⟨w.heap.size, 12, none⟩ = some (.slice A3 items.length k3) := by rw [cell_in hx]; rfl
            have c13 : w3.cell? ⟨w.heap.size, 13, none⟩ = some (.string text) := by rw [cell_in hx]; rfl
            clear hx
            go_wp2_with fail
            refine (HM.out HNE.out _ HP.out).mono ?_
            rintro e w4 ⟨rfl, hb4⟩
            replace HB := Lib.hid (HB.out.trans (hb4.mono HB.out.size))
            clear hb4 c0 c1 c2 c3 c4 c5 c6 c7 c8 c9 c10 c11 c12 c13
            go_wp2_with fail
            go_ret
            exact ⟨rfl, HB.out⟩
end Go.Proofs.YtlbaockipeojhaaGreat
end
