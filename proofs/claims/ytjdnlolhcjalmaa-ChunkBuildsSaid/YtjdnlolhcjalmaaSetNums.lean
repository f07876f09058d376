/-
  The numbers of a chunk's type, set to what is read: contracts.
-/
import Derived.Test.YtjdnlolhcjalmaaGet
import Derived.StillTailTactics
namespace Go.Proofs.Ytjdnlolhcjalmaa
open Go.RowKit
set_option linter.unusedVariables false
set_option linter.unusedSimpArgs false
set_option maxRecDepth 100000

set_option maxHeartbeats 1000000 in
theorem set_32 (b k p r : Nat) (cs : Array Value) (t : TypeId) (s : ByteArray) (hs : s.size ≤ 1000000) (q : Bool) (w : World) (h : w.heap[b]? = some (.cells cs t (0, 0))) (hk : k < cs.size)
    (hr : w.heap[r]? = some (.cells #[.string s, .bool q] 70 (0, 0))) (hp : w.heap[p]? = some (.cells #[.pointer (some ⟨r, 0, none⟩)] 68 (0, 0))) (hne : b ≠ r) :
    Calls Try.prog 78 #[.pointer (some ⟨b, k, none⟩), .pointer (some ⟨p, 0, none⟩)] w fun e w' => e = .returned (.tuple #[]) ∧ w'.heap[b]? = some (.cells (cs.setIfInBounds k (.int .u32 ((rd32 s q).1 : Int))) t (0, 0)) ∧
      w'.heap[r]? = some (.cells #[.string (rd32 s q).2.1, .bool (rd32 s q).2.2] 70 (0, 0)) ∧ Touch (fun x => x = b ∨ x = r) w w' := by
  have H := Lib.hid (read_32 r s hs q w hr)
  have c0 : w.cell? ⟨p, 0, none⟩ = some (.pointer (some ⟨r, 0, none⟩)) := by rw [cell_in hp]; rfl
  have HX := Lib.hid h
  have HN := Lib.hid hne
  generalize rd32 s q = R at *
  obtain ⟨n, s', q'⟩ := R
  dsimp only at H ⊢
  clear h hr hp hne
  go_enter Try.func78, Try.ntmps78
  go_wp2_with fail
  refine H.out.mono ?_
  rintro e w1 ⟨rfl, h1, h2⟩
  have hx := (h2.block b HN.out).trans HX.out
  have c1 : w1.cell? ⟨b, k, none⟩ = some cs[k] := by rw [cell_in hx]; exact Array.getElem?_eq_getElem hk
  have f1 : w1.frozen? ⟨b, k, none⟩ = false := frozen_of_row hx k
  have HR := Lib.hid (row_set hx k (.int .u32 (n : Int)))
  have H2 := Lib.hid h2
  have H1 := Lib.hid ((Below.heap_setCell w1 ⟨b, k, none⟩ (.int .u32 (n : Int)) r (fun e => HN.out e.symm)).trans h1)
  clear h1 h2 hx
  go_wp2_with fail
  go_end0
  exact ⟨rfl, HR.out, H1.out, (H2.out.mono fun x hx => .inr hx).trans ((Touch.setCell _ _ _ _).mono fun x hx => .inl hx)⟩
set_option maxHeartbeats 1000000 in
theorem set_16 (b k p r : Nat) (cs : Array Value) (t : TypeId) (s : ByteArray) (hs : s.size ≤ 1000000) (q : Bool) (w : World) (h : w.heap[b]? = some (.cells cs t (0, 0))) (hk : k < cs.size)
    (hr : w.heap[r]? = some (.cells #[.string s, .bool q] 70 (0, 0))) (hp : w.heap[p]? = some (.cells #[.pointer (some ⟨r, 0, none⟩)] 68 (0, 0))) (hne : b ≠ r) :
    Calls Try.prog 80 #[.pointer (some ⟨b, k, none⟩), .pointer (some ⟨p, 0, none⟩)] w fun e w' => e = .returned (.tuple #[]) ∧ w'.heap[b]? = some (.cells (cs.setIfInBounds k (.int .u16 ((rd16 s q).1 : Int))) t (0, 0)) ∧
      w'.heap[r]? = some (.cells #[.string (rd16 s q).2.1, .bool (rd16 s q).2.2] 70 (0, 0)) ∧ Touch (fun x => x = b ∨ x = r) w w' := by
  have H := Lib.hid (read_16 r s hs q w hr)
  have c0 : w.cell? ⟨p, 0, none⟩ = some (.pointer (some ⟨r, 0, none⟩)) := by rw [cell_in hp]; rfl
  have HX := Lib.hid h
  have HN := Lib.hid hne
  generalize rd16 s q = R at *
  obtain ⟨n, s', q'⟩ := R
  dsimp only at H ⊢
  clear h hr hp hne
  go_enter Try.func80, Try.ntmps80
  go_wp2_with fail
  refine H.out.mono ?_
  rintro e w1 ⟨rfl, h1, h2⟩
  have hx := (h2.block b HN.out).trans HX.out
  have c1 : w1.cell? ⟨b, k, none⟩ = some cs[k] := by rw [cell_in hx]; exact Array.getElem?_eq_getElem hk
  have f1 : w1.frozen? ⟨b, k, none⟩ = false := frozen_of_row hx k
  have HR := Lib.hid (row_set hx k (.int .u16 (n : Int)))
  have H2 := Lib.hid h2
  have H1 := Lib.hid ((Below.heap_setCell w1 ⟨b, k, none⟩ (.int .u16 (n : Int)) r (fun e => HN.out e.symm)).trans h1)
  clear h1 h2 hx
  go_wp2_with fail
  go_end0
  exact ⟨rfl, HR.out, H1.out, (H2.out.mono fun x hx => .inr hx).trans ((Touch.setCell _ _ _ _).mono fun x hx => .inl hx)⟩
set_option maxHeartbeats 4000000 in
theorem numbers_set (b r p1 p2 : Nat) (c : Ck) (g d i : Value) (s : ByteArray) (hs : s.size ≤ 1000000) (q : Bool) (w : World)
    (hb : w.heap[b]? = some (.cells (cellsC c g d i) 28 (0, 0))) (hr : w.heap[r]? = some (.cells #[.string s, .bool q] 70 (0, 0))) (h1 : w.heap[p1]? = some (.cells #[.pointer (some ⟨r, 0, none⟩)] 68 (0, 0))) (h2 : w.heap[p2]? = some (.cells #[.pointer (some ⟨r, 0, none⟩)] 68 (0, 0)))
    (n0 : b ≠ r) (n1 : ¬ (p1 = b ∨ p1 = r)) (n2 : ¬ (p2 = b ∨ p2 = r)) :
    Calls Try.prog 45 #[.pointer (some ⟨b, 0, none⟩), .func (.func 78) #[] #[.pointer (some ⟨p1, 0, none⟩)], .func (.func 80) #[] #[.pointer (some ⟨p2, 0, none⟩)]] w fun e w' =>
      e = .returned (.tuple #[]) ∧ w'.heap[b]? = some (.cells (cellsC (setNums c s q).1 g d i) 28 (0, 0)) ∧ w'.heap[r]? = some (.cells #[.string (setNums c s q).2.1, .bool (setNums c s q).2.2] 70 (0, 0)) ∧ Touch (fun x => x = b ∨ x = r) w w' := by
  obtain ⟨ty, fl, tsn, tag, win, ppid, st, ssn, outs, ins, gaps, dups, items, text⟩ := c
  have c0 : w.cell? ⟨b, 0, none⟩ = some (.int .i64 ty) := by rw [cell_in hb]; rfl
  have HX := Lib.hid hb
  have HR := Lib.hid hr
  have HP1 := Lib.hid h1
  have HP2 := Lib.hid h2
  have HS := Lib.hid hs
  have N0 := Lib.hid n0
  have N1 := Lib.hid n1
  have N2 := Lib.hid n2
  have HT := Lib.hid (Touch.refl (fun x => x = b ∨ x = r) w)
  clear hb hr h1 h2 hs n0 n1 n2
  by_cases t0 : ty = 0
  · subst t0
    go_enter Try.func45, Try.ntmps45
    go_wp2_with fail
    refine (set_32 b 2 _ r _ _ _ HS.out _ _ HX.out (by simp) HR.out HP1.out N0.out).mono ?_
    rintro e w1 ⟨rfl, hx, hr, ht⟩
    replace HX := Lib.hid hx
    replace HR := Lib.hid hr
    replace HS := Lib.hid (Nat.le_trans (rd_size32 s q) HS.out)
    replace HP1 := Lib.hid ((ht.block p1 N1.out).trans HP1.out)
    replace HP2 := Lib.hid ((ht.block p2 N2.out).trans HP2.out)
    replace HT := Lib.hid (HT.out.trans ht)
    clear hx hr ht
    go_wp2_with fail
    refine (set_16 b 6 _ r _ _ _ HS.out _ _ HX.out (by simp) HR.out HP2.out N0.out).mono ?_
    rintro e w2 ⟨rfl, hx, hr, ht⟩
    replace HX := Lib.hid hx
    replace HR := Lib.hid hr
    replace HS := Lib.hid (Nat.le_trans (rd_size16 (rd32 s q).2.1 (rd32 s q).2.2) HS.out)
    replace HP1 := Lib.hid ((ht.block p1 N1.out).trans HP1.out)
    replace HP2 := Lib.hid ((ht.block p2 N2.out).trans HP2.out)
    replace HT := Lib.hid (HT.out.trans ht)
    clear hx hr ht
    go_wp2_with fail
    refine (set_16 b 7 _ r _ _ _ HS.out _ _ HX.out (by simp) HR.out HP2.out N0.out).mono ?_
    rintro e w3 ⟨rfl, hx, hr, ht⟩
    replace HX := Lib.hid hx
    replace HR := Lib.hid hr
    replace HS := Lib.hid (Nat.le_trans (rd_size16 (rd16 (rd32 s q).2.1 (rd32 s q).2.2).2.1 (rd16 (rd32 s q).2.1 (rd32 s q).2.2).2.2) HS.out)
    replace HP1 := Lib.hid ((ht.block p1 N1.out).trans HP1.out)
    replace HP2 := Lib.hid ((ht.block p2 N2.out).trans HP2.out)
    replace HT := Lib.hid (HT.out.trans ht)
    clear hx hr ht
    go_wp2_with fail
    refine (set_32 b 5 _ r _ _ _ HS.out _ _ HX.out (by simp) HR.out HP1.out N0.out).mono ?_
    rintro e w4 ⟨rfl, hx, hr, ht⟩
    replace HX := Lib.hid hx
    replace HR := Lib.hid hr
    replace HS := Lib.hid (Nat.le_trans (rd_size32 (rd16 (rd16 (rd32 s q).2.1 (rd32 s q).2.2).2.1 (rd16 (rd32 s q).2.1 (rd32 s q).2.2).2.2).2.1 (rd16 (rd16 (rd32 s q).2.1 (rd32 s q).2.2).2.1 (rd16 (rd32 s q).2.1 (rd32 s q).2.2).2.2).2.2) HS.out)
    replace HP1 := Lib.hid ((ht.block p1 N1.out).trans HP1.out)
    replace HP2 := Lib.hid ((ht.block p2 N2.out).trans HP2.out)
    replace HT := Lib.hid (HT.out.trans ht)
    clear hx hr ht
    go_wp2_with fail
    go_end0
    exact ⟨rfl, by have := HX.out; simpa [cellsC, setNums] using this, by have := HR.out; simpa [setNums] using this, HT.out⟩
  by_cases t1 : ty = 1
  · subst t1
    go_enter Try.func45, Try.ntmps45
    go_wp2_with fail
    refine (set_32 b 3 _ r _ _ _ HS.out _ _ HX.out (by simp) HR.out HP1.out N0.out).mono ?_
    rintro e w1 ⟨rfl, hx, hr, ht⟩
    replace HX := Lib.hid hx
    replace HR := Lib.hid hr
    replace HS := Lib.hid (Nat.le_trans (rd_size32 s q) HS.out)
    replace HP1 := Lib.hid ((ht.block p1 N1.out).trans HP1.out)
    replace HP2 := Lib.hid ((ht.block p2 N2.out).trans HP2.out)
    replace HT := Lib.hid (HT.out.trans ht)
    clear hx hr ht
    go_wp2_with fail
    refine (set_32 b 4 _ r _ _ _ HS.out _ _ HX.out (by simp) HR.out HP1.out N0.out).mono ?_
    rintro e w2 ⟨rfl, hx, hr, ht⟩
    replace HX := Lib.hid hx
    replace HR := Lib.hid hr
    replace HS := Lib.hid (Nat.le_trans (rd_size32 (rd32 s q).2.1 (rd32 s q).2.2) HS.out)
    replace HP1 := Lib.hid ((ht.block p1 N1.out).trans HP1.out)
    replace HP2 := Lib.hid ((ht.block p2 N2.out).trans HP2.out)
    replace HT := Lib.hid (HT.out.trans ht)
    clear hx hr ht
    go_wp2_with fail
    refine (set_16 b 8 _ r _ _ _ HS.out _ _ HX.out (by simp) HR.out HP2.out N0.out).mono ?_
    rintro e w3 ⟨rfl, hx, hr, ht⟩
    replace HX := Lib.hid hx
    replace HR := Lib.hid hr
    replace HS := Lib.hid (Nat.le_trans (rd_size16 (rd32 (rd32 s q).2.1 (rd32 s q).2.2).2.1 (rd32 (rd32 s q).2.1 (rd32 s q).2.2).2.2) HS.out)
    replace HP1 := Lib.hid ((ht.block p1 N1.out).trans HP1.out)
    replace HP2 := Lib.hid ((ht.block p2 N2.out).trans HP2.out)
    replace HT := Lib.hid (HT.out.trans ht)
    clear hx hr ht
    go_wp2_with fail
    refine (set_16 b 9 _ r _ _ _ HS.out _ _ HX.out (by simp) HR.out HP2.out N0.out).mono ?_
    rintro e w4 ⟨rfl, hx, hr, ht⟩
    replace HX := Lib.hid hx
    replace HR := Lib.hid hr
    replace HS := Lib.hid (Nat.le_trans (rd_size16 (rd16 (rd32 (rd32 s q).2.1 (rd32 s q).2.2).2.1 (rd32 (rd32 s q).2.1 (rd32 s q).2.2).2.2).2.1 (rd16 (rd32 (rd32 s q).2.1 (rd32 s q).2.2).2.1 (rd32 (rd32 s q).2.1 (rd32 s q).2.2).2.2).2.2) HS.out)
    replace HP1 := Lib.hid ((ht.block p1 N1.out).trans HP1.out)
    replace HP2 := Lib.hid ((ht.block p2 N2.out).trans HP2.out)
    replace HT := Lib.hid (HT.out.trans ht)
    clear hx hr ht
    go_wp2_with fail
    refine (set_32 b 2 _ r _ _ _ HS.out _ _ HX.out (by simp) HR.out HP1.out N0.out).mono ?_
    rintro e w5 ⟨rfl, hx, hr, ht⟩
    replace HX := Lib.hid hx
    replace HR := Lib.hid hr
    replace HS := Lib.hid (Nat.le_trans (rd_size32 (rd16 (rd16 (rd32 (rd32 s q).2.1 (rd32 s q).2.2).2.1 (rd32 (rd32 s q).2.1 (rd32 s q).2.2).2.2).2.1 (rd16 (rd32 (rd32 s q).2.1 (rd32 s q).2.2).2.1 (rd32 (rd32 s q).2.1 (rd32 s q).2.2).2.2).2.2).2.1 (rd16 (rd16 (rd32 (rd32 s q).2.1 (rd32 s q).2.2).2.1 (rd32 (rd32 s q).2.1 (rd32 s q).2.2).2.2).2.1 (rd16 (rd32 (rd32 s q).2.1 (rd32 s q).2.2).2.1 (rd32 (rd32 s q).2.1 (rd32 s q).2.2).2.2).2.2).2.2) HS.out)
    replace HP1 := Lib.hid ((ht.block p1 N1.out).trans HP1.out)
    replace HP2 := Lib.hid ((ht.block p2 N2.out).trans HP2.out)
    replace HT := Lib.hid (HT.out.trans ht)
    clear hx hr ht
    go_wp2_with fail
    go_end0
    exact ⟨rfl, by have := HX.out; simpa [cellsC, setNums] using this, by have := HR.out; simpa [setNums] using this, HT.out⟩
  by_cases t2 : ty = 2
  · subst t2
    go_enter Try.func45, Try.ntmps45
    go_wp2_with fail
    refine (set_32 b 3 _ r _ _ _ HS.out _ _ HX.out (by simp) HR.out HP1.out N0.out).mono ?_
    rintro e w1 ⟨rfl, hx, hr, ht⟩
    replace HX := Lib.hid hx
    replace HR := Lib.hid hr
    replace HS := Lib.hid (Nat.le_trans (rd_size32 s q) HS.out)
    replace HP1 := Lib.hid ((ht.block p1 N1.out).trans HP1.out)
    replace HP2 := Lib.hid ((ht.block p2 N2.out).trans HP2.out)
    replace HT := Lib.hid (HT.out.trans ht)
    clear hx hr ht
    go_wp2_with fail
    refine (set_32 b 4 _ r _ _ _ HS.out _ _ HX.out (by simp) HR.out HP1.out N0.out).mono ?_
    rintro e w2 ⟨rfl, hx, hr, ht⟩
    replace HX := Lib.hid hx
    replace HR := Lib.hid hr
    replace HS := Lib.hid (Nat.le_trans (rd_size32 (rd32 s q).2.1 (rd32 s q).2.2) HS.out)
    replace HP1 := Lib.hid ((ht.block p1 N1.out).trans HP1.out)
    replace HP2 := Lib.hid ((ht.block p2 N2.out).trans HP2.out)
    replace HT := Lib.hid (HT.out.trans ht)
    clear hx hr ht
    go_wp2_with fail
    refine (set_16 b 8 _ r _ _ _ HS.out _ _ HX.out (by simp) HR.out HP2.out N0.out).mono ?_
    rintro e w3 ⟨rfl, hx, hr, ht⟩
    replace HX := Lib.hid hx
    replace HR := Lib.hid hr
    replace HS := Lib.hid (Nat.le_trans (rd_size16 (rd32 (rd32 s q).2.1 (rd32 s q).2.2).2.1 (rd32 (rd32 s q).2.1 (rd32 s q).2.2).2.2) HS.out)
    replace HP1 := Lib.hid ((ht.block p1 N1.out).trans HP1.out)
    replace HP2 := Lib.hid ((ht.block p2 N2.out).trans HP2.out)
    replace HT := Lib.hid (HT.out.trans ht)
    clear hx hr ht
    go_wp2_with fail
    refine (set_16 b 9 _ r _ _ _ HS.out _ _ HX.out (by simp) HR.out HP2.out N0.out).mono ?_
    rintro e w4 ⟨rfl, hx, hr, ht⟩
    replace HX := Lib.hid hx
    replace HR := Lib.hid hr
    replace HS := Lib.hid (Nat.le_trans (rd_size16 (rd16 (rd32 (rd32 s q).2.1 (rd32 s q).2.2).2.1 (rd32 (rd32 s q).2.1 (rd32 s q).2.2).2.2).2.1 (rd16 (rd32 (rd32 s q).2.1 (rd32 s q).2.2).2.1 (rd32 (rd32 s q).2.1 (rd32 s q).2.2).2.2).2.2) HS.out)
    replace HP1 := Lib.hid ((ht.block p1 N1.out).trans HP1.out)
    replace HP2 := Lib.hid ((ht.block p2 N2.out).trans HP2.out)
    replace HT := Lib.hid (HT.out.trans ht)
    clear hx hr ht
    go_wp2_with fail
    refine (set_32 b 2 _ r _ _ _ HS.out _ _ HX.out (by simp) HR.out HP1.out N0.out).mono ?_
    rintro e w5 ⟨rfl, hx, hr, ht⟩
    replace HX := Lib.hid hx
    replace HR := Lib.hid hr
    replace HS := Lib.hid (Nat.le_trans (rd_size32 (rd16 (rd16 (rd32 (rd32 s q).2.1 (rd32 s q).2.2).2.1 (rd32 (rd32 s q).2.1 (rd32 s q).2.2).2.2).2.1 (rd16 (rd32 (rd32 s q).2.1 (rd32 s q).2.2).2.1 (rd32 (rd32 s q).2.1 (rd32 s q).2.2).2.2).2.2).2.1 (rd16 (rd16 (rd32 (rd32 s q).2.1 (rd32 s q).2.2).2.1 (rd32 (rd32 s q).2.1 (rd32 s q).2.2).2.2).2.1 (rd16 (rd32 (rd32 s q).2.1 (rd32 s q).2.2).2.1 (rd32 (rd32 s q).2.1 (rd32 s q).2.2).2.2).2.2).2.2) HS.out)
    replace HP1 := Lib.hid ((ht.block p1 N1.out).trans HP1.out)
    replace HP2 := Lib.hid ((ht.block p2 N2.out).trans HP2.out)
    replace HT := Lib.hid (HT.out.trans ht)
    clear hx hr ht
    go_wp2_with fail
    go_end0
    exact ⟨rfl, by have := HX.out; simpa [cellsC, setNums] using this, by have := HR.out; simpa [setNums] using this, HT.out⟩
  by_cases t3 : ty = 3
  · subst t3
    go_enter Try.func45, Try.ntmps45
    go_wp2_with fail
    refine (set_32 b 2 _ r _ _ _ HS.out _ _ HX.out (by simp) HR.out HP1.out N0.out).mono ?_
    rintro e w1 ⟨rfl, hx, hr, ht⟩
    replace HX := Lib.hid hx
    replace HR := Lib.hid hr
    replace HS := Lib.hid (Nat.le_trans (rd_size32 s q) HS.out)
    replace HP1 := Lib.hid ((ht.block p1 N1.out).trans HP1.out)
    replace HP2 := Lib.hid ((ht.block p2 N2.out).trans HP2.out)
    replace HT := Lib.hid (HT.out.trans ht)
    clear hx hr ht
    go_wp2_with fail
    refine (set_32 b 4 _ r _ _ _ HS.out _ _ HX.out (by simp) HR.out HP1.out N0.out).mono ?_
    rintro e w2 ⟨rfl, hx, hr, ht⟩
    replace HX := Lib.hid hx
    replace HR := Lib.hid hr
    replace HS := Lib.hid (Nat.le_trans (rd_size32 (rd32 s q).2.1 (rd32 s q).2.2) HS.out)
    replace HP1 := Lib.hid ((ht.block p1 N1.out).trans HP1.out)
    replace HP2 := Lib.hid ((ht.block p2 N2.out).trans HP2.out)
    replace HT := Lib.hid (HT.out.trans ht)
    clear hx hr ht
    go_wp2_with fail
    go_end0
    exact ⟨rfl, by have := HX.out; simpa [cellsC, setNums] using this, by have := HR.out; simpa [setNums] using this, HT.out⟩
  by_cases t7 : ty = 7
  · subst t7
    go_enter Try.func45, Try.ntmps45
    go_wp2_with fail
    refine (set_32 b 2 _ r _ _ _ HS.out _ _ HX.out (by simp) HR.out HP1.out N0.out).mono ?_
    rintro e w1 ⟨rfl, hx, hr, ht⟩
    replace HX := Lib.hid hx
    replace HR := Lib.hid hr
    replace HS := Lib.hid (Nat.le_trans (rd_size32 s q) HS.out)
    replace HP1 := Lib.hid ((ht.block p1 N1.out).trans HP1.out)
    replace HP2 := Lib.hid ((ht.block p2 N2.out).trans HP2.out)
    replace HT := Lib.hid (HT.out.trans ht)
    clear hx hr ht
    go_wp2_with fail
    go_end0
    exact ⟨rfl, by have := HX.out; simpa [cellsC, setNums] using this, by have := HR.out; simpa [setNums] using this, HT.out⟩
  have n0 : (ty == 0) = false := beq_eq_false_iff_ne.2 t0
  have n1 : (ty == 1) = false := beq_eq_false_iff_ne.2 t1
  have n2 : (ty == 2) = false := beq_eq_false_iff_ne.2 t2
  have n3 : (ty == 3) = false := beq_eq_false_iff_ne.2 t3
  have n7 : (ty == 7) = false := beq_eq_false_iff_ne.2 t7
  go_enter Try.func45, Try.ntmps45
  go_wp2_with fail
  go_end0
  exact ⟨rfl, by have := HX.out; simpa [cellsC, setNums, t0, t1, t2, t3, t7] using this, by have := HR.out; simpa [setNums, t0, t1, t2, t3, t7] using this, HT.out⟩
end Go.Proofs.Ytjdnlolhcjalmaa
