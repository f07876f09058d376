/-
  Numbers of all sizes, read from a reader: contracts. The numbers of a chunk's type, set to what is read: contracts. What a Sack tells of gaps and of what came twice, read: contracts.
-/
import Derived.Test.YtlbaockipeojhaaGreatCkMem
import Derived.Test.YtlbaockipeojhaaGreatRow
import Derived.StillTailTactics
import Derived.Laws.AppendOwn
import Derived.LoopN
section
namespace Go.Proofs.YtlbaockipeojhaaGreat
open Go.RowKit
set_option linter.unusedVariables false
set_option linter.unusedSimpArgs false
set_option maxRecDepth 100000

theorem cut_is (s : ByteArray) (k : Nat) : s.extract k s.size = cutB s k := by
  apply bytes_ext
  rw [cut_list]
  unfold cutB
  rw [toB_list, List.take_of_length_le (by rw [List.length_drop, ← size_list]; omega)]
theorem wrap_u32_id (n : Int) (h0 : 0 ≤ n) (h1 : n < 2 ^ 32) : IntKind.u32.wrap n = n := by rw [IntKind.wrap_u32]; omega
theorem or_byte32 (x y : Nat) (hx : x < 16777216) (hy : y < 256) : bits .or .u32 ((x : Int) * 256) (y : Int) = ((x * 256 + y : Nat) : Int) := by
  have := bits_join .u32 32 (by decide) wrap_u32_id 8 ((x : Int) * 256) (y : Int) (by omega) (by omega) (by omega) (by omega) (by omega) (by omega)
  rw [this]
  omega
theorem or_zero32 (y : Nat) (hy : y < 256) : bits .or .u32 0 (y : Int) = (y : Int) := by
  have := or_byte32 0 y (by omega) hy
  simpa using this
set_option maxHeartbeats 2000000 in
theorem read_8 (r : Nat) (s : ByteArray) (hs : s.size ≤ 1000000) (b : Bool) (w : World) (h : w.heap[r]? = some (.cells #[.string s, .bool b] 132 (0, 0))) :
    Calls Tryz.prog 89 #[.pointer (some ⟨r, 0, none⟩)] w fun e w' =>
      e = .returned (.int .u8 ((rd8 s b).1 : Int)) ∧ w'.heap[r]? = some (.cells #[.string (rd8 s b).2.1, .bool (rd8 s b).2.2] 132 (0, 0)) ∧ Touch (· = r) w w' := by
  have H0 := Lib.hid (fun W => bits_8 W)
  have c0 : w.cell? ⟨r, 0, none⟩ = some (.string s) := by rw [cell_in h]; rfl
  have c1 : w.cell? ⟨r, 1, none⟩ = some (.bool b) := by rw [cell_in h]; rfl
  have f0 : w.frozen? ⟨r, 0, none⟩ = false := frozen_of_row h 0
  have f1 : w.frozen? ⟨r, 1, none⟩ = false := frozen_of_row h 1
  have HX := Lib.hid h
  clear h
  by_cases hlt : s.size < 1
  · have e : rd8 s b = (0, noB, true) := by unfold rd8; rw [if_pos hlt]
    rw [e]
    have q0 : (s.size : Int) < 1 := by omega
    clear e hlt
    go_enter Tryz.func89, Tryz.ntmps89
    go_wp2_with (go_at_call 80; ((with_reducible refine (H0.out _).mono ?_); rintro e w1 ⟨rfl, rfl⟩))
    go_ret
    exact ⟨rfl, by have := row_set (row_set HX.out 0 (.string noB)) 1 (.bool true); simpa [noB] using this, (Touch.setCell _ _ _ _).trans (Touch.setCell _ _ _ _)⟩
  · have e : rd8 s b = (byteAt s.data.toList 0, cutB s 1, b) := by unfold rd8; rw [if_neg hlt]
    rw [e]
    dsimp only
    have q0 : (1 : Int) ≤ (s.size : Int) := by omega
    have hc := cut_is s 1
    have HR := Lib.hid (row_set HX.out 0 (.string (cutB s 1)))
    generalize cutB s 1 = s' at *
    have hz := or_zero32 (byteAt s.data.toList 0) (byteAt_lt _ _)
    have b0 := byteAt_lt s.data.toList 0
    have r0 : 0 < s.size := by omega
    have h0 := (byteAt_byte (s := s) (k := 0) r0).symm
    have p0 : (0 : Int) < (s.size : Int) := by omega
    generalize byteAt s.data.toList 0 = x0 at *
    clear e hlt
    go_enter Tryz.func89, Tryz.ntmps89
    go_wp2_with (go_at_call 80; ((with_reducible refine (H0.out _).mono ?_); rintro e w1 ⟨rfl, rfl⟩))
    refine wp_loop_rounds 2 ?_
    rw [rounds_succ]
    go_wp2_with fail
    rw [rounds_succ]
    go_wp2_with fail
    go_ret
    exact ⟨rfl, by have := HR.out; simpa using this, Touch.setCell _ _ _ _⟩
set_option maxHeartbeats 2000000 in
theorem read_16 (r : Nat) (s : ByteArray) (hs : s.size ≤ 1000000) (b : Bool) (w : World) (h : w.heap[r]? = some (.cells #[.string s, .bool b] 132 (0, 0))) :
    Calls Tryz.prog 90 #[.pointer (some ⟨r, 0, none⟩)] w fun e w' =>
      e = .returned (.int .u16 ((rd16 s b).1 : Int)) ∧ w'.heap[r]? = some (.cells #[.string (rd16 s b).2.1, .bool (rd16 s b).2.2] 132 (0, 0)) ∧ Touch (· = r) w w' := by
  have H0 := Lib.hid (fun W => bits_16 W)
  have c0 : w.cell? ⟨r, 0, none⟩ = some (.string s) := by rw [cell_in h]; rfl
  have c1 : w.cell? ⟨r, 1, none⟩ = some (.bool b) := by rw [cell_in h]; rfl
  have f0 : w.frozen? ⟨r, 0, none⟩ = false := frozen_of_row h 0
  have f1 : w.frozen? ⟨r, 1, none⟩ = false := frozen_of_row h 1
  have HX := Lib.hid h
  clear h
  by_cases hlt : s.size < 2
  · have e : rd16 s b = (0, noB, true) := by unfold rd16; rw [if_pos hlt]
    rw [e]
    have q0 : (s.size : Int) < 2 := by omega
    clear e hlt
    go_enter Tryz.func90, Tryz.ntmps90
    go_wp2_with (go_at_call 82; ((with_reducible refine (H0.out _).mono ?_); rintro e w1 ⟨rfl, rfl⟩))
    go_ret
    exact ⟨rfl, by have := row_set (row_set HX.out 0 (.string noB)) 1 (.bool true); simpa [noB] using this, (Touch.setCell _ _ _ _).trans (Touch.setCell _ _ _ _)⟩
  · have e : rd16 s b = (num s.data.toList 0, cutB s 2, b) := by unfold rd16; rw [if_neg hlt]
    rw [e]
    dsimp only
    have q0 : (2 : Int) ≤ (s.size : Int) := by omega
    have hc := cut_is s 2
    have HR := Lib.hid (row_set HX.out 0 (.string (cutB s 2)))
    generalize cutB s 2 = s' at *
    have hz := or_zero32 (byteAt s.data.toList 0) (byteAt_lt _ _)
    have b0 := byteAt_lt s.data.toList 0
    have r0 : 0 < s.size := by omega
    have h0 := (byteAt_byte (s := s) (k := 0) r0).symm
    have p0 : (0 : Int) < (s.size : Int) := by omega
    have b1 := byteAt_lt s.data.toList 1
    have r1 : 1 < s.size := by omega
    have h1 := (byteAt_byte (s := s) (k := 1) r1).symm
    have p1 : (1 : Int) < (s.size : Int) := by omega
    have o1 := or_byte32 (byteAt s.data.toList 0) (byteAt s.data.toList 1) (by omega) b1
    have HV := Lib.hid (show num s.data.toList 0 = (byteAt s.data.toList 0) * 256 + byteAt s.data.toList 1 from by unfold num; rfl)
    rw [HV.out]
    clear HV
    generalize byteAt s.data.toList 0 = x0 at *
    generalize byteAt s.data.toList 1 = x1 at *
    generalize hy1 : x0 * 256 + x1 = y1 at *
    have z1 : y1 < 65536 := by omega
    clear hy1
    clear e hlt
    go_enter Tryz.func90, Tryz.ntmps90
    go_wp2_with (go_at_call 82; ((with_reducible refine (H0.out _).mono ?_); rintro e w1 ⟨rfl, rfl⟩))
    refine wp_loop_rounds 3 ?_
    rw [rounds_succ]
    go_wp2_with fail
    rw [rounds_succ]
    go_wp2_with fail
    rw [rounds_succ]
    go_wp2_with fail
    go_ret
    exact ⟨rfl, by have := HR.out; simpa using this, Touch.setCell _ _ _ _⟩
set_option maxHeartbeats 2000000 in
theorem read_32 (r : Nat) (s : ByteArray) (hs : s.size ≤ 1000000) (b : Bool) (w : World) (h : w.heap[r]? = some (.cells #[.string s, .bool b] 132 (0, 0))) :
    Calls Tryz.prog 123 #[.pointer (some ⟨r, 0, none⟩)] w fun e w' =>
      e = .returned (.int .u32 ((rd32 s b).1 : Int)) ∧ w'.heap[r]? = some (.cells #[.string (rd32 s b).2.1, .bool (rd32 s b).2.2] 132 (0, 0)) ∧ Touch (· = r) w w' := by
  have H0 := Lib.hid (fun W => bits_32 W)
  have c0 : w.cell? ⟨r, 0, none⟩ = some (.string s) := by rw [cell_in h]; rfl
  have c1 : w.cell? ⟨r, 1, none⟩ = some (.bool b) := by rw [cell_in h]; rfl
  have f0 : w.frozen? ⟨r, 0, none⟩ = false := frozen_of_row h 0
  have f1 : w.frozen? ⟨r, 1, none⟩ = false := frozen_of_row h 1
  have HX := Lib.hid h
  clear h
  by_cases hlt : s.size < 4
  · have e : rd32 s b = (0, noB, true) := by unfold rd32; rw [if_pos hlt]
    rw [e]
    have q0 : (s.size : Int) < 4 := by omega
    clear e hlt
    go_enter Tryz.func123, Tryz.ntmps123
    go_wp2_with (go_at_call 120; ((with_reducible refine (H0.out _).mono ?_); rintro e w1 ⟨rfl, rfl⟩))
    go_ret
    exact ⟨rfl, by have := row_set (row_set HX.out 0 (.string noB)) 1 (.bool true); simpa [noB] using this, (Touch.setCell _ _ _ _).trans (Touch.setCell _ _ _ _)⟩
  · have e : rd32 s b = (num4 s.data.toList 0, cutB s 4, b) := by unfold rd32; rw [if_neg hlt]
    rw [e]
    dsimp only
    have q0 : (4 : Int) ≤ (s.size : Int) := by omega
    have hc := cut_is s 4
    have HR := Lib.hid (row_set HX.out 0 (.string (cutB s 4)))
    generalize cutB s 4 = s' at *
    have hz := or_zero32 (byteAt s.data.toList 0) (byteAt_lt _ _)
    have b0 := byteAt_lt s.data.toList 0
    have r0 : 0 < s.size := by omega
    have h0 := (byteAt_byte (s := s) (k := 0) r0).symm
    have p0 : (0 : Int) < (s.size : Int) := by omega
    have b1 := byteAt_lt s.data.toList 1
    have r1 : 1 < s.size := by omega
    have h1 := (byteAt_byte (s := s) (k := 1) r1).symm
    have p1 : (1 : Int) < (s.size : Int) := by omega
    have b2 := byteAt_lt s.data.toList 2
    have r2 : 2 < s.size := by omega
    have h2 := (byteAt_byte (s := s) (k := 2) r2).symm
    have p2 : (2 : Int) < (s.size : Int) := by omega
    have b3 := byteAt_lt s.data.toList 3
    have r3 : 3 < s.size := by omega
    have h3 := (byteAt_byte (s := s) (k := 3) r3).symm
    have p3 : (3 : Int) < (s.size : Int) := by omega
    have o1 := or_byte32 (byteAt s.data.toList 0) (byteAt s.data.toList 1) (by omega) b1
    have o2 := or_byte32 ((byteAt s.data.toList 0) * 256 + byteAt s.data.toList 1) (byteAt s.data.toList 2) (by omega) b2
    have o3 := or_byte32 (((byteAt s.data.toList 0) * 256 + byteAt s.data.toList 1) * 256 + byteAt s.data.toList 2) (byteAt s.data.toList 3) (by omega) b3
    have HV := Lib.hid (show num4 s.data.toList 0 = (((byteAt s.data.toList 0) * 256 + byteAt s.data.toList 1) * 256 + byteAt s.data.toList 2) * 256 + byteAt s.data.toList 3 from by unfold num4 num; simp only [Nat.zero_add, Nat.reduceAdd]; omega)
    rw [HV.out]
    clear HV
    generalize byteAt s.data.toList 0 = x0 at *
    generalize byteAt s.data.toList 1 = x1 at *
    generalize byteAt s.data.toList 2 = x2 at *
    generalize byteAt s.data.toList 3 = x3 at *
    generalize hy1 : x0 * 256 + x1 = y1 at *
    have z1 : y1 < 65536 := by omega
    clear hy1
    generalize hy2 : y1 * 256 + x2 = y2 at *
    have z2 : y2 < 16777216 := by omega
    clear hy2
    generalize hy3 : y2 * 256 + x3 = y3 at *
    have z3 : y3 < 4294967296 := by omega
    clear hy3
    clear e hlt
    go_enter Tryz.func123, Tryz.ntmps123
    go_wp2_with (go_at_call 120; ((with_reducible refine (H0.out _).mono ?_); rintro e w1 ⟨rfl, rfl⟩))
    refine wp_loop_rounds 5 ?_
    rw [rounds_succ]
    go_wp2_with fail
    rw [rounds_succ]
    go_wp2_with fail
    rw [rounds_succ]
    go_wp2_with fail
    rw [rounds_succ]
    go_wp2_with fail
    rw [rounds_succ]
    go_wp2_with fail
    go_ret
    exact ⟨rfl, by have := HR.out; simpa using this, Touch.setCell _ _ _ _⟩
end Go.Proofs.YtlbaockipeojhaaGreat
end
section
namespace Go.Proofs.YtlbaockipeojhaaGreat
open Go.RowKit
set_option linter.unusedVariables false
set_option linter.unusedSimpArgs false
set_option maxRecDepth 100000

set_option maxHeartbeats 1000000 in
theorem set_32 (b k p r : Nat) (cs : Array Value) (t : TypeId) (s : ByteArray) (hs : s.size ≤ 1000000) (q : Bool) (w : World) (h : w.heap[b]? = some (.cells cs t (0, 0))) (hk : k < cs.size)
    (hr : w.heap[r]? = some (.cells #[.string s, .bool q] 132 (0, 0))) (hp : w.heap[p]? = some (.cells #[.pointer (some ⟨r, 0, none⟩)] 130 (0, 0))) (hne : b ≠ r) :
    Calls Tryz.prog 122 #[.pointer (some ⟨b, k, none⟩), .pointer (some ⟨p, 0, none⟩)] w fun e w' => e = .returned (.tuple #[]) ∧ w'.heap[b]? = some (.cells (cs.setIfInBounds k (.int .u32 ((rd32 s q).1 : Int))) t (0, 0)) ∧
      w'.heap[r]? = some (.cells #[.string (rd32 s q).2.1, .bool (rd32 s q).2.2] 132 (0, 0)) ∧ Touch (fun x => x = b ∨ x = r) w w' := by
  have H := Lib.hid (read_32 r s hs q w hr)
  have c0 : w.cell? ⟨p, 0, none⟩ = some (.pointer (some ⟨r, 0, none⟩)) := by rw [cell_in hp]; rfl
  have HX := Lib.hid h
  have HN := Lib.hid hne
  generalize rd32 s q = R at *
  obtain ⟨n, s', q'⟩ := R
  dsimp only at H ⊢
  clear h hr hp hne
  go_enter Tryz.func122, Tryz.ntmps122
  go_wp2_with fail
  refine H.out.mono ?_
  rintro e w1 ⟨rfl, h1, h2⟩
  have hx := (h2.block b HN.out).trans HX.out
  have c1 : w1.cell? ⟨b, k, none⟩ = some cs[k] := by rw [cell_in hx]; exact Array.getElem?_eq_getElem hk
  have f1 : w1.frozen? ⟨b, k, none⟩ = false := frozen_of_row hx k
  have HR := Lib.hid (row_set hx k (.int .u32 (n : Int)))
  have H2 := Lib.hid h2
  have H1 := Lib.hid ((Below.heap_setCell w1 ⟨b, k, none⟩ (.int .u32 (n : Int)) r (fun e => HN.out e.symm)).trans h1)
  clear h1 h2 hx
  go_wp2_with fail
  go_end0
  exact ⟨rfl, HR.out, H1.out, (H2.out.mono fun x hx => .inr hx).trans ((Touch.setCell _ _ _ _).mono fun x hx => .inl hx)⟩
set_option maxHeartbeats 1000000 in
theorem set_16 (b k p r : Nat) (cs : Array Value) (t : TypeId) (s : ByteArray) (hs : s.size ≤ 1000000) (q : Bool) (w : World) (h : w.heap[b]? = some (.cells cs t (0, 0))) (hk : k < cs.size)
    (hr : w.heap[r]? = some (.cells #[.string s, .bool q] 132 (0, 0))) (hp : w.heap[p]? = some (.cells #[.pointer (some ⟨r, 0, none⟩)] 130 (0, 0))) (hne : b ≠ r) :
    Calls Tryz.prog 124 #[.pointer (some ⟨b, k, none⟩), .pointer (some ⟨p, 0, none⟩)] w fun e w' => e = .returned (.tuple #[]) ∧ w'.heap[b]? = some (.cells (cs.setIfInBounds k (.int .u16 ((rd16 s q).1 : Int))) t (0, 0)) ∧
      w'.heap[r]? = some (.cells #[.string (rd16 s q).2.1, .bool (rd16 s q).2.2] 132 (0, 0)) ∧ Touch (fun x => x = b ∨ x = r) w w' := by
  have H := Lib.hid (read_16 r s hs q w hr)
  have c0 : w.cell? ⟨p, 0, none⟩ = some (.pointer (some ⟨r, 0, none⟩)) := by rw [cell_in hp]; rfl
  have HX := Lib.hid h
  have HN := Lib.hid hne
  generalize rd16 s q = R at *
  obtain ⟨n, s', q'⟩ := R
  dsimp only at H ⊢
  clear h hr hp hne
  go_enter Tryz.func124, Tryz.ntmps124
  go_wp2_with fail
  refine H.out.mono ?_
  rintro e w1 ⟨rfl, h1, h2⟩
  have hx := (h2.block b HN.out).trans HX.out
  have c1 : w1.cell? ⟨b, k, none⟩ = some cs[k] := by rw [cell_in hx]; exact Array.getElem?_eq_getElem hk
  have f1 : w1.frozen? ⟨b, k, none⟩ = false := frozen_of_row hx k
  have HR := Lib.hid (row_set hx k (.int .u16 (n : Int)))
  have H2 := Lib.hid h2
  have H1 := Lib.hid ((Below.heap_setCell w1 ⟨b, k, none⟩ (.int .u16 (n : Int)) r (fun e => HN.out e.symm)).trans h1)
  clear h1 h2 hx
  go_wp2_with fail
  go_end0
  exact ⟨rfl, HR.out, H1.out, (H2.out.mono fun x hx => .inr hx).trans ((Touch.setCell _ _ _ _).mono fun x hx => .inl hx)⟩
set_option maxHeartbeats 4000000 in
theorem numbers_set (b r p1 p2 : Nat) (c : Ck) (g d i : Value) (s : ByteArray) (hs : s.size ≤ 1000000) (q : Bool) (w : World)
    (hb : w.heap[b]? = some (.cells (cellsC c g d i) 52 (0, 0))) (hr : w.heap[r]? = some (.cells #[.string s, .bool q] 132 (0, 0))) (h1 : w.heap[p1]? = some (.cells #[.pointer (some ⟨r, 0, none⟩)] 130 (0, 0))) (h2 : w.heap[p2]? = some (.cells #[.pointer (some ⟨r, 0, none⟩)] 130 (0, 0)))
    (n0 : b ≠ r) (n1 : ¬ (p1 = b ∨ p1 = r)) (n2 : ¬ (p2 = b ∨ p2 = r)) :
    Calls Tryz.prog 75 #[.pointer (some ⟨b, 0, none⟩), .func (.func 122) #[] #[.pointer (some ⟨p1, 0, none⟩)], .func (.func 124) #[] #[.pointer (some ⟨p2, 0, none⟩)]] w fun e w' =>
      e = .returned (.tuple #[]) ∧ w'.heap[b]? = some (.cells (cellsC (setNums c s q).1 g d i) 52 (0, 0)) ∧ w'.heap[r]? = some (.cells #[.string (setNums c s q).2.1, .bool (setNums c s q).2.2] 132 (0, 0)) ∧ Touch (fun x => x = b ∨ x = r) w w' := by
  obtain ⟨ty, fl, tsn, tag, win, ppid, st, ssn, outs, ins, gaps, dups, items, text⟩ := c
  have c0 : w.cell? ⟨b, 0, none⟩ = some (.int .i64 ty) := by rw [cell_in hb]; rfl
  have HX := Lib.hid hb
  have HR := Lib.hid hr
  have HP1 := Lib.hid h1
  have HP2 := Lib.hid h2
  have HS := Lib.hid hs
  have N0 := Lib.hid n0
  have N1 := Lib.hid n1
  have N2 := Lib.hid n2
  have HT := Lib.hid (Touch.refl (fun x => x = b ∨ x = r) w)
  clear hb hr h1 h2 hs n0 n1 n2
  by_cases t0 : ty = 0
  · subst t0
    go_enter Tryz.func75, Tryz.ntmps75
    go_wp2_with fail
    refine (set_32 b 2 _ r _ _ _ HS.out _ _ HX.out (by simp) HR.out HP1.out N0.out).mono ?_
    rintro e w1 ⟨rfl, hx, hr, ht⟩
    replace HX := Lib.hid hx
    replace HR := Lib.hid hr
    replace HS := Lib.hid (Nat.le_trans (rd_size32 s q) HS.out)
    replace HP1 := Lib.hid ((ht.block p1 N1.out).trans HP1.out)
    replace HP2 := Lib.hid ((ht.block p2 N2.out).trans HP2.out)
    replace HT := Lib.hid (HT.out.trans ht)
    clear hx hr ht
    go_wp2_with fail
    refine (set_16 b 6 _ r _ _ _ HS.out _ _ HX.out (by simp) HR.out HP2.out N0.out).mono ?_
    rintro e w2 ⟨rfl, hx, hr, ht⟩
    replace HX := Lib.hid hx
    replace HR := Lib.hid hr
    replace HS := Lib.hid (Nat.le_trans (rd_size16 (rd32 s q).2.1 (rd32 s q).2.2) HS.out)
    replace HP1 := Lib.hid ((ht.block p1 N1.out).trans HP1.out)
    replace HP2 := Lib.hid ((ht.block p2 N2.out).trans HP2.out)
    replace HT := Lib.hid (HT.out.trans ht)
    clear hx hr ht
    go_wp2_with fail
    refine (set_16 b 7 _ r _ _ _ HS.out _ _ HX.out (by simp) HR.out HP2.out N0.out).mono ?_
    rintro e w3 ⟨rfl, hx, hr, ht⟩
    replace HX := Lib.hid hx
    replace HR := Lib.hid hr
    replace HS := Lib.hid (Nat.le_trans (rd_size16 (rd16 (rd32 s q).2.1 (rd32 s q).2.2).2.1 (rd16 (rd32 s q).2.1 (rd32 s q).2.2).2.2) HS.out)
    replace HP1 := Lib.hid ((ht.block p1 N1.out).trans HP1.out)
    replace HP2 := Lib.hid ((ht.block p2 N2.out).trans HP2.out)
    replace HT := Lib.hid (HT.out.trans ht)
    clear hx hr ht
    go_wp2_with fail
    refine (set_32 b 5 _ r _ _ _ HS.out _ _ HX.out (by simp) HR.out HP1.out N0.out).mono ?_
    rintro e w4 ⟨rfl, hx, hr, ht⟩
    replace HX := Lib.hid hx
    replace HR := Lib.hid hr
    replace HS := Lib.hid (Nat.le_trans (rd_size32 (rd16 (rd16 (rd32 s q).2.1 (rd32 s q).2.2).2.1 (rd16 (rd32 s q).2.1 (rd32 s q).2.2).2.2).2.1 (rd16 (rd16 (rd32 s q).2.1 (rd32 s q).2.2).2.1 (rd16 (rd32 s q).2.1 (rd32 s q).2.2).2.2).2.2) HS.out)
    replace HP1 := Lib.hid ((ht.block p1 N1.out).trans HP1.out)
    replace HP2 := Lib.hid ((ht.block p2 N2.out).trans HP2.out)
    replace HT := Lib.hid (HT.out.trans ht)
    clear hx hr ht
    go_wp2_with fail
    go_end0
    exact ⟨rfl, by have := HX.out; simpa [cellsC, setNums] using this, by have := HR.out; simpa [setNums] using this, HT.out⟩
  by_cases t1 : ty = 1
  · subst t1
    go_enter Tryz.func75, Tryz.ntmps75
    go_wp2_with fail
    refine (set_32 b 3 _ r _ _ _ HS.out _ _ HX.out (by simp) HR.out HP1.out N0.out).mono ?_
    rintro e w1 ⟨rfl, hx, hr, ht⟩
    replace HX := Lib.hid hx
    replace HR := Lib.hid hr
    replace HS := Lib.hid (Nat.le_trans (rd_size32 s q) HS.out)
    replace HP1 := Lib.hid ((ht.block p1 N1.out).trans HP1.out)
    replace HP2 := Lib.hid ((ht.block p2 N2.out).trans HP2.out)
    replace HT := Lib.hid (HT.out.trans ht)
    clear hx hr ht
    go_wp2_with fail
    refine (set_32 b 4 _ r _ _ _ HS.out _ _ HX.out (by simp) HR.out HP1.out N0.out).mono ?_
    rintro e w2 ⟨rfl, hx, hr, ht⟩
    replace HX := Lib.hid hx
    replace HR := Lib.hid hr
    replace HS := Lib.hid (Nat.le_trans (rd_size32 (rd32 s q).2.1 (rd32 s q).2.2) HS.out)
    replace HP1 := Lib.hid ((ht.block p1 N1.out).trans HP1.out)
    replace HP2 := Lib.hid ((ht.block p2 N2.out).trans HP2.out)
    replace HT := Lib.hid (HT.out.trans ht)
    clear hx hr ht
    go_wp2_with fail
    refine (set_16 b 8 _ r _ _ _ HS.out _ _ HX.out (by simp) HR.out HP2.out N0.out).mono ?_
    rintro e w3 ⟨rfl, hx, hr, ht⟩
    replace HX := Lib.hid hx
    replace HR := Lib.hid hr
    replace HS := Lib.hid (Nat.le_trans (rd_size16 (rd32 (rd32 s q).2.1 (rd32 s q).2.2).2.1 (rd32 (rd32 s q).2.1 (rd32 s q).2.2).2.2) HS.out)
    replace HP1 := Lib.hid ((ht.block p1 N1.out).trans HP1.out)
    replace HP2 := Lib.hid ((ht.block p2 N2.out).trans HP2.out)
    replace HT := Lib.hid (HT.out.trans ht)
    clear hx hr ht
    go_wp2_with fail
    refine (set_16 b 9 _ r _ _ _ HS.out _ _ HX.out (by simp) HR.out HP2.out N0.out).mono ?_
    rintro e w4 ⟨rfl, hx, hr, ht⟩
    replace HX := Lib.hid hx
    replace HR := Lib.hid hr
    replace HS := Lib.hid (Nat.le_trans (rd_size16 (rd16 (rd32 (rd32 s q).2.1 (rd32 s q).2.2).2.1 (rd32 (rd32 s q).2.1 (rd32 s q).2.2).2.2).2.1 (rd16 (rd32 (rd32 s q).2.1 (rd32 s q).2.2).2.1 (rd32 (rd32 s q).2.1 (rd32 s q).2.2).2.2).2.2) HS.out)
    replace HP1 := Lib.hid ((ht.block p1 N1.out).trans HP1.out)
    replace HP2 := Lib.hid ((ht.block p2 N2.out).trans HP2.out)
    replace HT := Lib.hid (HT.out.trans ht)
    clear hx hr ht
    go_wp2_with fail
    refine (set_32 b 2 _ r _ _ _ HS.out _ _ HX.out (by simp) HR.out HP1.out N0.out).mono ?_
    rintro e w5 ⟨rfl, hx, hr, ht⟩
    replace HX := Lib.hid hx
    replace HR := Lib.hid hr
    replace HS := Lib.hid (Nat.le_trans (rd_size32 (rd16 (rd16 (rd32 (rd32 s q).2.1 (rd32 s q).2.2).2.1 (rd32 (rd32 s q).2.1 (rd32 s q).2.2).2.2).2.1 (rd16 (rd32 (rd32 s q).2.1 (rd32 s q).2.2).2.1 (rd32 (rd32 s q).2.1 (rd32 s q).2.2).2.2).2.2).2.1 (rd16 (rd16 (rd32 (rd32 s q).2.1 (rd32 s q).2.2).2.1 (rd32 (rd32 s q).2.1 (rd32 s q).2.2).2.2).2.1 (rd16 (rd32 (rd32 s q).2.1 (rd32 s q).2.2).2.1 (rd32 (rd32 s q).2.1 (rd32 s q).2.2).2.2).2.2).2.2) HS.out)
    replace HP1 := Lib.hid ((ht.block p1 N1.out).trans HP1.out)
    replace HP2 := Lib.hid ((ht.block p2 N2.out).trans HP2.out)
    replace HT := Lib.hid (HT.out.trans ht)
    clear hx hr ht
    go_wp2_with fail
    go_end0
    exact ⟨rfl, by have := HX.out; simpa [cellsC, setNums] using this, by have := HR.out; simpa [setNums] using this, HT.out⟩
  by_cases t2 : ty = 2
  · subst t2
    go_enter Tryz.func75, Tryz.ntmps75
    go_wp2_with fail
    refine (set_32 b 3 _ r _ _ _ HS.out _ _ HX.out (by simp) HR.out HP1.out N0.out).mono ?_
    rintro e w1 ⟨rfl, hx, hr, ht⟩
    replace HX := Lib.hid hx
    replace HR := Lib.hid hr
    replace HS := Lib.hid (Nat.le_trans (rd_size32 s q) HS.out)
    replace HP1 := Lib.hid ((ht.block p1 N1.out).trans HP1.out)
    replace HP2 := Lib.hid ((ht.block p2 N2.out).trans HP2.out)
    replace HT := Lib.hid (HT.out.trans ht)
    clear hx hr ht
    go_wp2_with fail
    refine (set_32 b 4 _ r _ _ _ HS.out _ _ HX.out (by simp) HR.out HP1.out N0.out).mono ?_
    rintro e w2 ⟨rfl, hx, hr, ht⟩
    replace HX := Lib.hid hx
    replace HR := Lib.hid hr
    replace HS := Lib.hid (Nat.le_trans (rd_size32 (rd32 s q).2.1 (rd32 s q).2.2) HS.out)
    replace HP1 := Lib.hid ((ht.block p1 N1.out).trans HP1.out)
    replace HP2 := Lib.hid ((ht.block p2 N2.out).trans HP2.out)
    replace HT := Lib.hid (HT.out.trans ht)
    clear hx hr ht
    go_wp2_with fail
    refine (set_16 b 8 _ r _ _ _ HS.out _ _ HX.out (by simp) HR.out HP2.out N0.out).mono ?_
    rintro e w3 ⟨rfl, hx, hr, ht⟩
    replace HX := Lib.hid hx
    replace HR := Lib.hid hr
    replace HS := Lib.hid (Nat.le_trans (rd_size16 (rd32 (rd32 s q).2.1 (rd32 s q).2.2).2.1 (rd32 (rd32 s q).2.1 (rd32 s q).2.2).2.2) HS.out)
    replace HP1 := Lib.hid ((ht.block p1 N1.out).trans HP1.out)
    replace HP2 := Lib.hid ((ht.block p2 N2.out).trans HP2.out)
    replace HT := Lib.hid (HT.out.trans ht)
    clear hx hr ht
    go_wp2_with fail
    refine (set_16 b 9 _ r _ _ _ HS.out _ _ HX.out (by simp) HR.out HP2.out N0.out).mono ?_
    rintro e w4 ⟨rfl, hx, hr, ht⟩
    replace HX := Lib.hid hx
    replace HR := Lib.hid hr
    replace HS := Lib.hid (Nat.le_trans (rd_size16 (rd16 (rd32 (rd32 s q).2.1 (rd32 s q).2.2).2.1 (rd32 (rd32 s q).2.1 (rd32 s q).2.2).2.2).2.1 (rd16 (rd32 (rd32 s q).2.1 (rd32 s q).2.2).2.1 (rd32 (rd32 s q).2.1 (rd32 s q).2.2).2.2).2.2) HS.out)
    replace HP1 := Lib.hid ((ht.block p1 N1.out).trans HP1.out)
    replace HP2 := Lib.hid ((ht.block p2 N2.out).trans HP2.out)
    replace HT := Lib.hid (HT.out.trans ht)
    clear hx hr ht
    go_wp2_with fail
    refine (set_32 b 2 _ r _ _ _ HS.out _ _ HX.out (by simp) HR.out HP1.out N0.out).mono ?_
    rintro e w5 ⟨rfl, hx, hr, ht⟩
    replace HX := Lib.hid hx
    replace HR := Lib.hid hr
    replace HS := Lib.hid (Nat.le_trans (rd_size32 (rd16 (rd16 (rd32 (rd32 s q).2.1 (rd32 s q).2.2).2.1 (rd32 (rd32 s q).2.1 (rd32 s q).2.2).2.2).2.1 (rd16 (rd32 (rd32 s q).2.1 (rd32 s q).2.2).2.1 (rd32 (rd32 s q).2.1 (rd32 s q).2.2).2.2).2.2).2.1 (rd16 (rd16 (rd32 (rd32 s q).2.1 (rd32 s q).2.2).2.1 (rd32 (rd32 s q).2.1 (rd32 s q).2.2).2.2).2.1 (rd16 (rd32 (rd32 s q).2.1 (rd32 s q).2.2).2.1 (rd32 (rd32 s q).2.1 (rd32 s q).2.2).2.2).2.2).2.2) HS.out)
    replace HP1 := Lib.hid ((ht.block p1 N1.out).trans HP1.out)
    replace HP2 := Lib.hid ((ht.block p2 N2.out).trans HP2.out)
    replace HT := Lib.hid (HT.out.trans ht)
    clear hx hr ht
    go_wp2_with fail
    go_end0
    exact ⟨rfl, by have := HX.out; simpa [cellsC, setNums] using this, by have := HR.out; simpa [setNums] using this, HT.out⟩
  by_cases t3 : ty = 3
  · subst t3
    go_enter Tryz.func75, Tryz.ntmps75
    go_wp2_with fail
    refine (set_32 b 2 _ r _ _ _ HS.out _ _ HX.out (by simp) HR.out HP1.out N0.out).mono ?_
    rintro e w1 ⟨rfl, hx, hr, ht⟩
    replace HX := Lib.hid hx
    replace HR := Lib.hid hr
    replace HS := Lib.hid (Nat.le_trans (rd_size32 s q) HS.out)
    replace HP1 := Lib.hid ((ht.block p1 N1.out).trans HP1.out)
    replace HP2 := Lib.hid ((ht.block p2 N2.out).trans HP2.out)
    replace HT := Lib.hid (HT.out.trans ht)
    clear hx hr ht
    go_wp2_with fail
    refine (set_32 b 4 _ r _ _ _ HS.out _ _ HX.out (by simp) HR.out HP1.out N0.out).mono ?_
    rintro e w2 ⟨rfl, hx, hr, ht⟩
    replace HX := Lib.hid hx
    replace HR := Lib.hid hr
    replace HS := Lib.hid (Nat.le_trans (rd_size32 (rd32 s q).2.1 (rd32 s q).2.2) HS.out)
    replace HP1 := Lib.hid ((ht.block p1 N1.out).trans HP1.out)
    replace HP2 := Lib.hid ((ht.block p2 N2.out).trans HP2.out)
    replace HT := Lib.hid (HT.out.trans ht)
    clear hx hr ht
    go_wp2_with fail
    go_end0
    exact ⟨rfl, by have := HX.out; simpa [cellsC, setNums] using this, by have := HR.out; simpa [setNums] using this, HT.out⟩
  by_cases t7 : ty = 7
  · subst t7
    go_enter Tryz.func75, Tryz.ntmps75
    go_wp2_with fail
    refine (set_32 b 2 _ r _ _ _ HS.out _ _ HX.out (by simp) HR.out HP1.out N0.out).mono ?_
    rintro e w1 ⟨rfl, hx, hr, ht⟩
    replace HX := Lib.hid hx
    replace HR := Lib.hid hr
    replace HS := Lib.hid (Nat.le_trans (rd_size32 s q) HS.out)
    replace HP1 := Lib.hid ((ht.block p1 N1.out).trans HP1.out)
    replace HP2 := Lib.hid ((ht.block p2 N2.out).trans HP2.out)
    replace HT := Lib.hid (HT.out.trans ht)
    clear hx hr ht
    go_wp2_with fail
    go_end0
    exact ⟨rfl, by have := HX.out; simpa [cellsC, setNums] using this, by have := HR.out; simpa [setNums] using this, HT.out⟩
  have n0 : (ty == 0) = false := beq_eq_false_iff_ne.2 t0
  have n1 : (ty == 1) = false := beq_eq_false_iff_ne.2 t1
  have n2 : (ty == 2) = false := beq_eq_false_iff_ne.2 t2
  have n3 : (ty == 3) = false := beq_eq_false_iff_ne.2 t3
  have n7 : (ty == 7) = false := beq_eq_false_iff_ne.2 t7
  go_enter Tryz.func75, Tryz.ntmps75
  go_wp2_with fail
  go_end0
  exact ⟨rfl, by have := HX.out; simpa [cellsC, setNums, t0, t1, t2, t3, t7] using this, by have := HR.out; simpa [setNums, t0, t1, t2, t3, t7] using this, HT.out⟩
end Go.Proofs.YtlbaockipeojhaaGreat
end
section
namespace Go.Proofs.YtlbaockipeojhaaGreat
open Go.RowKit
set_option linter.unusedVariables false
set_option linter.unusedSimpArgs false
set_option maxRecDepth 100000

theorem cut_cut (s : ByteArray) (a b : Nat) : cutB (cutB s a) b = cutB s (a + b) := by
  unfold cutB
  rw [toB_list, List.drop_drop]
theorem cut_zero (s : ByteArray) : cutB s 0 = s := by unfold cutB; rw [List.drop_zero, ofB]
theorem cut_all (s : ByteArray) : cutB s s.size = noB := by
  unfold cutB
  rw [List.drop_of_length_le (by rw [← size_list]; omega)]
  rfl
theorem byteAt_behind (L : List UInt8) (a i : Nat) : byteAt (L.drop a) i = byteAt L (a + i) := by
  unfold byteAt
  rw [List.getD_eq_getElem?_getD, List.getD_eq_getElem?_getD, List.getElem?_drop]
theorem num_behind (L : List UInt8) (a i : Nat) : num (L.drop a) i = num L (a + i) := by
  unfold num
  rw [byteAt_behind, byteAt_behind, Nat.add_assoc]
theorem rd16_at (s : ByteArray) (a : Nat) (q : Bool) (h : a + 2 ≤ s.size) : rd16 (cutB s a) q = (num s.data.toList a, cutB s (a + 2), q) := by
  unfold rd16
  rw [if_neg (by rw [cut_size]; omega), cut_cut]
  have : (cutB s a).data.toList = s.data.toList.drop a := rfl
  rw [this, num_behind, Nat.add_zero]
theorem rd32_at (s : ByteArray) (a : Nat) (q : Bool) (h : a + 4 ≤ s.size) : rd32 (cutB s a) q = (num4 s.data.toList a, cutB s (a + 4), q) := by
  unfold rd32
  rw [if_neg (by rw [cut_size]; omega), cut_cut]
  have : (cutB s a).data.toList = s.data.toList.drop a := rfl
  rw [this]
  unfold num4
  rw [num_behind, num_behind, Nat.add_zero]
theorem gapsAt_take (L : List UInt8) (n k : Nat) (h : k < n) : flatG ((gapsAt L n).take (k + 1)) = flatG ((gapsAt L n).take k) ++ [.int .u16 ((num L (4 * k) : Nat) : Int), .int .u16 ((num L (4 * k + 2) : Nat) : Int)] := by
  have hl : k < (gapsAt L n).length := by simp [gapsAt, h]
  rw [List.take_succ_eq_append_getElem hl, flatG_append]
  congr 1
  simp [gapsAt, flatG]
theorem dupsAt_take (L : List UInt8) (p n k : Nat) (h : k < n) : ((dupsAt L p n).take (k + 1)).map encN = ((dupsAt L p n).take k).map encN ++ [.int .u32 ((num4 L (p + 4 * k) : Nat) : Int)] := by
  have hl : k < (dupsAt L p n).length := by simp [dupsAt, h]
  rw [List.take_succ_eq_append_getElem hl, List.map_append]
  congr 1
  simp [dupsAt, encN]
theorem gapsAt_full (L : List UInt8) (n : Nat) : (gapsAt L n).take n = gapsAt L n := List.take_of_length_le (by simp [gapsAt])
theorem dupsAt_full (L : List UInt8) (p n : Nat) : (dupsAt L p n).take n = dupsAt L p n := List.take_of_length_le (by simp [dupsAt])

/-- Of what was there but block r has turned. -/
theorem Touch.grew {r : Nat} {a b : World} (h : Touch (· = r) a b) : a.grownBy b (some r) := ⟨h.os, h.tape, h.output, by rw [h.size]; exact Nat.le_refl _, fun k _ hk => h.block k fun e => hk (by rw [e])⟩
theorem grew_on {a b c : World} {row row' : Option Nat} (h : a.grownBy b row) (k : b.grownBy c row') (hrow : ∀ j, row' = some j → row = some j ∨ a.heap.size ≤ j) : a.grownBy c row :=
  ⟨k.os.trans h.os, k.tape.trans h.tape, k.output.trans h.output, Nat.le_trans h.size k.size, fun i hi hne => (k.block i (Nat.lt_of_lt_of_le hi h.size) fun e => (hrow i e.symm).elim (fun x => hne x.symm) (fun x => by omega)).trans (h.block i hi hne)⟩
theorem own_grew {w w' : World} {B r : Nat} {e : TypeId} {size : Nat} {v : Value} {n : Nat} {xs : List Value} (h : w.ownsRow B e size v n xs) (hg : w.grownBy w' (some r)) (hr : r < B) : w'.ownsRow B e size v n xs :=
  h.kept hg (.inr fun e => by have := (h.lt r e).1; omega)
theorem grew_alloc (w : World) (o : Obj) (row : Option Nat) : w.grownBy (w.alloc o) row := World.grownBy_alloc w o row
theorem gapInfo : (Tryz.prog.info? 104).map (fun i => (i.zero, i.size, i.bytes)) = some (some (.agg #[.int .u16 0, .int .u16 0]), 2, 4) := by kernel_rfl
theorem dupInfo : (Tryz.prog.info? 23).map (fun i => (i.zero, i.size, i.bytes)) = some (some (.int .u32 0), 1, 4) := by kernel_rfl
/-- What is read, lies so; but block r nothing of what was there has turned. -/
def RepsPost (r : Nat) (R : List (Nat × Nat) × List Nat × ByteArray × Bool) (w : World) (e : Ending) (w' : World) : Prop :=
  ∃ gv dv, e = .returned (.tuple #[gv, dv]) ∧ RowG w' gv R.1 ∧ RowN w' dv R.2.1 ∧ w'.heap[r]? = some (.cells #[.string R.2.2.1, .bool R.2.2.2] 132 (0, 0)) ∧ w.grownBy w' (some r) ∧ (∀ j, gv.ownBlock = some j → w.heap.size ≤ j) ∧ ∀ j, dv.ownBlock = some j → w.heap.size ≤ j
set_option maxHeartbeats 4000000 in
theorem reps_any (r : Nat) (s : ByteArray) (hs : s.size ≤ 1000000) (b : Bool) (w : World) (h : w.heap[r]? = some (.cells #[.string s, .bool b] 132 (0, 0))) :
    Calls Tryz.prog 115 #[.pointer (some ⟨r, 0, none⟩)] w (RepsPost r (repsS s b) w) := by
  have hr : r < w.heap.size := (Array.getElem?_eq_some_iff.1 h).1
  have H1 := Lib.hid (read_16 r s hs b w h)
  have HS1 := rd_size16 s b
  have HV := Lib.hid (show repsS s b = if (rd16 (rd16 s b).2.1 (rd16 s b).2.2).2.1.size = 4 * ((rd16 s b).1 + (rd16 (rd16 s b).2.1 (rd16 s b).2.2).1) then (gapsAt (rd16 (rd16 s b).2.1 (rd16 s b).2.2).2.1.data.toList (rd16 s b).1, dupsAt (rd16 (rd16 s b).2.1 (rd16 s b).2.2).2.1.data.toList (4 * (rd16 s b).1) (rd16 (rd16 s b).2.1 (rd16 s b).2.2).1, noB, (rd16 (rd16 s b).2.1 (rd16 s b).2.2).2.2) else ([], [], (rd16 (rd16 s b).2.1 (rd16 s b).2.2).2.1, true) from rfl)
  generalize repsS s b = R at *
  have hn1 := rd16_fst s b
  generalize rd16 s b = R1 at *
  obtain ⟨n1, s1, b1⟩ := R1
  dsimp only at *
  have H2 := Lib.hid (fun W h => read_16 r s1 (by omega) b1 W h)
  have HS2 := rd_size16 s1 b1
  have hn2 := rd16_fst s1 b1
  generalize rd16 s1 b1 = R2 at *
  obtain ⟨n2, s2, b2⟩ := R2
  dsimp only at *
  clear h
  have q1 : (n1 : Int) < 65536 := by omega
  have q2 : (n2 : Int) < 65536 := by omega
  have q3 : (s2.size : Int) ≤ 1000000 := by omega
  by_cases hz : s2.size = 4 * (n1 + n2)
  case neg =>
    rw [if_neg hz] at HV
    rw [HV.out]
    have kz : ((s2.size : Int) != 4 * ((n1 : Int) + (n2 : Int))) = true := bne_iff_ne.2 (by omega)
    clear hz HV
    go_enter Tryz.func115, Tryz.ntmps115
    go_wp2_with fail
    refine H1.out.mono ?_
    rintro e w1 ⟨rfl, h1, t1⟩
    have HT := Lib.hid t1
    have HR := Lib.hid h1
    clear h1 t1 H1
    go_wp2_with fail
    refine (H2.out _ HR.out).mono ?_
    rintro e w2 ⟨rfl, h1, t1⟩
    replace HT := Lib.hid (HT.out.trans t1)
    have c0 : w2.cell? ⟨r, 0, none⟩ = some (.string s2) := by rw [cell_in h1]; rfl
    have c1 : w2.cell? ⟨r, 1, none⟩ = some (.bool b2) := by rw [cell_in h1]; rfl
    have f1 : w2.frozen? ⟨r, 1, none⟩ = false := frozen_of_row h1 1
    have HQ := Lib.hid (row_set h1 1 (.bool true))
    clear h1 t1 H2 HR
    go_wp2_with fail
    go_ret2
    exact ⟨_, _, rfl, RowG.nil _, RowN.nil _, by have := HQ.out; simpa using this, (HT.out.trans (Touch.setCell _ _ _ _)).grew, fun j hj => (by cases hj), fun j hj => by cases hj⟩
  rw [if_pos hz] at HV
  rw [HV.out]
  have kz : ((s2.size : Int) != 4 * ((n1 : Int) + (n2 : Int))) = false := bne_eq_false_iff_eq.2 (by omega)
  have HZ := Lib.hid hz
  clear hz HV
  obtain ⟨i0, hi0, hz0, hz1, hz2⟩ := info_parts gapInfo
  obtain ⟨i1, gi0, gz0, gz1, gz2⟩ := info_parts dupInfo
  have I0 := Lib.hid hi0
  have I1 := Lib.hid hz0
  have I2 := Lib.hid hz1
  have I3 := Lib.hid hz2
  have J0 := Lib.hid gi0
  have J1 := Lib.hid gz0
  have J2 := Lib.hid gz1
  have J3 := Lib.hid gz2
  have HGT := Lib.hid (fun k h => gapsAt_take s2.data.toList n1 k h)
  have HDT := Lib.hid (fun k h => dupsAt_take s2.data.toList (4 * n1) n2 k h)
  clear hi0 hz0 hz1 hz2 gi0 gz0 gz1 gz2
  go_enter Tryz.func115, Tryz.ntmps115
  go_wp2_with fail
  refine H1.out.mono ?_
  rintro e w1 ⟨rfl, h1, t1⟩
  have HT := Lib.hid t1
  have HR := Lib.hid h1
  clear h1 t1 H1
  go_wp2_with fail
  refine (H2.out _ HR.out).mono ?_
  rintro e w2 ⟨rfl, h1, t1⟩
  replace HT := Lib.hid (HT.out.trans t1)
  have c0 : w2.cell? ⟨r, 0, none⟩ = some (.string s2) := by rw [cell_in h1]; rfl
  replace HR := Lib.hid h1
  clear h1 t1 H2
  go_wp2_with fail
  go_loopw [2, 26] (fun v i wr => ∃ k : Nat, k ≤ n1 ∧ i = .int .i64 k ∧ Hid (wr.ownsRow w.heap.size 104 2 v k (flatG ((gapsAt s2.data.toList n1).take k)) ∧ wr.heap[r]? = some (.cells #[.string (cutB s2 (4 * k)), .bool b2] 132 (0, 0)) ∧ w.grownBy wr (some r)))
    (fun _ i _ => n1 - (intOf i).toNat)
  case atStart => exact ⟨0, Nat.zero_le _, rfl, Lib.hid ⟨World.ownsRow_nil _ _ _ _, by rw [Nat.mul_zero, cut_zero]; exact HR.out, HT.out.grew⟩⟩
  case round =>
    obtain ⟨k, hk, rfl, HQ⟩ := hrel
    clear c0
    by_cases hlt : k < n1
    · have G1 := Lib.hid (fun W h => read_16 r (cutB s2 (4 * k)) (by rw [cut_size]; omega) b2 W h)
      have G2 := Lib.hid (fun W h => read_16 r (cutB s2 (4 * k + 2)) (by rw [cut_size]; omega) b2 W h)
      rw [rd16_at s2 (4 * k) b2 (by have := HZ.out; omega)] at G1
      rw [rd16_at s2 (4 * k + 2) b2 (by have := HZ.out; omega)] at G2
      have HE := Lib.hid (HGT.out k hlt)
      have HE4 := Lib.hid (show 4 * k + 2 + 2 = 4 * (k + 1) by omega)
      generalize num s2.data.toList (4 * k) = x at *
      generalize num s2.data.toList (4 * k + 2) = y at *
      have HO := Lib.hid HQ.out.1
      have HG := Lib.hid HQ.out.2.2
      have hsz := HQ.out.2.2.size
      clear HT HR
      go_wp2_with fail
      refine (G1.out _ HQ.out.2.1).mono ?_
      rintro e w3 ⟨rfl, h1, t1⟩
      have HR3 := Lib.hid h1
      replace HO := Lib.hid (own_grew HO.out t1.grew hr)
      replace HG := Lib.hid (grew_on HG.out t1.grew fun j hj => .inl hj)
      clear h1 t1 HQ G1
      go_wp2_with fail
      refine (G2.out _ HR3.out).mono ?_
      rintro e w4 ⟨rfl, h1, t1⟩
      replace HR3 := Lib.hid h1
      replace HO := Lib.hid (own_grew HO.out t1.grew hr)
      replace HG := Lib.hid (grew_on HG.out t1.grew fun j hj => .inl hj)
      have hs4 : w.heap.size ≤ w4.heap.size := HG.out.size
      clear h1 t1 G2
      go_wp2_with (at_builtin; refine wpList_append_own _ rfl _ _ 48 rfl w.heap.size 104 i0 (.agg #[.int .u16 0, .int .u16 0]) 2 4 Tryz.underlying48 I0.out I1.out I2.out I3.out rfl (by decide) _ k _ rfl (HO.out.alloc _) ⟨w4.heap.size, 0, none⟩ 1 1 [.int .u16 (x : Int), .int .u16 (y : Int)] rfl rfl ?c1 ?c2 ?c3 ?c4 ?c5 ?_)
      case c1 => exact new_cells w4 _ [.int .u16 (x : Int), .int .u16 (y : Int)]
      case c2 => intro u hu; simp at hu; rcases hu with rfl | rfl <;> rfl
      case c3 => unfold maxLen; omega
      case c4 => omega
      case c5 => rw [World.size_alloc]; omega
      intro v' w5 hown5 hg5 _
      have HO5 := Lib.hid hown5
      have hlt5 : ∀ j, u2.ownBlock = some j → w.heap.size ≤ j := fun j hj => (HO.out.lt j hj).1
      have hr4 : r < w4.heap.size := by omega
      have hne5 : some r ≠ u2.ownBlock := fun e => by have := hlt5 r e.symm; omega
      have HR5 := Lib.hid ((hg5.block r (by rw [World.size_alloc]; omega) hne5).trans ((Below.heap_alloc w4 _ r hr4).trans HR3.out))
      have HG5 := Lib.hid (grew_on (grew_on HG.out (grew_alloc w4 _ none) (fun j hj => by cases hj)) hg5 fun j hj => .inr (hlt5 j hj))
      clear hown5 hg5 HO HG HR3 hlt5 hne5
      go_wp2_with fail
      go_roundw
      case rel => exact ⟨k + 1, by omega, by go_num, Lib.hid ⟨by rw [HE.out]; exact HO5.out, by rw [← HE4.out]; exact HR5.out, HG5.out⟩⟩
      case measure => simp [intOf]; omega
    · obtain rfl : n1 = k := by omega
      rw [gapsAt_full] at HQ
      generalize wr = wq at *
      have RG := Lib.hid (rowG_of_own (OwnG.of HQ.out.1))
      have HO := Lib.hid HQ.out.1
      have HR5 := Lib.hid HQ.out.2.1
      have HG := Lib.hid HQ.out.2.2
      have hsq := HQ.out.2.2.size
      clear HQ HT HR HGT
      go_wp2_with fail
      go_loopw [3, 38] (fun u i wr => ∃ k : Nat, k ≤ n2 ∧ i = .int .i64 k ∧ Hid (wr.ownsRow wq.heap.size 23 1 u k (((dupsAt s2.data.toList (4 * n1) n2).take k).map encN) ∧ wr.heap[r]? = some (.cells #[.string (cutB s2 (4 * n1 + 4 * k)), .bool b2] 132 (0, 0)) ∧ wq.grownBy wr (some r)))
        (fun _ i _ => n2 - (intOf i).toNat)
      case atStart => exact ⟨0, Nat.zero_le _, rfl, Lib.hid ⟨World.ownsRow_nil _ _ _ _, by rw [Nat.mul_zero, Nat.add_zero]; exact HR5.out, World.grownBy.refl _ _⟩⟩
      case round =>
        obtain ⟨k, hk, rfl, HQ⟩ := hrel
        by_cases hlt : k < n2
        · have G1 := Lib.hid (fun W h => read_32 r (cutB s2 (4 * n1 + 4 * k)) (by rw [cut_size]; omega) b2 W h)
          rw [rd32_at s2 (4 * n1 + 4 * k) b2 (by have := HZ.out; omega)] at G1
          have HE := Lib.hid (HDT.out k hlt)
          have HE4 := Lib.hid (show 4 * n1 + 4 * k + 4 = 4 * n1 + 4 * (k + 1) by omega)
          generalize num4 s2.data.toList (4 * n1 + 4 * k) = x at *
          have HO3 := Lib.hid HQ.out.1
          have HG3 := Lib.hid HQ.out.2.2
          have hrq : r < wq.heap.size := by omega
          clear HR5
          go_wp2_with fail
          refine (G1.out _ HQ.out.2.1).mono ?_
          rintro e w4 ⟨rfl, h1, t1⟩
          have HR3 := Lib.hid h1
          replace HO3 := Lib.hid (own_grew HO3.out t1.grew hrq)
          replace HG3 := Lib.hid (grew_on HG3.out t1.grew fun j hj => .inl hj)
          have hs4 : wq.heap.size ≤ w4.heap.size := HG3.out.size
          clear h1 t1 G1 HQ
          go_wp2_with (at_builtin; refine wpList_append_own _ rfl _ _ 49 rfl wq.heap.size 23 i1 (.int .u32 0) 1 4 Tryz.underlying49 J0.out J1.out J2.out J3.out rfl (by decide) _ k _ rfl (HO3.out.alloc _) ⟨w4.heap.size, 0, none⟩ 1 1 [.int .u32 (x : Int)] rfl rfl ?d1 ?d2 ?d3 ?d4 ?d5 ?_)
          case d1 => exact new_cells w4 _ [.int .u32 (x : Int)]
          case d2 => intro u hu; simp at hu; subst hu; rfl
          case d3 => unfold maxLen; omega
          case d4 => omega
          case d5 => rw [World.size_alloc]; omega
          intro v' w5 hown5 hg5 _
          have HO5 := Lib.hid hown5
          have hlt5 : ∀ j, u3.ownBlock = some j → wq.heap.size ≤ j := fun j hj => (HO3.out.lt j hj).1
          have hr4 : r < w4.heap.size := by omega
          have hne5 : some r ≠ u3.ownBlock := fun e => by have := hlt5 r e.symm; omega
          have HR5 := Lib.hid ((hg5.block r (by rw [World.size_alloc]; omega) hne5).trans ((Below.heap_alloc w4 _ r hr4).trans HR3.out))
          have HG5 := Lib.hid (grew_on (grew_on HG3.out (grew_alloc w4 _ none) (fun j hj => by cases hj)) hg5 fun j hj => .inr (hlt5 j hj))
          clear hown5 hg5 HO3 HG3 HR3 hlt5 hne5
          go_wp2_with fail
          go_roundw
          case rel => exact ⟨k + 1, by omega, by go_num, Lib.hid ⟨by rw [HE.out, List.map_take]; exact HO5.out, by rw [← HE4.out]; exact HR5.out, HG5.out⟩⟩
          case measure => simp [intOf]; omega
        · obtain rfl : n2 = k := by omega
          rw [dupsAt_full] at HQ
          have HEND := Lib.hid (show cutB s2 (4 * n1 + 4 * n2) = noB from by rw [← cut_all s2]; congr 1; have := HZ.out; omega)
          rw [HEND.out] at HQ
          go_wp2_with fail
          go_ret2
          exact ⟨_, _, rfl, rowG_of_own (OwnG.of (own_grew HO.out HQ.out.2.2 hr)), rowN_of_own (OwnG.of HQ.out.1), HQ.out.2.1, grew_on HG.out HQ.out.2.2 (fun j hj => .inl hj), fun j hj => (HO.out.lt j hj).1, fun j hj => Nat.le_trans hsq (HQ.out.1.lt j hj).1⟩
end Go.Proofs.YtlbaockipeojhaaGreat
end
