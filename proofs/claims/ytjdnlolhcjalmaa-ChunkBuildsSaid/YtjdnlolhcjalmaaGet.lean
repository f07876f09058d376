/-
  Numbers of all sizes, read from a reader: contracts.
-/
import Derived.Test.YtjdnlolhcjalmaaNum
import Derived.Test.YtjdnlolhcjalmaaCkMem
import Derived.Test.YtjdnlolhcjalmaaSmall
namespace Go.Proofs.Ytjdnlolhcjalmaa
open Go.RowKit
set_option linter.unusedVariables false
set_option linter.unusedSimpArgs false
set_option maxRecDepth 100000

theorem cut_is (s : ByteArray) (k : Nat) : s.extract k s.size = cutB s k := by
  apply bytes_ext
  rw [cut_list]
  unfold cutB
  rw [toB_list, List.take_of_length_le (by rw [List.length_drop, ← size_list]; omega)]
theorem wrap_u32_id (n : Int) (h0 : 0 ≤ n) (h1 : n < 2 ^ 32) : IntKind.u32.wrap n = n := by rw [IntKind.wrap_u32]; omega
theorem or_byte32 (x y : Nat) (hx : x < 16777216) (hy : y < 256) : bits .or .u32 ((x : Int) * 256) (y : Int) = ((x * 256 + y : Nat) : Int) := by
  have := bits_join .u32 32 (by decide) wrap_u32_id 8 ((x : Int) * 256) (y : Int) (by omega) (by omega) (by omega) (by omega) (by omega) (by omega)
  rw [this]
  omega
theorem or_zero32 (y : Nat) (hy : y < 256) : bits .or .u32 0 (y : Int) = (y : Int) := by
  have := or_byte32 0 y (by omega) hy
  simpa using this
set_option maxHeartbeats 2000000 in
theorem read_8 (r : Nat) (s : ByteArray) (hs : s.size ≤ 1000000) (b : Bool) (w : World) (h : w.heap[r]? = some (.cells #[.string s, .bool b] 70 (0, 0))) :
    Calls Try.prog 31 #[.pointer (some ⟨r, 0, none⟩)] w fun e w' =>
      e = .returned (.int .u8 ((rd8 s b).1 : Int)) ∧ w'.heap[r]? = some (.cells #[.string (rd8 s b).2.1, .bool (rd8 s b).2.2] 70 (0, 0)) ∧ Touch (· = r) w w' := by
  have H0 := Lib.hid (fun W => bits_8 W)
  have c0 : w.cell? ⟨r, 0, none⟩ = some (.string s) := by rw [cell_in h]; rfl
  have c1 : w.cell? ⟨r, 1, none⟩ = some (.bool b) := by rw [cell_in h]; rfl
  have f0 : w.frozen? ⟨r, 0, none⟩ = false := frozen_of_row h 0
  have f1 : w.frozen? ⟨r, 1, none⟩ = false := frozen_of_row h 1
  have HX := Lib.hid h
  clear h
  by_cases hlt : s.size < 1
  · have e : rd8 s b = (0, noB, true) := by unfold rd8; rw [if_pos hlt]
    rw [e]
    have q0 : (s.size : Int) < 1 := by omega
    clear e hlt
    go_enter Try.func31, Try.ntmps31
    go_wp2_with (go_at_call 50; ((with_reducible refine (H0.out _).mono ?_); rintro e w1 ⟨rfl, rfl⟩))
    go_ret
    exact ⟨rfl, by have := row_set (row_set HX.out 0 (.string noB)) 1 (.bool true); simpa [noB] using this, (Touch.setCell _ _ _ _).trans (Touch.setCell _ _ _ _)⟩
  · have e : rd8 s b = (byteAt s.data.toList 0, cutB s 1, b) := by unfold rd8; rw [if_neg hlt]
    rw [e]
    dsimp only
    have q0 : (1 : Int) ≤ (s.size : Int) := by omega
    have hc := cut_is s 1
    have HR := Lib.hid (row_set HX.out 0 (.string (cutB s 1)))
    generalize cutB s 1 = s' at *
    have hz := or_zero32 (byteAt s.data.toList 0) (byteAt_lt _ _)
    have b0 := byteAt_lt s.data.toList 0
    have r0 : 0 < s.size := by omega
    have h0 := (byteAt_byte (s := s) (k := 0) r0).symm
    have p0 : (0 : Int) < (s.size : Int) := by omega
    generalize byteAt s.data.toList 0 = x0 at *
    clear e hlt
    go_enter Try.func31, Try.ntmps31
    go_wp2_with (go_at_call 50; ((with_reducible refine (H0.out _).mono ?_); rintro e w1 ⟨rfl, rfl⟩))
    refine wp_loop_rounds 2 ?_
    rw [rounds_succ]
    go_wp2_with fail
    rw [rounds_succ]
    go_wp2_with fail
    go_ret
    exact ⟨rfl, by have := HR.out; simpa using this, Touch.setCell _ _ _ _⟩
set_option maxHeartbeats 2000000 in
theorem read_16 (r : Nat) (s : ByteArray) (hs : s.size ≤ 1000000) (b : Bool) (w : World) (h : w.heap[r]? = some (.cells #[.string s, .bool b] 70 (0, 0))) :
    Calls Try.prog 32 #[.pointer (some ⟨r, 0, none⟩)] w fun e w' =>
      e = .returned (.int .u16 ((rd16 s b).1 : Int)) ∧ w'.heap[r]? = some (.cells #[.string (rd16 s b).2.1, .bool (rd16 s b).2.2] 70 (0, 0)) ∧ Touch (· = r) w w' := by
  have H0 := Lib.hid (fun W => bits_16 W)
  have c0 : w.cell? ⟨r, 0, none⟩ = some (.string s) := by rw [cell_in h]; rfl
  have c1 : w.cell? ⟨r, 1, none⟩ = some (.bool b) := by rw [cell_in h]; rfl
  have f0 : w.frozen? ⟨r, 0, none⟩ = false := frozen_of_row h 0
  have f1 : w.frozen? ⟨r, 1, none⟩ = false := frozen_of_row h 1
  have HX := Lib.hid h
  clear h
  by_cases hlt : s.size < 2
  · have e : rd16 s b = (0, noB, true) := by unfold rd16; rw [if_pos hlt]
    rw [e]
    have q0 : (s.size : Int) < 2 := by omega
    clear e hlt
    go_enter Try.func32, Try.ntmps32
    go_wp2_with (go_at_call 52; ((with_reducible refine (H0.out _).mono ?_); rintro e w1 ⟨rfl, rfl⟩))
    go_ret
    exact ⟨rfl, by have := row_set (row_set HX.out 0 (.string noB)) 1 (.bool true); simpa [noB] using this, (Touch.setCell _ _ _ _).trans (Touch.setCell _ _ _ _)⟩
  · have e : rd16 s b = (num s.data.toList 0, cutB s 2, b) := by unfold rd16; rw [if_neg hlt]
    rw [e]
    dsimp only
    have q0 : (2 : Int) ≤ (s.size : Int) := by omega
    have hc := cut_is s 2
    have HR := Lib.hid (row_set HX.out 0 (.string (cutB s 2)))
    generalize cutB s 2 = s' at *
    have hz := or_zero32 (byteAt s.data.toList 0) (byteAt_lt _ _)
    have b0 := byteAt_lt s.data.toList 0
    have r0 : 0 < s.size := by omega
    have h0 := (byteAt_byte (s := s) (k := 0) r0).symm
    have p0 : (0 : Int) < (s.size : Int) := by omega
    have b1 := byteAt_lt s.data.toList 1
    have r1 : 1 < s.size := by omega
    have h1 := (byteAt_byte (s := s) (k := 1) r1).symm
    have p1 : (1 : Int) < (s.size : Int) := by omega
    have o1 := or_byte32 (byteAt s.data.toList 0) (byteAt s.data.toList 1) (by omega) b1
    have HV := Lib.hid (show num s.data.toList 0 = (byteAt s.data.toList 0) * 256 + byteAt s.data.toList 1 from by unfold num; rfl)
    rw [HV.out]
    clear HV
    generalize byteAt s.data.toList 0 = x0 at *
    generalize byteAt s.data.toList 1 = x1 at *
    generalize hy1 : x0 * 256 + x1 = y1 at *
    have z1 : y1 < 65536 := by omega
    clear hy1
    clear e hlt
    go_enter Try.func32, Try.ntmps32
    go_wp2_with (go_at_call 52; ((with_reducible refine (H0.out _).mono ?_); rintro e w1 ⟨rfl, rfl⟩))
    refine wp_loop_rounds 3 ?_
    rw [rounds_succ]
    go_wp2_with fail
    rw [rounds_succ]
    go_wp2_with fail
    rw [rounds_succ]
    go_wp2_with fail
    go_ret
    exact ⟨rfl, by have := HR.out; simpa using this, Touch.setCell _ _ _ _⟩
set_option maxHeartbeats 2000000 in
theorem read_32 (r : Nat) (s : ByteArray) (hs : s.size ≤ 1000000) (b : Bool) (w : World) (h : w.heap[r]? = some (.cells #[.string s, .bool b] 70 (0, 0))) :
    Calls Try.prog 79 #[.pointer (some ⟨r, 0, none⟩)] w fun e w' =>
      e = .returned (.int .u32 ((rd32 s b).1 : Int)) ∧ w'.heap[r]? = some (.cells #[.string (rd32 s b).2.1, .bool (rd32 s b).2.2] 70 (0, 0)) ∧ Touch (· = r) w w' := by
  have H0 := Lib.hid (fun W => bits_32 W)
  have c0 : w.cell? ⟨r, 0, none⟩ = some (.string s) := by rw [cell_in h]; rfl
  have c1 : w.cell? ⟨r, 1, none⟩ = some (.bool b) := by rw [cell_in h]; rfl
  have f0 : w.frozen? ⟨r, 0, none⟩ = false := frozen_of_row h 0
  have f1 : w.frozen? ⟨r, 1, none⟩ = false := frozen_of_row h 1
  have HX := Lib.hid h
  clear h
  by_cases hlt : s.size < 4
  · have e : rd32 s b = (0, noB, true) := by unfold rd32; rw [if_pos hlt]
    rw [e]
    have q0 : (s.size : Int) < 4 := by omega
    clear e hlt
    go_enter Try.func79, Try.ntmps79
    go_wp2_with (go_at_call 83; ((with_reducible refine (H0.out _).mono ?_); rintro e w1 ⟨rfl, rfl⟩))
    go_ret
    exact ⟨rfl, by have := row_set (row_set HX.out 0 (.string noB)) 1 (.bool true); simpa [noB] using this, (Touch.setCell _ _ _ _).trans (Touch.setCell _ _ _ _)⟩
  · have e : rd32 s b = (num4 s.data.toList 0, cutB s 4, b) := by unfold rd32; rw [if_neg hlt]
    rw [e]
    dsimp only
    have q0 : (4 : Int) ≤ (s.size : Int) := by omega
    have hc := cut_is s 4
    have HR := Lib.hid (row_set HX.out 0 (.string (cutB s 4)))
    generalize cutB s 4 = s' at *
    have hz := or_zero32 (byteAt s.data.toList 0) (byteAt_lt _ _)
    have b0 := byteAt_lt s.data.toList 0
    have r0 : 0 < s.size := by omega
    have h0 := (byteAt_byte (s := s) (k := 0) r0).symm
    have p0 : (0 : Int) < (s.size : Int) := by omega
    have b1 := byteAt_lt s.data.toList 1
    have r1 : 1 < s.size := by omega
    have h1 := (byteAt_byte (s := s) (k := 1) r1).symm
    have p1 : (1 : Int) < (s.size : Int) := by omega
    have b2 := byteAt_lt s.data.toList 2
    have r2 : 2 < s.size := by omega
    have h2 := (byteAt_byte (s := s) (k := 2) r2).symm
    have p2 : (2 : Int) < (s.size : Int) := by omega
    have b3 := byteAt_lt s.data.toList 3
    have r3 : 3 < s.size := by omega
    have h3 := (byteAt_byte (s := s) (k := 3) r3).symm
    have p3 : (3 : Int) < (s.size : Int) := by omega
    have o1 := or_byte32 (byteAt s.data.toList 0) (byteAt s.data.toList 1) (by omega) b1
    have o2 := or_byte32 ((byteAt s.data.toList 0) * 256 + byteAt s.data.toList 1) (byteAt s.data.toList 2) (by omega) b2
    have o3 := or_byte32 (((byteAt s.data.toList 0) * 256 + byteAt s.data.toList 1) * 256 + byteAt s.data.toList 2) (byteAt s.data.toList 3) (by omega) b3
    have HV := Lib.hid (show num4 s.data.toList 0 = (((byteAt s.data.toList 0) * 256 + byteAt s.data.toList 1) * 256 + byteAt s.data.toList 2) * 256 + byteAt s.data.toList 3 from by unfold num4 num; simp only [Nat.zero_add, Nat.reduceAdd]; omega)
    rw [HV.out]
    clear HV
    generalize byteAt s.data.toList 0 = x0 at *
    generalize byteAt s.data.toList 1 = x1 at *
    generalize byteAt s.data.toList 2 = x2 at *
    generalize byteAt s.data.toList 3 = x3 at *
    generalize hy1 : x0 * 256 + x1 = y1 at *
    have z1 : y1 < 65536 := by omega
    clear hy1
    generalize hy2 : y1 * 256 + x2 = y2 at *
    have z2 : y2 < 16777216 := by omega
    clear hy2
    generalize hy3 : y2 * 256 + x3 = y3 at *
    have z3 : y3 < 4294967296 := by omega
    clear hy3
    clear e hlt
    go_enter Try.func79, Try.ntmps79
    go_wp2_with (go_at_call 83; ((with_reducible refine (H0.out _).mono ?_); rintro e w1 ⟨rfl, rfl⟩))
    refine wp_loop_rounds 5 ?_
    rw [rounds_succ]
    go_wp2_with fail
    rw [rounds_succ]
    go_wp2_with fail
    rw [rounds_succ]
    go_wp2_with fail
    rw [rounds_succ]
    go_wp2_with fail
    rw [rounds_succ]
    go_wp2_with fail
    go_ret
    exact ⟨rfl, by have := HR.out; simpa using this, Touch.setCell _ _ _ _⟩
end Go.Proofs.Ytjdnlolhcjalmaa
