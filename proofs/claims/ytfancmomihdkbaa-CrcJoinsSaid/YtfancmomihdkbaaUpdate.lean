/-
  Package crc's Update and Sum, and the document's: each returns the sum of the text, whatever text.
-/
import Derived.Test.YtfancmomihdkbaaTable
namespace Go.Proofs.Ytfancmomihdkbaa
open Go.RowKit
set_option linter.unusedVariables false

theorem take_snoc (s : ByteArray) (k : Nat) (h : k < s.size) : s.data.toList.take (k + 1) = s.data.toList.take k ++ [s[k]] :=
  (List.take_append_getElem (l := s.data.toList) (i := k) (by simpa using h)).symm
theorem not_u32 (n : Nat) (h : n < 4294967296) : bits .xor .u32 IntKind.u32.max (n : Int) = ((4294967295 - n : Nat) : Int) := by
  have := u32_xor_nat 4294967295 n (by omega) h
  rw [Nat.xor_comm, ← not_xor h] at this
  exact this
/-- The register after k bytes. -/
def regAt (c : Nat) (s : ByteArray) (k : Nat) : Nat := behind (4294967295 - c) (s.data.toList.take k)
theorem regAt_lt (c : Nat) (s : ByteArray) (k : Nat) : regAt c s k < 4294967296 := behind_lt (by omega) _
theorem regAt_next (c : Nat) (s : ByteArray) (k : Nat) (h : k < s.size) : regAt c s (k + 1) = step (regAt c s k % 256 ^^^ s[k].toNat) ^^^ regAt c s k / 256 := by
  unfold regAt
  rw [take_snoc s k h, behind_snoc]
  exact step_table _ _ s[k].toNat_lt

/-- The sum of a text, on from another one; from none. -/
def updOf (c : Nat) (s : ByteArray) : Nat := crc c s.data.toList
def sumOf (s : ByteArray) : Nat := crc 0 s.data.toList
theorem updOf_lt (c : Nat) (s : ByteArray) : updOf c s < 4294967296 := crc_lt _ _
theorem sumOf_lt (s : ByteArray) : sumOf s < 4294967296 := crc_lt _ _
set_option maxRecDepth 100000 in
set_option maxHeartbeats 1000000 in
theorem update_any (c : Nat) (hc : c < 4294967296) (s : ByteArray) (hs : s.size ≤ maxLen) (w : World) :
    Calls Try.prog 10 #[.int .u32 (c : Int), .string s] w fun e w' => e = .returned (.int .u32 ((updOf c s : Nat) : Int)) ∧ Below w.heap.size w w' := by
  unfold maxLen at hs
  obtain ⟨hz, hsz⟩ := zero_of_info infoT
  rw [rowOf_zero] at hz
  have HI : Hid ((Try.prog.info? 37).map (·.size) = some (rowOf step).size) := Lib.hid (by rw [rowOf_size]; exact hsz)
  have HO : Hid ((rowOf fun _ => 0).size = (rowOf step).size) := Lib.hid (by rw [rowOf_size, rowOf_size])
  have HE := Lib.hid (rowOf_one step)
  clear hsz
  go_enter Try.func10, Try.ntmps10
  go_wp2_with (first
    | (go_at_call 18; refine (table_any _).mono ?_; rintro e w1 ⟨rfl, hb⟩)
    | (refine wpList_store_row rfl 37 (.tmp 5) (.tmp 8) rfl _ (rowOf step) rfl rfl 37 (rowOf fun _ => 0) (heap_alloc_new _ _) HI.out HO.out HE.out ?_))
  have hT : Tab ((w1.alloc (Obj.cells (rowOf fun _ => 0) 37)).setRow w1.heap.size (rowOf step)) w1.heap.size step := setRow_heap _ _ _ _ _ _ (heap_alloc_new _ _)
  have hB : Below w.heap.size w ((w1.alloc (Obj.cells (rowOf fun _ => 0) 37)).setRow w1.heap.size (rowOf step)) := below_setRow (hb.alloc hb.size _) hb.size _
  have HTB := Lib.hid (And.intro hT hB)
  clear hT hB hz
  generalize ((w1.alloc (Obj.cells (rowOf fun _ => 0) 37)).setRow w1.heap.size (rowOf step)) = wt at *
  clear hb
  rw [not_u32 c hc]
  have HC : Hid (4294967295 - c = regAt c s 0) := Lib.hid rfl
  rw [HC.out]
  generalize w1.heap.size = g at *
  go_loop [6, 13] (fun r i => ∃ k : Nat, k ≤ s.size ∧ i = .int .i64 k ∧ r = .int .u32 ((regAt c s k : Nat) : Int)) (fun _ i => s.size - (intOf i).toNat)
  case atStart => exact ⟨0, Nat.zero_le _, rfl, rfl⟩
  case round =>
    obtain ⟨k, hk, rfl, rfl⟩ := hrel
    have hr := regAt_lt c s k
    by_cases hlt : k < s.size
    · have H1 := Lib.hid (regAt_next c s k hlt)
      have hbl := s[k].toNat_lt
      have hx := u8_xor_nat (regAt c s k % 256) s[k].toNat (by omega) hbl
      rw [show ((regAt c s k % 256 : Nat) : Int) = (regAt c s k : Int) % 256 by omega] at hx
      have hy : regAt c s k % 256 ^^^ s[k].toNat < 256 := xor_lt8 (by omega) hbl
      have hcell := (HTB.out.1).cell hy
      have hst := step_lt (r := regAt c s k % 256 ^^^ s[k].toNat) (by omega)
      have hxx := u32_xor_nat (step (regAt c s k % 256 ^^^ s[k].toNat)) (regAt c s k / 256) hst (by omega)
      rw [← H1.out, show ((regAt c s k / 256 : Nat) : Int) = (regAt c s k : Int) / 256 by omega] at hxx
      clear hst H1
      generalize step (regAt c s k % 256 ^^^ s[k].toNat) = sv at *
      generalize regAt c s k % 256 ^^^ s[k].toNat = y at *
      go_wp2_with fail
      go_round
      case rel => exact ⟨k + 1, by omega, by go_num, rfl⟩
      case measure => simp [intOf]; omega
    · obtain rfl : k = s.size := by omega
      have hn := not_u32 _ hr
      go_wp2_with fail
      go_ret
      refine ⟨ret_u32 ?_, HTB.out.2⟩
      unfold updOf crc regAt
      rw [List.take_of_length_le (by simp)]
theorem sum_any (s : ByteArray) (hs : s.size ≤ maxLen) (w : World) :
    Calls Try.prog 12 #[.string s] w fun e w' => e = .returned (.int .u32 ((sumOf s : Nat) : Int)) ∧ Below w.heap.size w w' := by
  go_enter Try.func12, Try.ntmps12
  go_wp2_with (go_at_call 10; refine (update_any 0 (by omega) s hs _).mono ?_; rintro e w1 ⟨rfl, hb⟩)
  go_ret
  exact ⟨rfl, hb⟩
end Go.Proofs.Ytfancmomihdkbaa
