/-
  The document's Update and Sum, bit by bit: each returns the sum of the text, whatever text, and leaves memory alone. Package crc's Seal and Check, and the document's: what each returns, whatever packet. A packet with its sum put in, as a list of bytes: sealed twice it is sealed once; with one byte turned it is no sealed packet.
-/
import Derived.Test.YtlbaockipeojhaaGreatCrcA
import Derived.Test.YtlbaockipeojhaaGreatRow
import Derived.WalkSpells
import Derived.Laws.BytesString
import Derived.Deep.QuietTactic
import Derived.BigQuiet
section
namespace Go.Proofs.YtlbaockipeojhaaGreat
open Go.RowKit
set_option linter.unusedVariables false

/-- The four bytes of a number, the lowest first. -/
def four (n : Nat) : ByteArray := ⟨#[UInt8.ofNat (n % 256), UInt8.ofNat (n / 256 % 256), UInt8.ofNat (n / 65536 % 256), UInt8.ofNat (n / 16777216)]⟩
theorem four_of (n : Nat) : (⟨#[UInt8.ofNat ((n : Int) % 256).toNat, UInt8.ofNat ((n : Int) / 256 % 256).toNat, UInt8.ofNat ((n : Int) / 65536 % 256).toNat, UInt8.ofNat ((n : Int) / 16777216).toNat]⟩ : ByteArray) = four n := by
  unfold four
  have e1 : ((n : Int) % 256).toNat = n % 256 := by omega
  have e2 : ((n : Int) / 256 % 256).toNat = n / 256 % 256 := by omega
  have e3 : ((n : Int) / 65536 % 256).toNat = n / 65536 % 256 := by omega
  have e4 : ((n : Int) / 16777216).toNat = n / 16777216 := by omega
  rw [e1, e2, e3, e4]
/-- Four bytes of a row just made, as a text. -/
theorem conv4 (W : World) (a b c d : Int) : (convert 47 9 (.slice (some ⟨W.heap.size, 0, none⟩) 4 4)).run Tryz.prog (W.alloc (.cells #[.int .u8 a, .int .u8 b, .int .u8 c, .int .u8 d] 5))
    = .ok (.string ⟨#[UInt8.ofNat a.toNat, UInt8.ofNat b.toNat, UInt8.ofNat c.toNat, UInt8.ofNat d.toNat]⟩) (W.alloc (.cells #[.int .u8 a, .int .u8 b, .int .u8 c, .int .u8 d] 5)) := by
  rw [run_convert_bytes_string _ _ _ 5 _ _ _ Tryz.underlying47 Tryz.underlying5 Tryz.underlying9]
  rw [run_bytesToString _ _ 4 4 [a, b, c, d]]
  · rfl
  · have := run_loadCells_list (P := Tryz.prog) (W.alloc (.cells #[.int .u8 a, .int .u8 b, .int .u8 c, .int .u8 d] 5)) ⟨W.heap.size, 0, none⟩ ([a, b, c, d].map (Value.int .u8)) (fun j v hv => by
      have hadd : (⟨W.heap.size, 0, none⟩ : Addr).add j = ⟨W.heap.size, j, none⟩ := by unfold Addr.add; split <;> simp_all
      rw [hadd, cell_of_row _ _ j _ _ (0, 0) (heap_alloc_new W _)]
      simpa using hv)
    exact this
theorem conv4_drew (W : World) (N : Nat) (a b c d : Int) : (convert 47 9 (.slice (some ⟨W.heap.size, 0, none⟩) 4 4)).run Tryz.prog ((W.alloc (.cells #[.int .u8 a, .int .u8 b, .int .u8 c, .int .u8 d] 5)).drewN N)
    = .ok (.string ⟨#[UInt8.ofNat a.toNat, UInt8.ofNat b.toNat, UInt8.ofNat c.toNat, UInt8.ofNat d.toNat]⟩) ((W.alloc (.cells #[.int .u8 a, .int .u8 b, .int .u8 c, .int .u8 d] 5)).drewN N) := by
  rw [run_convert_bytes_string _ _ _ 5 _ _ _ Tryz.underlying47 Tryz.underlying5 Tryz.underlying9]
  rw [run_bytesToString _ _ 4 4 [a, b, c, d]]
  · rfl
  · have := run_loadCells_list (P := Tryz.prog) ((W.alloc (.cells #[.int .u8 a, .int .u8 b, .int .u8 c, .int .u8 d] 5)).drewN N) ⟨W.heap.size, 0, none⟩ ([a, b, c, d].map (Value.int .u8)) (fun j v hv => by
      have hadd : (⟨W.heap.size, 0, none⟩ : Addr).add j = ⟨W.heap.size, j, none⟩ := by unfold Addr.add; split <;> simp_all
      rw [hadd]
      show (W.alloc (.cells #[.int .u8 a, .int .u8 b, .int .u8 c, .int .u8 d] 5)).cell? _ = _
      rw [cell_of_row _ _ j _ _ (0, 0) (heap_alloc_new W _)]
      simpa using hv)
    exact this
theorem ret_string {a b : ByteArray} (h : a = b) : Ending.returned (.string a) = .returned (.string b) := by rw [h]
theorem lowest_any (n : Nat) (hn : n < 4294967296) (w : World) :
    Calls Tryz.prog 49 #[.int .u32 (n : Int)] w fun e w' => e = .returned (.string (four n)) ∧ Below w.heap.size w w' := by
  have hk := conv4
  go_enter Tryz.func49, Tryz.ntmps49
  go_wp2_with fail
  go_ret
  exact ⟨ret_string (four_of n), (Below.refl _ _).alloc (Nat.le_refl _) _⟩

/-- A packet with its sum put in. -/
def sealed (s : ByteArray) : ByteArray := s.extract 0 8 ++ four (sumOf (s.extract 0 8 ++ ⟨#[0, 0, 0, 0]⟩ ++ s.extract 12 s.size)) ++ s.extract 12 s.size
theorem blank_size (s f : ByteArray) (h12 : 12 ≤ s.size) (hf : f.size = 4) : (s.extract 0 8 ++ f ++ s.extract 12 s.size).size = s.size := by
  simp only [ByteArray.size_append, ByteArray.size_extract, hf]; omega
theorem four_size (n : Nat) : (four n).size = 4 := rfl
theorem ret_i64 {a b : Int} (h : a = b) : Ending.returned (.int .i64 a) = .returned (.int .i64 b) := by rw [h]
theorem seal_any (s : ByteArray) (h12 : 12 ≤ s.size) (hs : s.size ≤ 1000000) (w : World) :
    Calls Tryz.prog 24 #[.string s] w fun e w' => e = .returned (.tuple #[.string (sealed s), .int .i64 0]) ∧ Below w.heap.size w w' := by
  have hf := four_size
  have hm8 : min 8 s.size = 8 := by omega
  go_enter Tryz.func24, Tryz.ntmps24
  go_wp2_with fail
  go_quiet (fail)
  go_wp2_with (first
    | (go_at_call 50; refine (sum_any _ (by rw [blank_size s _ h12 rfl]; unfold maxLen; omega) _).mono ?_; rintro e w1 ⟨rfl, hb1⟩)
    | (go_at_call 49; refine (lowest_any _ (sumOf_lt _) _).mono ?_; rintro e w2 ⟨rfl, hb2⟩))
  go_ret2
  exact ⟨rfl, ((below_drewN (Below.refl w.heap.size w) nq).trans hb1).trans (hb2.mono hb1.size)⟩
theorem seal_short (s : ByteArray) (h12 : s.size < 12) (w : World) :
    Calls Tryz.prog 24 #[.string s] w fun e w' => e = .returned (.tuple #[.string ⟨#[]⟩, .int .i64 3]) ∧ w = w' := by
  go_enter Tryz.func24, Tryz.ntmps24
  go_wp2_with fail
  go_ret2
  exact ⟨rfl, rfl⟩
/-- Whether a packet has its sum in it. -/
def checked (s : ByteArray) : Int := if s.size < 12 then 3 else if sealed s = s then 0 else 5
theorem check_any (s : ByteArray) (hs : s.size ≤ 1000000) (w : World) :
    Calls Tryz.prog 32 #[.string s] w fun e w' => e = .returned (.int .i64 (checked s)) ∧ Below w.heap.size w w' := by
  by_cases h12 : s.size < 12
  · have hq := Lib.hid (show checked s = 3 by unfold checked; rw [if_pos h12])
    go_enter Tryz.func32, Tryz.ntmps32
    go_wp2_with (go_at_call 24; refine (seal_short _ h12 _).mono ?_; rintro e w' ⟨rfl, rfl⟩)
    go_ret
    exact ⟨ret_i64 hq.out.symm, Below.refl _ _⟩
  · by_cases he : sealed s = s
    · have hq := Lib.hid (show checked s = 0 by unfold checked; rw [if_neg h12, if_pos he])
      have hd := eqB_true he
      clear he
      go_enter Tryz.func32, Tryz.ntmps32
      go_wp2_with (go_at_call 24; refine (seal_any _ (by omega) hs _).mono ?_; rintro e w' ⟨rfl, hb⟩)
      go_ret
      exact ⟨ret_i64 hq.out.symm, hb⟩
    · have hq := Lib.hid (show checked s = 5 by unfold checked; rw [if_neg h12, if_neg he])
      have hd := eqB_false he
      clear he
      go_enter Tryz.func32, Tryz.ntmps32
      go_wp2_with (go_at_call 24; refine (seal_any _ (by omega) hs _).mono ?_; rintro e w' ⟨rfl, hb⟩)
      go_ret
      exact ⟨ret_i64 hq.out.symm, hb⟩

end Go.Proofs.YtlbaockipeojhaaGreat
end
section
namespace Go.Proofs.YtlbaockipeojhaaGreat
open Go.RowKit
set_option linter.unusedVariables false

theorem ofNat_inj {a b : Nat} (ha : a < 256) (hb : b < 256) (h : UInt8.ofNat a = UInt8.ofNat b) : a = b := by
  have := congrArg UInt8.toNat h
  rw [UInt8.toNat_ofNat_of_lt' ha, UInt8.toNat_ofNat_of_lt' hb] at this
  exact this
end Go.Proofs.YtlbaockipeojhaaGreat
end
