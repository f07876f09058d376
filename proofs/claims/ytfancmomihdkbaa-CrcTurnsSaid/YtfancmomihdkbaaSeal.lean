/-
  Package crc's Seal and Check, and the document's: what each returns, whatever packet.
-/
import Derived.Test.YtfancmomihdkbaaRef
import Derived.Test.YtfancmomihdkbaaMem
import Derived.WalkSpells
import Derived.Laws.BytesString
import Derived.Deep.QuietTactic
import Derived.BigQuiet
namespace Go.Proofs.Ytfancmomihdkbaa
open Go.RowKit
set_option linter.unusedVariables false

/-- The four bytes of a number, the lowest first. -/
def four (n : Nat) : ByteArray := ⟨#[UInt8.ofNat (n % 256), UInt8.ofNat (n / 256 % 256), UInt8.ofNat (n / 65536 % 256), UInt8.ofNat (n / 16777216)]⟩
theorem four_of (n : Nat) : (⟨#[UInt8.ofNat ((n : Int) % 256).toNat, UInt8.ofNat ((n : Int) / 256 % 256).toNat, UInt8.ofNat ((n : Int) / 65536 % 256).toNat, UInt8.ofNat ((n : Int) / 16777216).toNat]⟩ : ByteArray) = four n := by
  unfold four
  have e1 : ((n : Int) % 256).toNat = n % 256 := by omega
  have e2 : ((n : Int) / 256 % 256).toNat = n / 256 % 256 := by omega
  have e3 : ((n : Int) / 65536 % 256).toNat = n / 65536 % 256 := by omega
  have e4 : ((n : Int) / 16777216).toNat = n / 16777216 := by omega
  rw [e1, e2, e3, e4]
/-- Four bytes of a row just made, as a text. -/
theorem conv4 (W : World) (a b c d : Int) : (convert 32 9 (.slice (some ⟨W.heap.size, 0, none⟩) 4 4)).run Try.prog (W.alloc (.cells #[.int .u8 a, .int .u8 b, .int .u8 c, .int .u8 d] 5))
    = .ok (.string ⟨#[UInt8.ofNat a.toNat, UInt8.ofNat b.toNat, UInt8.ofNat c.toNat, UInt8.ofNat d.toNat]⟩) (W.alloc (.cells #[.int .u8 a, .int .u8 b, .int .u8 c, .int .u8 d] 5)) := by
  rw [run_convert_bytes_string _ _ _ 5 _ _ _ Try.underlying32 Try.underlying5 Try.underlying9]
  rw [run_bytesToString _ _ 4 4 [a, b, c, d]]
  · rfl
  · have := run_loadCells_list (P := Try.prog) (W.alloc (.cells #[.int .u8 a, .int .u8 b, .int .u8 c, .int .u8 d] 5)) ⟨W.heap.size, 0, none⟩ ([a, b, c, d].map (Value.int .u8)) (fun j v hv => by
      have hadd : (⟨W.heap.size, 0, none⟩ : Addr).add j = ⟨W.heap.size, j, none⟩ := by unfold Addr.add; split <;> simp_all
      rw [hadd, cell_of_row _ _ j _ _ (0, 0) (heap_alloc_new W _)]
      simpa using hv)
    exact this
theorem conv4_drew (W : World) (N : Nat) (a b c d : Int) : (convert 32 9 (.slice (some ⟨W.heap.size, 0, none⟩) 4 4)).run Try.prog ((W.alloc (.cells #[.int .u8 a, .int .u8 b, .int .u8 c, .int .u8 d] 5)).drewN N)
    = .ok (.string ⟨#[UInt8.ofNat a.toNat, UInt8.ofNat b.toNat, UInt8.ofNat c.toNat, UInt8.ofNat d.toNat]⟩) ((W.alloc (.cells #[.int .u8 a, .int .u8 b, .int .u8 c, .int .u8 d] 5)).drewN N) := by
  rw [run_convert_bytes_string _ _ _ 5 _ _ _ Try.underlying32 Try.underlying5 Try.underlying9]
  rw [run_bytesToString _ _ 4 4 [a, b, c, d]]
  · rfl
  · have := run_loadCells_list (P := Try.prog) ((W.alloc (.cells #[.int .u8 a, .int .u8 b, .int .u8 c, .int .u8 d] 5)).drewN N) ⟨W.heap.size, 0, none⟩ ([a, b, c, d].map (Value.int .u8)) (fun j v hv => by
      have hadd : (⟨W.heap.size, 0, none⟩ : Addr).add j = ⟨W.heap.size, j, none⟩ := by unfold Addr.add; split <;> simp_all
      rw [hadd]
      show (W.alloc (.cells #[.int .u8 a, .int .u8 b, .int .u8 c, .int .u8 d] 5)).cell? _ = _
      rw [cell_of_row _ _ j _ _ (0, 0) (heap_alloc_new W _)]
      simpa using hv)
    exact this
theorem ret_string {a b : ByteArray} (h : a = b) : Ending.returned (.string a) = .returned (.string b) := by rw [h]
theorem lowest_any (n : Nat) (hn : n < 4294967296) (w : World) :
    Calls Try.prog 19 #[.int .u32 (n : Int)] w fun e w' => e = .returned (.string (four n)) ∧ Below w.heap.size w w' := by
  have hk := conv4
  go_enter Try.func19, Try.ntmps19
  go_wp2_with fail
  go_ret
  exact ⟨ret_string (four_of n), (Below.refl _ _).alloc (Nat.le_refl _) _⟩

/-- A packet with its sum put in. -/
def sealed (s : ByteArray) : ByteArray := s.extract 0 8 ++ four (sumOf (s.extract 0 8 ++ ⟨#[0, 0, 0, 0]⟩ ++ s.extract 12 s.size)) ++ s.extract 12 s.size
theorem blank_size (s f : ByteArray) (h12 : 12 ≤ s.size) (hf : f.size = 4) : (s.extract 0 8 ++ f ++ s.extract 12 s.size).size = s.size := by
  simp only [ByteArray.size_append, ByteArray.size_extract, hf]; omega
theorem four_size (n : Nat) : (four n).size = 4 := rfl
theorem sealed_size (s : ByteArray) (h12 : 12 ≤ s.size) : (sealed s).size = s.size := blank_size s _ h12 (four_size _)
theorem eqB_true {a b : ByteArray} (h : a = b) : (a.toList == b.toList) = true := by subst h; simp
theorem eqB_false {a b : ByteArray} (h : a ≠ b) : (a.toList == b.toList) = false := by
  rw [ByteArray.toList_eq, ByteArray.toList_eq]
  exact beq_eq_false_iff_ne.2 fun e => h (ByteArray.ext (Array.toList_inj.1 e))
theorem ret_i64 {a b : Int} (h : a = b) : Ending.returned (.int .i64 a) = .returned (.int .i64 b) := by rw [h]
theorem seal_any (s : ByteArray) (h12 : 12 ≤ s.size) (hs : s.size ≤ 1000000) (w : World) :
    Calls Try.prog 14 #[.string s] w fun e w' => e = .returned (.tuple #[.string (sealed s), .int .i64 0]) ∧ Below w.heap.size w w' := by
  have hf := four_size
  have hm8 : min 8 s.size = 8 := by omega
  go_enter Try.func14, Try.ntmps14
  go_wp2_with fail
  go_quiet (fail)
  go_wp2_with (first
    | (go_at_call 12; refine (sum_any _ (by rw [blank_size s _ h12 rfl]; unfold maxLen; omega) _).mono ?_; rintro e w1 ⟨rfl, hb1⟩)
    | (go_at_call 19; refine (lowest_any _ (sumOf_lt _) _).mono ?_; rintro e w2 ⟨rfl, hb2⟩))
  go_ret2
  exact ⟨rfl, ((below_drewN (Below.refl w.heap.size w) nq).trans hb1).trans (hb2.mono hb1.size)⟩
theorem seal_short (s : ByteArray) (h12 : s.size < 12) (w : World) :
    Calls Try.prog 14 #[.string s] w fun e w' => e = .returned (.tuple #[.string ⟨#[]⟩, .int .i64 3]) ∧ w = w' := by
  go_enter Try.func14, Try.ntmps14
  go_wp2_with fail
  go_ret2
  exact ⟨rfl, rfl⟩
/-- Whether a packet has its sum in it. -/
def checked (s : ByteArray) : Int := if s.size < 12 then 3 else if sealed s = s then 0 else 5
theorem check_any (s : ByteArray) (hs : s.size ≤ 1000000) (w : World) :
    Calls Try.prog 16 #[.string s] w fun e w' => e = .returned (.int .i64 (checked s)) ∧ Below w.heap.size w w' := by
  by_cases h12 : s.size < 12
  · have hq := Lib.hid (show checked s = 3 by unfold checked; rw [if_pos h12])
    go_enter Try.func16, Try.ntmps16
    go_wp2_with (go_at_call 14; refine (seal_short _ h12 _).mono ?_; rintro e w' ⟨rfl, rfl⟩)
    go_ret
    exact ⟨ret_i64 hq.out.symm, Below.refl _ _⟩
  · by_cases he : sealed s = s
    · have hq := Lib.hid (show checked s = 0 by unfold checked; rw [if_neg h12, if_pos he])
      have hd := eqB_true he
      clear he
      go_enter Try.func16, Try.ntmps16
      go_wp2_with (go_at_call 14; refine (seal_any _ (by omega) hs _).mono ?_; rintro e w' ⟨rfl, hb⟩)
      go_ret
      exact ⟨ret_i64 hq.out.symm, hb⟩
    · have hq := Lib.hid (show checked s = 5 by unfold checked; rw [if_neg h12, if_neg he])
      have hd := eqB_false he
      clear he
      go_enter Try.func16, Try.ntmps16
      go_wp2_with (go_at_call 14; refine (seal_any _ (by omega) hs _).mono ?_; rintro e w' ⟨rfl, hb⟩)
      go_ret
      exact ⟨ret_i64 hq.out.symm, hb⟩

/-! ### The document's answer -/
theorem rseal_short (s : ByteArray) (h12 : s.size < 12) (w : World) :
    Calls Try.prog 15 #[.string s] w fun e w' => e = .returned (.tuple #[.string ⟨#[]⟩, .int .i64 3]) ∧ w = w' := by
  go_enter Try.func15, Try.ntmps15
  go_wp2_with fail
  go_ret2
  exact ⟨rfl, rfl⟩
theorem rseal_any (s : ByteArray) (h12 : 12 ≤ s.size) (hs : s.size ≤ 1000000) (w : World) :
    Calls Try.prog 15 #[.string s] w fun e w' => e = .returned (.tuple #[.string (sealed s), .int .i64 0]) ∧ Below w.heap.size w w' := by
  have hf := four_size
  have hm8 : min 8 s.size = 8 := by omega
  go_enter Try.func15, Try.ntmps15
  go_wp2_with fail
  have hL : (s.extract 0 8 ++ ⟨#[0, 0, 0, 0]⟩ ++ s.extract 12 s.size).size ≤ maxLen := by rw [blank_size s _ h12 rfl]; unfold maxLen; omega
  have HL := Lib.hid hL
  clear hL
  go_quiet ((go_at_call 13; exact quiet_left (rsum_any _ HL.out _)))
  have hlt := sumOf_lt (s.extract 0 8 ++ ⟨#[0, 0, 0, 0]⟩ ++ s.extract 12 s.size)
  have HS : Hid (sealed s = s.extract 0 8 ++ four (sumOf (s.extract 0 8 ++ ⟨#[0, 0, 0, 0]⟩ ++ s.extract 12 s.size)) ++ s.extract 12 s.size) := Lib.hid rfl
  generalize sumOf (s.extract 0 8 ++ ⟨#[0, 0, 0, 0]⟩ ++ s.extract 12 s.size) = n at *
  go_wp2_with fail
  have hk := fun N => conv4_drew (w.drewN nq) N ((n : Int) % 256) ((n : Int) / 256 % 256) ((n : Int) / 65536 % 256) ((n : Int) / 16777216)
  rw [four_of] at hk
  have hB : Below w.heap.size w ((w.drewN nq).alloc (.cells #[.int .u8 ((n : Int) % 256), .int .u8 ((n : Int) / 256 % 256), .int .u8 ((n : Int) / 65536 % 256), .int .u8 ((n : Int) / 16777216)] 5)) :=
    (below_drewN (Below.refl w.heap.size w) nq).alloc (Nat.le_refl _) _
  have HB := Lib.hid hB
  clear hB hlt
  have hsz : (w.drewN nq).heap.size = w.heap.size := rfl
  rw [hsz] at hk
  clear hsz
  generalize ((w.drewN nq).alloc (.cells #[.int .u8 ((n : Int) % 256), .int .u8 ((n : Int) / 256 % 256), .int .u8 ((n : Int) / 65536 % 256), .int .u8 ((n : Int) / 16777216)] 5)) = wb at *
  go_quiet (fail)
  go_wp2_with fail
  go_ret2
  exact ⟨by rw [HS.out]; rfl, below_drewN HB.out _⟩
theorem rcheck_any (s : ByteArray) (hs : s.size ≤ 1000000) (w : World) :
    Calls Try.prog 17 #[.string s] w fun e w' => e = .returned (.int .i64 (checked s)) ∧ Below w.heap.size w w' := by
  by_cases h12 : s.size < 12
  · have hq := Lib.hid (show checked s = 3 by unfold checked; rw [if_pos h12])
    go_enter Try.func17, Try.ntmps17
    go_wp2_with (go_at_call 15; refine (rseal_short _ h12 _).mono ?_; rintro e w' ⟨rfl, rfl⟩)
    go_ret
    exact ⟨ret_i64 hq.out.symm, Below.refl _ _⟩
  · by_cases he : sealed s = s
    · have hq := Lib.hid (show checked s = 0 by unfold checked; rw [if_neg h12, if_pos he])
      have hd := eqB_true he
      clear he
      go_enter Try.func17, Try.ntmps17
      go_wp2_with (go_at_call 15; refine (rseal_any _ (by omega) hs _).mono ?_; rintro e w' ⟨rfl, hb⟩)
      go_ret
      exact ⟨ret_i64 hq.out.symm, hb⟩
    · have hq := Lib.hid (show checked s = 5 by unfold checked; rw [if_neg h12, if_neg he])
      have hd := eqB_false he
      clear he
      go_enter Try.func17, Try.ntmps17
      go_wp2_with (go_at_call 15; refine (rseal_any _ (by omega) hs _).mono ?_; rintro e w' ⟨rfl, hb⟩)
      go_ret
      exact ⟨ret_i64 hq.out.symm, hb⟩

end Go.Proofs.Ytfancmomihdkbaa
