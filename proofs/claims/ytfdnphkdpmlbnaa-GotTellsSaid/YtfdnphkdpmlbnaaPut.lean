/-
  Numbers of all sizes, written to a builder: contracts.
-/
import Derived.Test.YtfdnphkdpmlbnaaNum
namespace Go.Proofs.Ytfdnphkdpmlbnaa
open Go.RowKit
set_option linter.unusedVariables false

set_option maxHeartbeats 1000000 in
theorem write_8 (B b : Nat) (l : List UInt8) (n : Nat) (hn : n < 256) (w : World) (h : Bd w B b l) (hlen : l.length < 90000000) (hBw : B ≤ w.heap.size) :
    Calls Try.prog 49 #[.pointer (some ⟨b, 0, none⟩), .int .u8 (n : Int)] w fun e w' => e = .returned (.tuple #[]) ∧ Bd w' B b (l ++ [UInt8.ofNat n]) ∧ Wrote B b w w' := by
  have H0 := Lib.hid (fun W => bits_8 W)
  have HI := Lib.hid h
  have HW := Lib.hid (Wrote.refl B b w)
  have q0 : (0 : Int) ≤ (n : Int) := by omega
  have q1 : (n : Int) < 256 := by omega
  have HS := Lib.hid hBw
  clear h hBw
  go_enter Try.func49, Try.ntmps49
  go_wp2_with (go_at_call 69; ((with_reducible refine (H0.out _).mono ?_); rintro e w1 ⟨rfl, rfl⟩))
  refine wp_loop_rounds 2 ?_
  rw [rounds_succ]
  go_wp2_with fail
  refine (byte_any B b _ _ (UInt8.ofNat (n)) ?_ _ HI.out ?_ (Nat.le_trans HS.out HW.out.size)).mono ?_
  · rw [UInt8.toNat_ofNat']
    omega
  · (try simp only [List.length_append, List.length_cons, List.length_nil])
    omega
  rintro e w2 ⟨rfl, hi, hw⟩
  replace HI := Lib.hid hi
  replace HW := Lib.hid (HW.out.trans hw)
  clear hi hw
  go_wp2_with fail
  rw [rounds_succ]
  go_wp2_with fail
  go_end0
  exact ⟨rfl, by have := HI.out; simpa only [List.append_assoc, List.cons_append, List.nil_append] using this, HW.out⟩
set_option maxHeartbeats 1000000 in
theorem write_16 (B b : Nat) (l : List UInt8) (n : Nat) (hn : n < 65536) (w : World) (h : Bd w B b l) (hlen : l.length < 90000000) (hBw : B ≤ w.heap.size) :
    Calls Try.prog 50 #[.pointer (some ⟨b, 0, none⟩), .int .u16 (n : Int)] w fun e w' => e = .returned (.tuple #[]) ∧ Bd w' B b (l ++ be16 n) ∧ Wrote B b w w' := by
  have H0 := Lib.hid (fun W => bits_16 W)
  have HI := Lib.hid h
  have HW := Lib.hid (Wrote.refl B b w)
  have q0 : (0 : Int) ≤ (n : Int) := by omega
  have q1 : (n : Int) < 65536 := by omega
  have HS := Lib.hid hBw
  clear h hBw
  go_enter Try.func50, Try.ntmps50
  go_wp2_with (go_at_call 71; ((with_reducible refine (H0.out _).mono ?_); rintro e w1 ⟨rfl, rfl⟩))
  refine wp_loop_rounds 3 ?_
  rw [rounds_succ]
  go_wp2_with fail
  refine (byte_any B b _ _ (UInt8.ofNat (n / 256)) ?_ _ HI.out ?_ (Nat.le_trans HS.out HW.out.size)).mono ?_
  · rw [UInt8.toNat_ofNat']
    omega
  · (try simp only [List.length_append, List.length_cons, List.length_nil])
    omega
  rintro e w2 ⟨rfl, hi, hw⟩
  replace HI := Lib.hid hi
  replace HW := Lib.hid (HW.out.trans hw)
  clear hi hw
  go_wp2_with fail
  rw [rounds_succ]
  go_wp2_with fail
  refine (byte_any B b _ _ (UInt8.ofNat (n)) ?_ _ HI.out ?_ (Nat.le_trans HS.out HW.out.size)).mono ?_
  · rw [UInt8.toNat_ofNat']
    omega
  · (try simp only [List.length_append, List.length_cons, List.length_nil])
    omega
  rintro e w3 ⟨rfl, hi, hw⟩
  replace HI := Lib.hid hi
  replace HW := Lib.hid (HW.out.trans hw)
  clear hi hw
  go_wp2_with fail
  rw [rounds_succ]
  go_wp2_with fail
  go_end0
  exact ⟨rfl, by have := HI.out; simpa only [be16, List.append_assoc, List.cons_append, List.nil_append] using this, HW.out⟩
set_option maxHeartbeats 1000000 in
theorem write_32 (B b : Nat) (l : List UInt8) (n : Nat) (hn : n < 4294967296) (w : World) (h : Bd w B b l) (hlen : l.length < 90000000) (hBw : B ≤ w.heap.size) :
    Calls Try.prog 85 #[.pointer (some ⟨b, 0, none⟩), .int .u32 (n : Int)] w fun e w' => e = .returned (.tuple #[]) ∧ Bd w' B b (l ++ be32 n) ∧ Wrote B b w w' := by
  have H0 := Lib.hid (fun W => bits_32 W)
  have HI := Lib.hid h
  have HW := Lib.hid (Wrote.refl B b w)
  have q0 : (0 : Int) ≤ (n : Int) := by omega
  have q1 : (n : Int) < 4294967296 := by omega
  have HS := Lib.hid hBw
  clear h hBw
  go_enter Try.func85, Try.ntmps85
  go_wp2_with (go_at_call 92; ((with_reducible refine (H0.out _).mono ?_); rintro e w1 ⟨rfl, rfl⟩))
  refine wp_loop_rounds 5 ?_
  rw [rounds_succ]
  go_wp2_with fail
  refine (byte_any B b _ _ (UInt8.ofNat (n / 16777216)) ?_ _ HI.out ?_ (Nat.le_trans HS.out HW.out.size)).mono ?_
  · rw [UInt8.toNat_ofNat']
    omega
  · (try simp only [List.length_append, List.length_cons, List.length_nil])
    omega
  rintro e w2 ⟨rfl, hi, hw⟩
  replace HI := Lib.hid hi
  replace HW := Lib.hid (HW.out.trans hw)
  clear hi hw
  go_wp2_with fail
  rw [rounds_succ]
  go_wp2_with fail
  refine (byte_any B b _ _ (UInt8.ofNat (n / 65536)) ?_ _ HI.out ?_ (Nat.le_trans HS.out HW.out.size)).mono ?_
  · rw [UInt8.toNat_ofNat']
    omega
  · (try simp only [List.length_append, List.length_cons, List.length_nil])
    omega
  rintro e w3 ⟨rfl, hi, hw⟩
  replace HI := Lib.hid hi
  replace HW := Lib.hid (HW.out.trans hw)
  clear hi hw
  go_wp2_with fail
  rw [rounds_succ]
  go_wp2_with fail
  refine (byte_any B b _ _ (UInt8.ofNat (n / 256)) ?_ _ HI.out ?_ (Nat.le_trans HS.out HW.out.size)).mono ?_
  · rw [UInt8.toNat_ofNat']
    omega
  · (try simp only [List.length_append, List.length_cons, List.length_nil])
    omega
  rintro e w4 ⟨rfl, hi, hw⟩
  replace HI := Lib.hid hi
  replace HW := Lib.hid (HW.out.trans hw)
  clear hi hw
  go_wp2_with fail
  rw [rounds_succ]
  go_wp2_with fail
  refine (byte_any B b _ _ (UInt8.ofNat (n)) ?_ _ HI.out ?_ (Nat.le_trans HS.out HW.out.size)).mono ?_
  · rw [UInt8.toNat_ofNat']
    omega
  · (try simp only [List.length_append, List.length_cons, List.length_nil])
    omega
  rintro e w5 ⟨rfl, hi, hw⟩
  replace HI := Lib.hid hi
  replace HW := Lib.hid (HW.out.trans hw)
  clear hi hw
  go_wp2_with fail
  rw [rounds_succ]
  go_wp2_with fail
  go_end0
  exact ⟨rfl, by have := HI.out; simpa only [be32, List.append_assoc, List.cons_append, List.nil_append] using this, HW.out⟩
end Go.Proofs.Ytfdnphkdpmlbnaa
