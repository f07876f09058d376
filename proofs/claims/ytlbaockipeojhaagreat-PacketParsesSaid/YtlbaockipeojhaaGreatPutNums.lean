/-
  Numbers of all sizes, written to a builder: contracts. The numbers of a chunk's type, written to a builder: contracts. What a Sack tells of gaps and of what came twice, written: contracts. The value of a chunk: contracts.
-/
import Derived.Test.YtlbaockipeojhaaGreatCkMem
import Derived.Test.YtlbaockipeojhaaGreatCk
import Derived.Test.YtlbaockipeojhaaGreatRow
import Derived.StillTailTactics
section
namespace Go.Proofs.YtlbaockipeojhaaGreat
open Go.RowKit
set_option linter.unusedVariables false

set_option maxHeartbeats 1000000 in
theorem write_8 (B b : Nat) (l : List UInt8) (n : Nat) (hn : n < 256) (w : World) (h : Bd w B b l) (hlen : l.length < 90000000) (hBw : B ≤ w.heap.size) :
    Calls Tryz.prog 46 #[.pointer (some ⟨b, 0, none⟩), .int .u8 (n : Int)] w fun e w' => e = .returned (.tuple #[]) ∧ Bd w' B b (l ++ [UInt8.ofNat n]) ∧ Wrote B b w w' := by
  have H0 := Lib.hid (fun W => bits_8 W)
  have HI := Lib.hid h
  have HW := Lib.hid (Wrote.refl B b w)
  have q0 : (0 : Int) ≤ (n : Int) := by omega
  have q1 : (n : Int) < 256 := by omega
  have HS := Lib.hid hBw
  clear h hBw
  go_enter Tryz.func46, Tryz.ntmps46
  go_wp2_with (go_at_call 80; ((with_reducible refine (H0.out _).mono ?_); rintro e w1 ⟨rfl, rfl⟩))
  refine wp_loop_rounds 2 ?_
  rw [rounds_succ]
  go_wp2_with fail
  refine (byte_any B b _ _ (UInt8.ofNat (n)) ?_ _ HI.out ?_ (Nat.le_trans HS.out HW.out.size)).mono ?_
  · rw [UInt8.toNat_ofNat']
    omega
  · (try simp only [List.length_append, List.length_cons, List.length_nil])
    omega
  rintro e w2 ⟨rfl, hi, hw⟩
  replace HI := Lib.hid hi
  replace HW := Lib.hid (HW.out.trans hw)
  clear hi hw
  go_wp2_with fail
  rw [rounds_succ]
  go_wp2_with fail
  go_end0
  exact ⟨rfl, by have := HI.out; simpa only [List.append_assoc, List.cons_append, List.nil_append] using this, HW.out⟩
set_option maxHeartbeats 1000000 in
theorem write_16 (B b : Nat) (l : List UInt8) (n : Nat) (hn : n < 65536) (w : World) (h : Bd w B b l) (hlen : l.length < 90000000) (hBw : B ≤ w.heap.size) :
    Calls Tryz.prog 47 #[.pointer (some ⟨b, 0, none⟩), .int .u16 (n : Int)] w fun e w' => e = .returned (.tuple #[]) ∧ Bd w' B b (l ++ be16 n) ∧ Wrote B b w w' := by
  have H0 := Lib.hid (fun W => bits_16 W)
  have HI := Lib.hid h
  have HW := Lib.hid (Wrote.refl B b w)
  have q0 : (0 : Int) ≤ (n : Int) := by omega
  have q1 : (n : Int) < 65536 := by omega
  have HS := Lib.hid hBw
  clear h hBw
  go_enter Tryz.func47, Tryz.ntmps47
  go_wp2_with (go_at_call 82; ((with_reducible refine (H0.out _).mono ?_); rintro e w1 ⟨rfl, rfl⟩))
  refine wp_loop_rounds 3 ?_
  rw [rounds_succ]
  go_wp2_with fail
  refine (byte_any B b _ _ (UInt8.ofNat (n / 256)) ?_ _ HI.out ?_ (Nat.le_trans HS.out HW.out.size)).mono ?_
  · rw [UInt8.toNat_ofNat']
    omega
  · (try simp only [List.length_append, List.length_cons, List.length_nil])
    omega
  rintro e w2 ⟨rfl, hi, hw⟩
  replace HI := Lib.hid hi
  replace HW := Lib.hid (HW.out.trans hw)
  clear hi hw
  go_wp2_with fail
  rw [rounds_succ]
  go_wp2_with fail
  refine (byte_any B b _ _ (UInt8.ofNat (n)) ?_ _ HI.out ?_ (Nat.le_trans HS.out HW.out.size)).mono ?_
  · rw [UInt8.toNat_ofNat']
    omega
  · (try simp only [List.length_append, List.length_cons, List.length_nil])
    omega
  rintro e w3 ⟨rfl, hi, hw⟩
  replace HI := Lib.hid hi
  replace HW := Lib.hid (HW.out.trans hw)
  clear hi hw
  go_wp2_with fail
  rw [rounds_succ]
  go_wp2_with fail
  go_end0
  exact ⟨rfl, by have := HI.out; simpa only [be16, List.append_assoc, List.cons_append, List.nil_append] using this, HW.out⟩
set_option maxHeartbeats 1000000 in
theorem write_32 (B b : Nat) (l : List UInt8) (n : Nat) (hn : n < 4294967296) (w : World) (h : Bd w B b l) (hlen : l.length < 90000000) (hBw : B ≤ w.heap.size) :
    Calls Tryz.prog 107 #[.pointer (some ⟨b, 0, none⟩), .int .u32 (n : Int)] w fun e w' => e = .returned (.tuple #[]) ∧ Bd w' B b (l ++ be32 n) ∧ Wrote B b w w' := by
  have H0 := Lib.hid (fun W => bits_32 W)
  have HI := Lib.hid h
  have HW := Lib.hid (Wrote.refl B b w)
  have q0 : (0 : Int) ≤ (n : Int) := by omega
  have q1 : (n : Int) < 4294967296 := by omega
  have HS := Lib.hid hBw
  clear h hBw
  go_enter Tryz.func107, Tryz.ntmps107
  go_wp2_with (go_at_call 120; ((with_reducible refine (H0.out _).mono ?_); rintro e w1 ⟨rfl, rfl⟩))
  refine wp_loop_rounds 5 ?_
  rw [rounds_succ]
  go_wp2_with fail
  refine (byte_any B b _ _ (UInt8.ofNat (n / 16777216)) ?_ _ HI.out ?_ (Nat.le_trans HS.out HW.out.size)).mono ?_
  · rw [UInt8.toNat_ofNat']
    omega
  · (try simp only [List.length_append, List.length_cons, List.length_nil])
    omega
  rintro e w2 ⟨rfl, hi, hw⟩
  replace HI := Lib.hid hi
  replace HW := Lib.hid (HW.out.trans hw)
  clear hi hw
  go_wp2_with fail
  rw [rounds_succ]
  go_wp2_with fail
  refine (byte_any B b _ _ (UInt8.ofNat (n / 65536)) ?_ _ HI.out ?_ (Nat.le_trans HS.out HW.out.size)).mono ?_
  · rw [UInt8.toNat_ofNat']
    omega
  · (try simp only [List.length_append, List.length_cons, List.length_nil])
    omega
  rintro e w3 ⟨rfl, hi, hw⟩
  replace HI := Lib.hid hi
  replace HW := Lib.hid (HW.out.trans hw)
  clear hi hw
  go_wp2_with fail
  rw [rounds_succ]
  go_wp2_with fail
  refine (byte_any B b _ _ (UInt8.ofNat (n / 256)) ?_ _ HI.out ?_ (Nat.le_trans HS.out HW.out.size)).mono ?_
  · rw [UInt8.toNat_ofNat']
    omega
  · (try simp only [List.length_append, List.length_cons, List.length_nil])
    omega
  rintro e w4 ⟨rfl, hi, hw⟩
  replace HI := Lib.hid hi
  replace HW := Lib.hid (HW.out.trans hw)
  clear hi hw
  go_wp2_with fail
  rw [rounds_succ]
  go_wp2_with fail
  refine (byte_any B b _ _ (UInt8.ofNat (n)) ?_ _ HI.out ?_ (Nat.le_trans HS.out HW.out.size)).mono ?_
  · rw [UInt8.toNat_ofNat']
    omega
  · (try simp only [List.length_append, List.length_cons, List.length_nil])
    omega
  rintro e w5 ⟨rfl, hi, hw⟩
  replace HI := Lib.hid hi
  replace HW := Lib.hid (HW.out.trans hw)
  clear hi hw
  go_wp2_with fail
  rw [rounds_succ]
  go_wp2_with fail
  go_end0
  exact ⟨rfl, by have := HI.out; simpa only [be32, List.append_assoc, List.cons_append, List.nil_append] using this, HW.out⟩
end Go.Proofs.YtlbaockipeojhaaGreat
end
section
namespace Go.Proofs.YtlbaockipeojhaaGreat
open Go.RowKit
set_option linter.unusedVariables false
set_option linter.unusedSimpArgs false
set_option maxRecDepth 100000

theorem Bd.drewN {w : World} {B b : Nat} {l : List UInt8} (h : Bd w B b l) (m : Nat) : Bd (w.drewN m) B b l := h
theorem drewN_wrote {B b : Nat} {a c : World} (m : Nat) (h : Wrote B b (a.drewN m) c) : Wrote B b a c := ⟨(below_drewN (Below.refl _ _) m).trans h.1, h.2⟩
set_option maxHeartbeats 1000000 in
theorem put_32 (B bb b k p : Nat) (l : List UInt8) (n : Nat) (hn : n < 4294967296) (w : World) (h : Bd w B bb l) (hlen : l.length < 90000000) (hBw : B ≤ w.heap.size) (cp : w.cell? ⟨p, 0, none⟩ = some (.pointer (some ⟨bb, 0, none⟩))) (cn : w.cell? ⟨b, k, none⟩ = some (.int .u32 (n : Int))) :
    Calls Tryz.prog 106 #[.pointer (some ⟨b, k, none⟩), .pointer (some ⟨p, 0, none⟩)] w fun e w' => e = .returned (.tuple #[]) ∧ Bd w' B bb (l ++ be32 n) ∧ Wrote B bb w w' := by
  have H := Lib.hid (fun m => write_32 B bb l n hn (w.drewN m) (h.drewN m) hlen hBw)
  clear h hBw
  go_enter Tryz.func106, Tryz.ntmps106
  go_wp2_with fail
  go_still_tail 4, (by kernel_rfl)
  go_wp2_with fail
  refine (H.out 1).mono ?_
  rintro e w1 ⟨rfl, h1, h2⟩
  have HE := Lib.hid (And.intro h1 (drewN_wrote 1 h2))
  clear h1 h2
  go_wp2_with fail
  go_end0
  exact ⟨rfl, HE.out⟩
set_option maxHeartbeats 1000000 in
theorem put_16 (B bb b k p : Nat) (l : List UInt8) (n : Nat) (hn : n < 65536) (w : World) (h : Bd w B bb l) (hlen : l.length < 90000000) (hBw : B ≤ w.heap.size) (cp : w.cell? ⟨p, 0, none⟩ = some (.pointer (some ⟨bb, 0, none⟩))) (cn : w.cell? ⟨b, k, none⟩ = some (.int .u16 (n : Int))) :
    Calls Tryz.prog 108 #[.pointer (some ⟨b, k, none⟩), .pointer (some ⟨p, 0, none⟩)] w fun e w' => e = .returned (.tuple #[]) ∧ Bd w' B bb (l ++ be16 n) ∧ Wrote B bb w w' := by
  have H := Lib.hid (fun m => write_16 B bb l n hn (w.drewN m) (h.drewN m) hlen hBw)
  clear h hBw
  go_enter Tryz.func108, Tryz.ntmps108
  go_wp2_with fail
  go_still_tail 4, (by kernel_rfl)
  go_wp2_with fail
  refine (H.out 1).mono ?_
  rintro e w1 ⟨rfl, h1, h2⟩
  have HE := Lib.hid (And.intro h1 (drewN_wrote 1 h2))
  clear h1 h2
  go_wp2_with fail
  go_end0
  exact ⟨rfl, HE.out⟩
set_option maxHeartbeats 4000000 in
theorem numbers_put (B bb b p1 p2 : Nat) (l : List UInt8) (c : Ck) (hw : WfC c) (g d i : Value) (w : World) (h : Bd w B bb l) (hlen : l.length < 80000000) (hBw : B ≤ w.heap.size)
    (hb : w.heap[b]? = some (.cells (cellsC c g d i) 52 (0, 0))) (h1 : w.heap[p1]? = some (.cells #[.pointer (some ⟨bb, 0, none⟩)] 56 (0, 0))) (h2 : w.heap[p2]? = some (.cells #[.pointer (some ⟨bb, 0, none⟩)] 56 (0, 0))) (n0 : b ≠ bb) (n1 : p1 ≠ bb) (n2 : p2 ≠ bb) :
    Calls Tryz.prog 75 #[.pointer (some ⟨b, 0, none⟩), .func (.func 106) #[] #[.pointer (some ⟨p1, 0, none⟩)], .func (.func 108) #[] #[.pointer (some ⟨p2, 0, none⟩)]] w fun e w' =>
      e = .returned (.tuple #[]) ∧ Bd w' B bb (l ++ numsL c) ∧ Wrote B bb w w' := by
  obtain ⟨ty, fl, tsn, tag, win, ppid, st, ssn, outs, ins, gaps, dups, items, text⟩ := c
  have c0 : w.cell? ⟨b, 0, none⟩ = some (.int .i64 ty) := by rw [cell_in hb]; rfl
  have HW := Lib.hid hw
  have HX := Lib.hid hb
  have HP1 := Lib.hid h1
  have HP2 := Lib.hid h2
  have HI := Lib.hid h
  have HS := Lib.hid hBw
  have N0 := Lib.hid n0
  have N1 := Lib.hid n1
  have N2 := Lib.hid n2
  have HR := Lib.hid (Wrote.refl B bb w)
  clear h hb h1 h2 hBw n0 n1 n2 hw
  by_cases t0 : ty = 0
  · subst t0
    go_enter Tryz.func75, Tryz.ntmps75
    go_wp2_with fail
    refine (put_32 B bb b 2 _ _ _ HW.out.tsn _ HI.out (by (try simp only [List.length_append, be32_length, be16_length]); omega) (Nat.le_trans HS.out HR.out.size) (by rw [cell_in HP1.out]; rfl) (by rw [cell_in HX.out]; rfl)).mono ?_
    rintro e w1 ⟨rfl, hi, hr⟩
    replace HX := Lib.hid (hr.block HX.out N0.out (by decide))
    replace HP1 := Lib.hid (hr.block HP1.out N1.out (by decide))
    replace HP2 := Lib.hid (hr.block HP2.out N2.out (by decide))
    replace HI := Lib.hid hi
    replace HR := Lib.hid (HR.out.trans hr)
    clear hi hr
    go_wp2_with fail
    refine (put_16 B bb b 6 _ _ _ HW.out.stream _ HI.out (by (try simp only [List.length_append, be32_length, be16_length]); omega) (Nat.le_trans HS.out HR.out.size) (by rw [cell_in HP2.out]; rfl) (by rw [cell_in HX.out]; rfl)).mono ?_
    rintro e w2 ⟨rfl, hi, hr⟩
    replace HX := Lib.hid (hr.block HX.out N0.out (by decide))
    replace HP1 := Lib.hid (hr.block HP1.out N1.out (by decide))
    replace HP2 := Lib.hid (hr.block HP2.out N2.out (by decide))
    replace HI := Lib.hid hi
    replace HR := Lib.hid (HR.out.trans hr)
    clear hi hr
    go_wp2_with fail
    refine (put_16 B bb b 7 _ _ _ HW.out.ssn _ HI.out (by (try simp only [List.length_append, be32_length, be16_length]); omega) (Nat.le_trans HS.out HR.out.size) (by rw [cell_in HP2.out]; rfl) (by rw [cell_in HX.out]; rfl)).mono ?_
    rintro e w3 ⟨rfl, hi, hr⟩
    replace HX := Lib.hid (hr.block HX.out N0.out (by decide))
    replace HP1 := Lib.hid (hr.block HP1.out N1.out (by decide))
    replace HP2 := Lib.hid (hr.block HP2.out N2.out (by decide))
    replace HI := Lib.hid hi
    replace HR := Lib.hid (HR.out.trans hr)
    clear hi hr
    go_wp2_with fail
    refine (put_32 B bb b 5 _ _ _ HW.out.ppid _ HI.out (by (try simp only [List.length_append, be32_length, be16_length]); omega) (Nat.le_trans HS.out HR.out.size) (by rw [cell_in HP1.out]; rfl) (by rw [cell_in HX.out]; rfl)).mono ?_
    rintro e w4 ⟨rfl, hi, hr⟩
    replace HX := Lib.hid (hr.block HX.out N0.out (by decide))
    replace HP1 := Lib.hid (hr.block HP1.out N1.out (by decide))
    replace HP2 := Lib.hid (hr.block HP2.out N2.out (by decide))
    replace HI := Lib.hid hi
    replace HR := Lib.hid (HR.out.trans hr)
    clear hi hr
    go_wp2_with fail
    go_end0
    exact ⟨rfl, by have := HI.out; simpa [numsL, List.append_assoc] using this, HR.out⟩
  by_cases t1 : ty = 1
  · subst t1
    go_enter Tryz.func75, Tryz.ntmps75
    go_wp2_with fail
    refine (put_32 B bb b 3 _ _ _ HW.out.tag _ HI.out (by (try simp only [List.length_append, be32_length, be16_length]); omega) (Nat.le_trans HS.out HR.out.size) (by rw [cell_in HP1.out]; rfl) (by rw [cell_in HX.out]; rfl)).mono ?_
    rintro e w1 ⟨rfl, hi, hr⟩
    replace HX := Lib.hid (hr.block HX.out N0.out (by decide))
    replace HP1 := Lib.hid (hr.block HP1.out N1.out (by decide))
    replace HP2 := Lib.hid (hr.block HP2.out N2.out (by decide))
    replace HI := Lib.hid hi
    replace HR := Lib.hid (HR.out.trans hr)
    clear hi hr
    go_wp2_with fail
    refine (put_32 B bb b 4 _ _ _ HW.out.window _ HI.out (by (try simp only [List.length_append, be32_length, be16_length]); omega) (Nat.le_trans HS.out HR.out.size) (by rw [cell_in HP1.out]; rfl) (by rw [cell_in HX.out]; rfl)).mono ?_
    rintro e w2 ⟨rfl, hi, hr⟩
    replace HX := Lib.hid (hr.block HX.out N0.out (by decide))
    replace HP1 := Lib.hid (hr.block HP1.out N1.out (by decide))
    replace HP2 := Lib.hid (hr.block HP2.out N2.out (by decide))
    replace HI := Lib.hid hi
    replace HR := Lib.hid (HR.out.trans hr)
    clear hi hr
    go_wp2_with fail
    refine (put_16 B bb b 8 _ _ _ HW.out.outs _ HI.out (by (try simp only [List.length_append, be32_length, be16_length]); omega) (Nat.le_trans HS.out HR.out.size) (by rw [cell_in HP2.out]; rfl) (by rw [cell_in HX.out]; rfl)).mono ?_
    rintro e w3 ⟨rfl, hi, hr⟩
    replace HX := Lib.hid (hr.block HX.out N0.out (by decide))
    replace HP1 := Lib.hid (hr.block HP1.out N1.out (by decide))
    replace HP2 := Lib.hid (hr.block HP2.out N2.out (by decide))
    replace HI := Lib.hid hi
    replace HR := Lib.hid (HR.out.trans hr)
    clear hi hr
    go_wp2_with fail
    refine (put_16 B bb b 9 _ _ _ HW.out.ins _ HI.out (by (try simp only [List.length_append, be32_length, be16_length]); omega) (Nat.le_trans HS.out HR.out.size) (by rw [cell_in HP2.out]; rfl) (by rw [cell_in HX.out]; rfl)).mono ?_
    rintro e w4 ⟨rfl, hi, hr⟩
    replace HX := Lib.hid (hr.block HX.out N0.out (by decide))
    replace HP1 := Lib.hid (hr.block HP1.out N1.out (by decide))
    replace HP2 := Lib.hid (hr.block HP2.out N2.out (by decide))
    replace HI := Lib.hid hi
    replace HR := Lib.hid (HR.out.trans hr)
    clear hi hr
    go_wp2_with fail
    refine (put_32 B bb b 2 _ _ _ HW.out.tsn _ HI.out (by (try simp only [List.length_append, be32_length, be16_length]); omega) (Nat.le_trans HS.out HR.out.size) (by rw [cell_in HP1.out]; rfl) (by rw [cell_in HX.out]; rfl)).mono ?_
    rintro e w5 ⟨rfl, hi, hr⟩
    replace HX := Lib.hid (hr.block HX.out N0.out (by decide))
    replace HP1 := Lib.hid (hr.block HP1.out N1.out (by decide))
    replace HP2 := Lib.hid (hr.block HP2.out N2.out (by decide))
    replace HI := Lib.hid hi
    replace HR := Lib.hid (HR.out.trans hr)
    clear hi hr
    go_wp2_with fail
    go_end0
    exact ⟨rfl, by have := HI.out; simpa [numsL, List.append_assoc] using this, HR.out⟩
  by_cases t2 : ty = 2
  · subst t2
    go_enter Tryz.func75, Tryz.ntmps75
    go_wp2_with fail
    refine (put_32 B bb b 3 _ _ _ HW.out.tag _ HI.out (by (try simp only [List.length_append, be32_length, be16_length]); omega) (Nat.le_trans HS.out HR.out.size) (by rw [cell_in HP1.out]; rfl) (by rw [cell_in HX.out]; rfl)).mono ?_
    rintro e w1 ⟨rfl, hi, hr⟩
    replace HX := Lib.hid (hr.block HX.out N0.out (by decide))
    replace HP1 := Lib.hid (hr.block HP1.out N1.out (by decide))
    replace HP2 := Lib.hid (hr.block HP2.out N2.out (by decide))
    replace HI := Lib.hid hi
    replace HR := Lib.hid (HR.out.trans hr)
    clear hi hr
    go_wp2_with fail
    refine (put_32 B bb b 4 _ _ _ HW.out.window _ HI.out (by (try simp only [List.length_append, be32_length, be16_length]); omega) (Nat.le_trans HS.out HR.out.size) (by rw [cell_in HP1.out]; rfl) (by rw [cell_in HX.out]; rfl)).mono ?_
    rintro e w2 ⟨rfl, hi, hr⟩
    replace HX := Lib.hid (hr.block HX.out N0.out (by decide))
    replace HP1 := Lib.hid (hr.block HP1.out N1.out (by decide))
    replace HP2 := Lib.hid (hr.block HP2.out N2.out (by decide))
    replace HI := Lib.hid hi
    replace HR := Lib.hid (HR.out.trans hr)
    clear hi hr
    go_wp2_with fail
    refine (put_16 B bb b 8 _ _ _ HW.out.outs _ HI.out (by (try simp only [List.length_append, be32_length, be16_length]); omega) (Nat.le_trans HS.out HR.out.size) (by rw [cell_in HP2.out]; rfl) (by rw [cell_in HX.out]; rfl)).mono ?_
    rintro e w3 ⟨rfl, hi, hr⟩
    replace HX := Lib.hid (hr.block HX.out N0.out (by decide))
    replace HP1 := Lib.hid (hr.block HP1.out N1.out (by decide))
    replace HP2 := Lib.hid (hr.block HP2.out N2.out (by decide))
    replace HI := Lib.hid hi
    replace HR := Lib.hid (HR.out.trans hr)
    clear hi hr
    go_wp2_with fail
    refine (put_16 B bb b 9 _ _ _ HW.out.ins _ HI.out (by (try simp only [List.length_append, be32_length, be16_length]); omega) (Nat.le_trans HS.out HR.out.size) (by rw [cell_in HP2.out]; rfl) (by rw [cell_in HX.out]; rfl)).mono ?_
    rintro e w4 ⟨rfl, hi, hr⟩
    replace HX := Lib.hid (hr.block HX.out N0.out (by decide))
    replace HP1 := Lib.hid (hr.block HP1.out N1.out (by decide))
    replace HP2 := Lib.hid (hr.block HP2.out N2.out (by decide))
    replace HI := Lib.hid hi
    replace HR := Lib.hid (HR.out.trans hr)
    clear hi hr
    go_wp2_with fail
    refine (put_32 B bb b 2 _ _ _ HW.out.tsn _ HI.out (by (try simp only [List.length_append, be32_length, be16_length]); omega) (Nat.le_trans HS.out HR.out.size) (by rw [cell_in HP1.out]; rfl) (by rw [cell_in HX.out]; rfl)).mono ?_
    rintro e w5 ⟨rfl, hi, hr⟩
    replace HX := Lib.hid (hr.block HX.out N0.out (by decide))
    replace HP1 := Lib.hid (hr.block HP1.out N1.out (by decide))
    replace HP2 := Lib.hid (hr.block HP2.out N2.out (by decide))
    replace HI := Lib.hid hi
    replace HR := Lib.hid (HR.out.trans hr)
    clear hi hr
    go_wp2_with fail
    go_end0
    exact ⟨rfl, by have := HI.out; simpa [numsL, List.append_assoc] using this, HR.out⟩
  by_cases t3 : ty = 3
  · subst t3
    go_enter Tryz.func75, Tryz.ntmps75
    go_wp2_with fail
    refine (put_32 B bb b 2 _ _ _ HW.out.tsn _ HI.out (by (try simp only [List.length_append, be32_length, be16_length]); omega) (Nat.le_trans HS.out HR.out.size) (by rw [cell_in HP1.out]; rfl) (by rw [cell_in HX.out]; rfl)).mono ?_
    rintro e w1 ⟨rfl, hi, hr⟩
    replace HX := Lib.hid (hr.block HX.out N0.out (by decide))
    replace HP1 := Lib.hid (hr.block HP1.out N1.out (by decide))
    replace HP2 := Lib.hid (hr.block HP2.out N2.out (by decide))
    replace HI := Lib.hid hi
    replace HR := Lib.hid (HR.out.trans hr)
    clear hi hr
    go_wp2_with fail
    refine (put_32 B bb b 4 _ _ _ HW.out.window _ HI.out (by (try simp only [List.length_append, be32_length, be16_length]); omega) (Nat.le_trans HS.out HR.out.size) (by rw [cell_in HP1.out]; rfl) (by rw [cell_in HX.out]; rfl)).mono ?_
    rintro e w2 ⟨rfl, hi, hr⟩
    replace HX := Lib.hid (hr.block HX.out N0.out (by decide))
    replace HP1 := Lib.hid (hr.block HP1.out N1.out (by decide))
    replace HP2 := Lib.hid (hr.block HP2.out N2.out (by decide))
    replace HI := Lib.hid hi
    replace HR := Lib.hid (HR.out.trans hr)
    clear hi hr
    go_wp2_with fail
    go_end0
    exact ⟨rfl, by have := HI.out; simpa [numsL, List.append_assoc] using this, HR.out⟩
  by_cases t7 : ty = 7
  · subst t7
    go_enter Tryz.func75, Tryz.ntmps75
    go_wp2_with fail
    refine (put_32 B bb b 2 _ _ _ HW.out.tsn _ HI.out (by (try simp only [List.length_append, be32_length, be16_length]); omega) (Nat.le_trans HS.out HR.out.size) (by rw [cell_in HP1.out]; rfl) (by rw [cell_in HX.out]; rfl)).mono ?_
    rintro e w1 ⟨rfl, hi, hr⟩
    replace HX := Lib.hid (hr.block HX.out N0.out (by decide))
    replace HP1 := Lib.hid (hr.block HP1.out N1.out (by decide))
    replace HP2 := Lib.hid (hr.block HP2.out N2.out (by decide))
    replace HI := Lib.hid hi
    replace HR := Lib.hid (HR.out.trans hr)
    clear hi hr
    go_wp2_with fail
    go_end0
    exact ⟨rfl, by have := HI.out; simpa [numsL, List.append_assoc] using this, HR.out⟩
  have n0 : (ty == 0) = false := beq_eq_false_iff_ne.2 t0
  have n1 : (ty == 1) = false := beq_eq_false_iff_ne.2 t1
  have n2 : (ty == 2) = false := beq_eq_false_iff_ne.2 t2
  have n3 : (ty == 3) = false := beq_eq_false_iff_ne.2 t3
  have n7 : (ty == 7) = false := beq_eq_false_iff_ne.2 t7
  go_enter Tryz.func75, Tryz.ntmps75
  go_wp2_with fail
  go_end0
  exact ⟨rfl, by have := HI.out; simpa [numsL, t0, t1, t2, t3, t7, List.append_assoc] using this, HR.out⟩
end Go.Proofs.YtlbaockipeojhaaGreat
end
section
namespace Go.Proofs.YtlbaockipeojhaaGreat
open Go.RowKit
set_option linter.unusedVariables false
set_option linter.unusedSimpArgs false
set_option maxRecDepth 100000

theorem gapsL_take (l : List (Nat × Nat)) (k : Nat) (h : k < l.length) : gapsL (l.take (k + 1)) = gapsL (l.take k) ++ be16 l[k].1 ++ be16 l[k].2 := by
  unfold gapsL
  rw [List.take_succ_eq_append_getElem h, List.flatMap_append, List.append_assoc]
  congr 1
theorem dupsL_take (l : List Nat) (k : Nat) (h : k < l.length) : dupsL (l.take (k + 1)) = dupsL (l.take k) ++ be32 l[k] := by
  unfold dupsL
  rw [List.take_succ_eq_append_getElem h, List.flatMap_append]
  congr 1
theorem gaps_len_take (l : List (Nat × Nat)) (k : Nat) : (gapsL (l.take k)).length ≤ 4 * l.length := by
  rw [gapsL_length, List.length_take]
  omega
theorem dups_len_take (l : List Nat) (k : Nat) : (dupsL (l.take k)).length ≤ 4 * l.length := by
  rw [dupsL_length, List.length_take]
  omega
set_option maxHeartbeats 4000000 in
theorem reports_any (B bb : Nat) (l : List UInt8) (c : Ck) (hw : WfC c) (h1 : c.gaps.length < 65536) (h2 : c.dups.length < 65536) (g d it : Value) (w0 w : World) (hp : Parts w0 c g d it) (hb0 : Below w0.heap.size w0 w) (hB0 : w0.heap.size ≤ B)
    (h : Bd w B bb l) (hlen : l.length < 1000000) (hBw : B ≤ w.heap.size) :
    Calls Tryz.prog 78 #[.pointer (some ⟨bb, 0, none⟩), .agg (cellsC c g d it)] w fun e w' => e = .returned (.tuple #[]) ∧ Bd w' B bb (l ++ repL c) ∧ Wrote B bb w w' := by
  obtain ⟨ty, fl, tsn, tag, win, ppid, st, ssn, outs, ins, gaps, dups, items, text⟩ := c
  obtain ⟨p1, p2, p3⟩ := hp
  obtain ⟨a1, a2, a3, a4, a5, a6, a7, a8, a9, a10⟩ := hw
  dsimp only at p1 p2 h1 h2 a9 a10
  have hbb := h.lt
  have HP1 := Lib.hid (fun W (hW : Wrote B bb w W) => p1.below (hb0.trans (hW.1.mono hB0)))
  have HP2 := Lib.hid (fun W (hW : Wrote B bb w W) => p2.below (hb0.trans (hW.1.mono hB0)))
  obtain ⟨Ag, kg, rfl, -⟩ := id p1
  obtain ⟨Ad, kd, rfl, -⟩ := id p2
  have HX0 := Lib.hid (heap_alloc_new w (.cells (cellsC ⟨ty, fl, tsn, tag, win, ppid, st, ssn, outs, ins, gaps, dups, items, text⟩ (.slice Ag gaps.length kg) (.slice Ad dups.length kd) it) 52))
  have HI := Lib.hid (h.alloc (.cells (cellsC ⟨ty, fl, tsn, tag, win, ppid, st, ssn, outs, ins, gaps, dups, items, text⟩ (.slice Ag gaps.length kg) (.slice Ad dups.length kd) it) 52))
  have HR := Lib.hid ((Wrote.refl B bb w).alloc hBw (.cells (cellsC ⟨ty, fl, tsn, tag, win, ppid, st, ssn, outs, ins, gaps, dups, items, text⟩ (.slice Ag gaps.length kg) (.slice Ad dups.length kd) it) 52))
  have HL := Lib.hid (show repL ⟨ty, fl, tsn, tag, win, ppid, st, ssn, outs, ins, gaps, dups, items, text⟩ = be16 gaps.length ++ be16 dups.length ++ gapsL gaps ++ dupsL dups from rfl)
  have HS := Lib.hid hBw
  have HW9 := Lib.hid a9
  have HW10 := Lib.hid a10
  dsimp only [cellsC] at HX0 HI HR ⊢
  clear h hBw p1 p2 p3 a1 a2 a3 a4 a5 a6 a7 a8 a9 a10 hb0 hB0
  have hg' : (gaps.length : Int) < 65536 := by omega
  have hd' : (dups.length : Int) < 65536 := by omega
  have hne : w.heap.size ≠ bb := by omega
  go_enter Tryz.func78, Tryz.ntmps78
  go_wp2_with fail
  refine (write_16 B bb _ _ h1 _ HI.out (by omega) (Nat.le_trans HS.out HR.out.size)).mono ?_
  rintro e w1 ⟨rfl, hi, hr⟩
  have hx := hr.block HX0.out hne (by decide)
  replace HI := Lib.hid hi
  replace HR := Lib.hid (HR.out.trans hr)
  have hlt : w.heap.size < w1.heap.size := (Array.getElem?_eq_some_iff.1 hx).1
  have c11 : w1.cell? ⟨w.heap.size, 11, none⟩ = some (.slice Ad dups.length kd) := by rw [cell_in hx]; rfl
  have HX := Lib.hid hx
  clear hi hr hx HX0
  go_wp2_with fail
  refine (write_16 B bb _ _ h2 _ HI.out (by simp only [List.length_append, be16_length]; omega) (Nat.le_trans HS.out HR.out.size)).mono ?_
  rintro e w2 ⟨rfl, hi, hr⟩
  have hx := hr.block HX.out hne (by decide)
  replace HI := Lib.hid hi
  replace HR := Lib.hid (HR.out.trans hr)
  replace hlt : w.heap.size < w2.heap.size := (Array.getElem?_eq_some_iff.1 hx).1
  have d10 : w2.cell? ⟨w.heap.size, 10, none⟩ = some (.slice Ag gaps.length kg) := by rw [cell_in hx]; rfl
  replace HX := Lib.hid hx
  clear hi hr hx c11
  go_wp2_with fail
  generalize hl1 : l ++ be16 gaps.length ++ be16 dups.length = l1 at *
  have hlen1 : l1.length < 1000010 := by rw [← hl1]; simp only [List.length_append, be16_length]; omega
  go_loopw [23] (fun i wr => ∃ k : Nat, k ≤ gaps.length ∧ i = .int .i64 k ∧ Hid (Bd wr B bb (l1 ++ gapsL (gaps.take k)) ∧ Wrote B bb w wr ∧
      wr.heap[w.heap.size]? = some (.cells #[.int .i64 ty, .int .i64 fl, .int .u32 (tsn : Int), .int .u32 (tag : Int), .int .u32 (win : Int), .int .u32 (ppid : Int), .int .u16 (st : Int), .int .u16 (ssn : Int), .int .u16 (outs : Int), .int .u16 (ins : Int), .slice Ag gaps.length kg, .slice Ad dups.length kd, it, .string text] 52 (0, 0))))
    (fun i _ => gaps.length - (intOf i).toNat)
  case atStart => exact ⟨0, Nat.zero_le _, rfl, Lib.hid ⟨by rw [List.take_zero]; show Bd _ _ _ (l1 ++ []); rw [List.append_nil]; exact HI.out, HR.out, HX.out⟩⟩
  case round =>
    obtain ⟨k, hk, rfl, HQ⟩ := hrel
    clear d10
    by_cases hlt' : k < gaps.length
    · obtain ⟨A', cap', hv', -, -, hcells⟩ := HP1.out wr HQ.out.2.1
      cases hv'
      obtain ⟨b, off, rfl, hb, hc⟩ := hcells (by omega)
      obtain ⟨hc0, hc1⟩ := hc k hlt'
      obtain ⟨hx1, hx2⟩ := HW9.out _ (List.getElem_mem hlt')
      have HT := Lib.hid (gapsL_take gaps k hlt')
      have hgl := gaps_len_take gaps k
      have hbl := HQ.out.1.lt
      have hsz := HQ.out.2.1.size
      generalize gaps[k] = x at *
      obtain ⟨x, y⟩ := x
      dsimp only at hc0 hc1 hx1 hx2 HT
      have HI3 := Lib.hid (HQ.out.1.alloc (.cells #[.int .u16 (x : Int), .int .u16 (y : Int)] 104))
      have HR3 := Lib.hid (HQ.out.2.1.alloc (Nat.le_trans HS.out hsz) (.cells #[.int .u16 (x : Int), .int .u16 (y : Int)] 104))
      have HX3 := Lib.hid ((Below.heap_alloc wr (.cells #[.int .u16 (x : Int), .int .u16 (y : Int)] 104) _ (Array.getElem?_eq_some_iff.1 HQ.out.2.2).1).trans HQ.out.2.2)
      have HG := Lib.hid (heap_alloc_new wr (.cells #[.int .u16 (x : Int), .int .u16 (y : Int)] 104))
      clear hc hcells HI HR HX HP1
      go_wp2_with fail
      refine (write_16 B bb _ _ hx1 _ HI3.out (by simp only [List.length_append]; omega) (Nat.le_trans HS.out HR3.out.size)).mono ?_
      rintro e w3 ⟨rfl, hi, hr⟩
      have hg := hr.block HG.out (by omega) (by decide)
      have hx := hr.block HX3.out hne (by decide)
      have e1 : w3.cell? ⟨wr.heap.size, 1, none⟩ = some (.int .u16 (y : Int)) := by rw [cell_in hg]; rfl
      replace HI3 := Lib.hid hi
      replace HR3 := Lib.hid (HR3.out.trans hr)
      replace HX3 := Lib.hid hx
      clear hi hr hx hg HG
      go_wp2_with fail
      refine (write_16 B bb _ _ hx2 _ HI3.out (by simp only [List.length_append, be16_length]; omega) (Nat.le_trans HS.out HR3.out.size)).mono ?_
      rintro e w4 ⟨rfl, hi, hr⟩
      have HE := Lib.hid (And.intro hi (And.intro (HR3.out.trans hr) (hr.block HX3.out hne (by decide))))
      clear hi hr e1
      go_wp2_with fail
      go_roundw
      case rel => exact ⟨k + 1, by omega, by go_num, Lib.hid ⟨by rw [HT.out]; have := HE.out.1; simpa only [List.append_assoc] using this, HE.out.2⟩⟩
      case measure => simp [intOf]; omega
    · obtain rfl : k = gaps.length := by omega
      replace HI := Lib.hid HQ.out.1
      replace HR := Lib.hid HQ.out.2.1
      replace HX := Lib.hid HQ.out.2.2
      rw [List.take_length] at HI
      have d11 : wr.cell? ⟨w.heap.size, 11, none⟩ = some (.slice Ad dups.length kd) := by rw [cell_in HX.out]; rfl
      clear HQ HP1
      generalize hl2 : l1 ++ gapsL gaps = l2 at *
      have hlen2 : l2.length < 1300000 := by rw [← hl2]; simp only [List.length_append, gapsL_length]; omega
      go_wp2_with fail
      generalize wr = wq at *
      go_loopw [39] (fun i wr => ∃ k : Nat, k ≤ dups.length ∧ i = .int .i64 k ∧ Hid (Bd wr B bb (l2 ++ dupsL (dups.take k)) ∧ Wrote B bb w wr))
        (fun i _ => dups.length - (intOf i).toNat)
      case atStart => exact ⟨0, Nat.zero_le _, rfl, Lib.hid ⟨by rw [List.take_zero]; show Bd _ _ _ (l2 ++ []); rw [List.append_nil]; exact HI.out, HR.out⟩⟩
      case round =>
        obtain ⟨k, hk, rfl, HQ⟩ := hrel
        clear d11
        by_cases hlt' : k < dups.length
        · obtain ⟨A', cap', hv', -, -, hcells⟩ := HP2.out wr HQ.out.2
          cases hv'
          obtain ⟨b, off, rfl, hb, hc⟩ := hcells (by omega)
          have hc0 := hc k hlt'
          have hx1 := HW10.out _ (List.getElem_mem hlt')
          have HT := Lib.hid (dupsL_take dups k hlt')
          have hgl := dups_len_take dups k
          rw [getElem!_pos dups k hlt'] at hc0
          generalize dups[k] = x at *
          unfold encN at hc0
          have HI3 := Lib.hid HQ.out.1
          have HR3 := Lib.hid HQ.out.2
          clear hc hcells HI HR HX HP2
          go_wp2_with fail
          refine (write_32 B bb _ _ hx1 _ HI3.out (by simp only [List.length_append]; omega) (Nat.le_trans HS.out HR3.out.size)).mono ?_
          rintro e w3 ⟨rfl, hi, hr⟩
          have HE := Lib.hid (And.intro hi (HR3.out.trans hr))
          clear hi hr
          go_wp2_with fail
          go_roundw
          case rel => exact ⟨k + 1, by omega, by go_num, Lib.hid ⟨by rw [HT.out]; have := HE.out.1; simpa only [List.append_assoc] using this, HE.out.2⟩⟩
          case measure => simp [intOf]; omega
        · obtain rfl : k = dups.length := by omega
          go_wp2_with fail
          go_end0
          refine ⟨rfl, ?_, HQ.out.2⟩
          have := HQ.out.1
          rw [List.take_length] at this
          rw [HL.out]
          rw [← hl2, ← hl1] at this
          simpa only [List.append_assoc] using this
end Go.Proofs.YtlbaockipeojhaaGreat
end
section
namespace Go.Proofs.YtlbaockipeojhaaGreat
open Go.RowKit
set_option linter.unusedVariables false
set_option linter.unusedSimpArgs false
set_option maxRecDepth 100000

theorem numsL_le (c : Ck) : (numsL c).length ≤ 16 := by
  unfold numsL
  by_cases h0 : c.type = 0
  · rw [if_pos h0]; simp only [List.length_append, be32_length, be16_length]; omega
  rw [if_neg h0]
  by_cases h1 : c.type = 1 ∨ c.type = 2
  · rw [if_pos h1]; simp only [List.length_append, be32_length, be16_length]; omega
  rw [if_neg h1]
  by_cases h3 : c.type = 3
  · rw [if_pos h3]; simp only [List.length_append, be32_length]; omega
  rw [if_neg h3]
  by_cases h7 : c.type = 7
  · rw [if_pos h7, be32_length]; omega
  · rw [if_neg h7]; simp
theorem lastPad_get : ∀ (l : List Item) (h : 0 < l.length), lastPad l = padN (l[l.length - 1]'(by omega)).2.size
  | [x], _ => rfl
  | x :: y :: l, _ => by
    rw [lastPad, lastPad_get (y :: l) (by simp)]
    simp only [List.length_cons, Nat.add_sub_cancel, List.getElem_cons_succ]
set_option maxHeartbeats 1000000 in
theorem behindLast_any (l : List Item) (hl : l.length ≤ 100000) (hs : ∀ x ∈ l, x.2.size ≤ 1000000) (v : Value) (w : World) (hv : RowI w v l) :
    Calls Tryz.prog 79 #[v] w fun e w' => e = .returned (.int .i64 (lastPad l : Nat)) ∧ w' = w := by
  obtain ⟨A, cap, rfl, hcap, hmax, hcells⟩ := hv
  by_cases hlt : 0 < l.length
  · obtain ⟨b, off, rfl, hb, hc⟩ := hcells hlt
    have hc1 := (hc (l.length - 1) (by omega)).2
    have hx := hs _ (List.getElem_mem (show l.length - 1 < l.length by omega))
    rw [lastPad_get l hlt]
    generalize (l[l.length - 1]'(by omega)).2 = t at *
    have HP := Lib.hid (fun W => pad_any (t.size : Int) (by omega) (by omega) W)
    rw [padI_nat] at HP
    generalize padN t.size = p at *
    obtain ⟨n, hn⟩ : ∃ n, l.length = n + 1 := ⟨l.length - 1, by omega⟩
    rw [hn] at hc1 ⊢
    rw [Nat.add_sub_cancel] at hc1
    have hn' : (n : Int) ≤ 100000 := by omega
    have hts : (t.size : Int) ≤ 1000000 := by omega
    clear hcells hc hs hl hn hcap hlt
    have n0 : (((n + 1 : Nat) : Int) == 0) = false := beq_eq_false_iff_ne.2 (by omega)
    go_enter Tryz.func79, Tryz.ntmps79
    go_wp2_with (go_at_call 48; ((with_reducible refine (HP.out _).mono ?_); rintro e w1 ⟨rfl, rfl⟩))
    go_ret
    exact ⟨rfl, rfl⟩
  · obtain rfl : l = [] := List.eq_nil_of_length_eq_zero (by omega)
    clear hcells hs hlt
    go_enter Tryz.func79, Tryz.ntmps79
    go_wp2
    go_ret
    exact ⟨rfl, rfl⟩
theorem writer_32 (bb : Nat) (w : World) : Calls Tryz.prog 76 #[.pointer (some ⟨bb, 0, none⟩)] w fun e w' => e = .returned (.func (.func 106) #[] #[.pointer (some ⟨w.heap.size, 0, none⟩)]) ∧ w' = w.alloc (.cells #[.pointer (some ⟨bb, 0, none⟩)] 56) := by
  go_enter Tryz.func76, Tryz.ntmps76
  go_wp2
  go_ret
  exact ⟨rfl, rfl⟩
theorem writer_16 (bb : Nat) (w : World) : Calls Tryz.prog 77 #[.pointer (some ⟨bb, 0, none⟩)] w fun e w' => e = .returned (.func (.func 108) #[] #[.pointer (some ⟨w.heap.size, 0, none⟩)]) ∧ w' = w.alloc (.cells #[.pointer (some ⟨bb, 0, none⟩)] 56) := by
  go_enter Tryz.func77, Tryz.ntmps77
  go_wp2
  go_ret
  exact ⟨rfl, rfl⟩
/-- What a chunk, a builder and two captured ones lie in, each just made. -/
theorem start_facts (w : World) (C : Array Value) :
    let W := (((w.alloc (.cells C 52)).alloc (.cells #[.pointer none, .slice none 0 0] 58)).alloc (.cells #[.pointer (some ⟨w.heap.size + 1, 0, none⟩)] 56)).alloc (.cells #[.pointer (some ⟨w.heap.size + 1, 0, none⟩)] 56)
    Bd W (w.heap.size + 1) (w.heap.size + 1) [] ∧ W.heap[w.heap.size]? = some (.cells C 52 (0, 0)) ∧ W.heap[w.heap.size + 2]? = some (.cells #[.pointer (some ⟨w.heap.size + 1, 0, none⟩)] 56 (0, 0)) ∧
      W.heap[w.heap.size + 3]? = some (.cells #[.pointer (some ⟨w.heap.size + 1, 0, none⟩)] 56 (0, 0)) ∧ Below w.heap.size w W ∧ W.heap.size = w.heap.size + 4 := by
  intro W
  have h1 := heap_alloc_new w (.cells C 52)
  generalize hW1 : w.alloc (.cells C 52) = W1 at *
  have s1 : W1.heap.size = w.heap.size + 1 := by rw [← hW1]; exact World.size_alloc _ _
  have b1 : Below w.heap.size w W1 := by rw [← hW1]; exact (Below.refl _ _).alloc (Nat.le_refl _) _
  have h2 := bd_fresh W1
  generalize hW2 : W1.alloc (.cells #[.pointer none, .slice none 0 0] 58) = W2 at *
  have s2 : W2.heap.size = w.heap.size + 2 := by rw [← hW2, World.size_alloc, s1]
  have g1 : W2.heap[w.heap.size]? = some (.cells C 52 (0, 0)) := by rw [← hW2]; exact (Below.heap_alloc _ _ _ (by omega)).trans h1
  have b2 : Below w.heap.size w W2 := by rw [← hW2]; exact b1.alloc (by omega) _
  rw [s1] at h2
  have h3 := heap_alloc_new W2 (.cells #[.pointer (some ⟨w.heap.size + 1, 0, none⟩)] 56)
  have h2' := h2.alloc (.cells #[.pointer (some ⟨w.heap.size + 1, 0, none⟩)] 56)
  generalize hW3 : W2.alloc (.cells #[.pointer (some ⟨w.heap.size + 1, 0, none⟩)] 56) = W3 at *
  have s3 : W3.heap.size = w.heap.size + 3 := by rw [← hW3, World.size_alloc, s2]
  have g2 : W3.heap[w.heap.size]? = some (.cells C 52 (0, 0)) := by rw [← hW3]; exact (Below.heap_alloc _ _ _ (by omega)).trans g1
  have b3 : Below w.heap.size w W3 := by rw [← hW3]; exact b2.alloc (by omega) _
  rw [s2] at h3
  have e4 : W = W3.alloc (.cells #[.pointer (some ⟨w.heap.size + 1, 0, none⟩)] 56) := by rw [← hW3, ← hW2, ← hW1]
  rw [e4]
  refine ⟨h2'.alloc _, (Below.heap_alloc _ _ _ (by omega)).trans g2, (Below.heap_alloc _ _ _ (by omega)).trans h3, ?_, b3.alloc (by omega) _, by rw [World.size_alloc, s3]⟩
  have := heap_alloc_new W3 (.cells #[.pointer (some ⟨w.heap.size + 1, 0, none⟩)] 56)
  rw [s3] at this
  exact this
set_option maxHeartbeats 4000000 in
theorem valueOf_any (c : Ck) (hw : WfC c) (hg : c.gaps.length < 65536) (hd : c.dups.length < 65536) (hit : c.items.length ≤ 100000) (his : ∀ x ∈ c.items, x.2.size ≤ 1000000) (hr : (rowL c.items).length ≤ 4000) (hts : c.text.size ≤ 1000000) (g d it : Value) (w : World) (hp : Parts w c g d it) :
    Calls Tryz.prog 45 #[.agg (cellsC c g d it), .string ⟨(rowL c.items).toArray⟩] w fun e w' => e = .returned (.string ⟨(valueL c).toArray⟩) ∧ Below w.heap.size w w' := by
  obtain ⟨s1, s2, s3, s4, s5, s6⟩ := start_facts w (cellsC c g d it)
  have HN := Lib.hid (numbers_put (w.heap.size + 1) (w.heap.size + 1) w.heap.size (w.heap.size + 2) (w.heap.size + 3) [] c hw g d it _ s1 (by simp) (by rw [s6]; omega) s2 s3 s4 (by omega) (by omega) (by omega))
  have HB := Lib.hid s5
  have HX0 := Lib.hid s2
  have HS := Lib.hid (show w.heap.size + 1 ≤ _ from Nat.le_trans (by omega) (Nat.le_of_eq s6.symm))
  have HP := Lib.hid hp
  have HRP := Lib.hid (fun (l : List UInt8) (W : World) hb0 h hlen hBw => reports_any (w.heap.size + 1) (w.heap.size + 1) l c hw hg hd g d it w W hp hb0 (by omega) h hlen hBw)
  have HBL := Lib.hid (fun W h => behindLast_any c.items hit his it W h)
  have HV := Lib.hid (show valueL c = numsL c ++ (if c.type = 3 then repL c else []) ++ itemsL c.items ++ c.text.data.toList from rfl)
  have HNL := Lib.hid (numsL_le c)
  have HRL := Lib.hid (show (repL c).length ≤ 4 + 4 * 65536 + 4 * 65536 from by unfold repL; simp only [List.length_append, be16_length, gapsL_length, dupsL_length]; omega)
  have hz : (⟨(rowL c.items).toArray⟩ : ByteArray).size = (itemsL c.items).length + lastPad c.items := by
    have := lastPad_le c.items
    rw [toB_size, itemsL_length]
    omega
  obtain ⟨S, hi2⟩ : ∃ S : ByteArray, S.data.toList = itemsL c.items := ⟨⟨(itemsL c.items).toArray⟩, rfl⟩
  have he : (⟨(rowL c.items).toArray⟩ : ByteArray).extract 0 (itemsL c.items).length = S := by
    apply bytes_ext
    rw [cut_list, toB_list, hi2, List.drop_zero, Nat.sub_zero, itemsL_length]
    rfl
  have hi1 : S.size = (itemsL c.items).length := by rw [size_list, hi2]
  have hzl : (⟨(rowL c.items).toArray⟩ : ByteArray).size ≤ 4000 := by rw [toB_size]; exact hr
  have hts' : c.text.size = c.text.data.toList.length := size_list _
  obtain ⟨ty, fl, tsn, tag, win, ppid, st, ssn, outs, ins, gaps, dups, items, text⟩ := c
  dsimp only [cellsC] at *
  clear s1 s2 s3 s4 s5 s6 hw hp hg hd hit his hr
  generalize numsL ⟨ty, fl, tsn, tag, win, ppid, st, ssn, outs, ins, gaps, dups, items, text⟩ = NL at *
  generalize repL ⟨ty, fl, tsn, tag, win, ppid, st, ssn, outs, ins, gaps, dups, items, text⟩ = RL at *
  generalize valueL ⟨ty, fl, tsn, tag, win, ppid, st, ssn, outs, ins, gaps, dups, items, text⟩ = VL at *
  generalize lastPad items = n at *
  generalize (⟨(rowL items).toArray⟩ : ByteArray) = R at *
  generalize itemsL items = IL at *
  generalize hm : IL.length = m at *
  have HM := Lib.hid hm
  have HI1 := Lib.hid hi1
  have HI2 := Lib.hid hi2
  have HZ := Lib.hid hz
  have HTS := Lib.hid hts'
  have q1 : (R.size : Int) - (n : Int) = (m : Int) := by omega
  have q2 : (m : Int) ≤ (R.size : Int) := by omega
  have q3 : (0 : Int) ≤ (m : Int) := by omega
  have q4 : (R.size : Int) ≤ 4000 := by omega
  have q5 : m ≤ R.size := by omega
  have q6 : m ≤ 4000 := by omega
  clear hm hi1 hi2 hz hts' hzl
  by_cases t3 : ty = 3
  · subst t3
    rw [if_pos rfl] at HV
    go_enter Tryz.func45, Tryz.ntmps45
    go_wp2_with (first
      | (go_at_call 76; ((with_reducible refine (writer_32 _ _).mono ?_); rintro e w1 ⟨rfl, rfl⟩))
      | (go_at_call 77; ((with_reducible refine (writer_16 _ _).mono ?_); rintro e w1 ⟨rfl, rfl⟩)))
    refine HN.out.mono ?_
    rintro e w1 ⟨rfl, hi, hr⟩
    rw [List.nil_append] at hi
    have hx := hr.block HX0.out (by omega) (by decide)
    replace HB := Lib.hid (HB.out.trans (hr.1.mono (by omega)))
    have HSZ := Lib.hid (Nat.le_trans HS.out hr.size)
    have HI := Lib.hid hi
    have HX := Lib.hid hx
    clear hi hr HN HX0 HS
    have c0 : w1.cell? ⟨w.heap.size, 0, none⟩ = some (.int .i64 3) := by rw [cell_in hx]; rfl
    have c1 : w1.cell? ⟨w.heap.size, 1, none⟩ = some (.int .i64 fl) := by rw [cell_in hx]; rfl
    have c2 : w1.cell? ⟨w.heap.size, 2, none⟩ = some (.int .u32 (tsn : Int)) := by rw [cell_in hx]; rfl
    have c3 : w1.cell? ⟨w.heap.size, 3, none⟩ = some (.int .u32 (tag : Int)) := by rw [cell_in hx]; rfl
    have c4 : w1.cell? ⟨w.heap.size, 4, none⟩ = some (.int .u32 (win : Int)) := by rw [cell_in hx]; rfl
    have c5 : w1.cell? ⟨w.heap.size, 5, none⟩ = some (.int .u32 (ppid : Int)) := by rw [cell_in hx]; rfl
    have c6 : w1.cell? ⟨w.heap.size, 6, none⟩ = some (.int .u16 (st : Int)) := by rw [cell_in hx]; rfl
    have c7 : w1.cell? ⟨w.heap.size, 7, none⟩ = some (.int .u16 (ssn : Int)) := by rw [cell_in hx]; rfl
    have c8 : w1.cell? ⟨w.heap.size, 8, none⟩ = some (.int .u16 (outs : Int)) := by rw [cell_in hx]; rfl
    have c9 : w1.cell? ⟨w.heap.size, 9, none⟩ = some (.int .u16 (ins : Int)) := by rw [cell_in hx]; rfl
    have c10 : w1.cell? ⟨w.heap.size, 10, none⟩ = some (g) := by rw [cell_in hx]; rfl
    have c11 : w1.cell? ⟨w.heap.size, 11, none⟩ = some (d) := by rw [cell_in hx]; rfl
    have c12 : w1.cell? ⟨w.heap.size, 12, none⟩ = some (it) := by rw [cell_in hx]; rfl
    have c13 : w1.cell? ⟨w.heap.size, 13, none⟩ = some (.string text) := by rw [cell_in hx]; rfl
    clear hx
    go_wp2_with fail
    refine (HRP.out NL _ HB.out HI.out (by have := HNL.out; omega) HSZ.out).mono ?_
    rintro e w2 ⟨rfl, hi, hr⟩
    have hx := hr.block HX.out (by omega) (by decide)
    replace HB := Lib.hid (HB.out.trans (hr.1.mono (by omega)))
    replace HSZ := Lib.hid (Nat.le_trans HSZ.out hr.size)
    replace HI := Lib.hid hi
    replace HX := Lib.hid hx
    clear hi hr c0 c1 c2 c3 c4 c5 c6 c7 c8 c9 c10 c11 c12 c13
    have c12 : w2.cell? ⟨w.heap.size, 12, none⟩ = some (it) := by rw [cell_in hx]; rfl
    have c13 : w2.cell? ⟨w.heap.size, 13, none⟩ = some (.string text) := by rw [cell_in hx]; rfl
    clear hx
    go_wp2_with fail
    refine (HBL.out _ (HP.out.items.below HB.out)).mono ?_
    rintro e w3 ⟨rfl, rfl⟩
    go_wp2_with fail
    refine (string_any (w.heap.size + 1) (w.heap.size + 1) (NL ++ RL) S _ HI.out (by have := HNL.out; have := HRL.out; (try simp only [List.length_append, List.length_cons, List.length_nil]); (try rw [HI1.out]); (try rw [HI2.out, HM.out]); omega) HSZ.out).mono ?_
    rintro e w4 ⟨rfl, hi, hr⟩
    have hx := hr.block HX.out (by omega) (by decide)
    replace HB := Lib.hid (HB.out.trans (hr.1.mono (by omega)))
    replace HSZ := Lib.hid (Nat.le_trans HSZ.out hr.size)
    replace HI := Lib.hid hi
    have e13 : w4.cell? ⟨w.heap.size, 13, none⟩ = some (.string text) := by rw [cell_in hx]; rfl
    clear hi hr hx HX c12 c13
    go_wp2_with fail
    refine (string_any (w.heap.size + 1) (w.heap.size + 1) (NL ++ RL ++ S.data.toList) text _ HI.out (by have := HNL.out; have := HRL.out; (try simp only [List.length_append, List.length_cons, List.length_nil]); (try rw [HI1.out]); (try rw [HI2.out, HM.out]); omega) HSZ.out).mono ?_
    rintro e w5 ⟨rfl, hi, hr⟩
    replace HB := Lib.hid (HB.out.trans (hr.1.mono (by omega)))
    replace HSZ := Lib.hid (Nat.le_trans HSZ.out hr.size)
    replace HI := Lib.hid hi
    clear hi hr e13
    go_wp2_with fail
    refine (told_any (w.heap.size + 1) (w.heap.size + 1) _ _ HI.out HSZ.out).mono ?_
    rintro e w6 ⟨rfl, hi, hr⟩
    replace HB := Lib.hid (HB.out.trans (hr.1.mono (by omega)))
    clear hi hr
    go_wp2_with fail
    go_ret
    exact ⟨by rw [HV.out, HI2.out]; simp only [List.append_assoc]; rfl, HB.out⟩
  · have n3 : (ty == 3) = false := beq_eq_false_iff_ne.2 t3
    rw [if_neg t3] at HV
    go_enter Tryz.func45, Tryz.ntmps45
    go_wp2_with (first
      | (go_at_call 76; ((with_reducible refine (writer_32 _ _).mono ?_); rintro e w1 ⟨rfl, rfl⟩))
      | (go_at_call 77; ((with_reducible refine (writer_16 _ _).mono ?_); rintro e w1 ⟨rfl, rfl⟩)))
    refine HN.out.mono ?_
    rintro e w1 ⟨rfl, hi, hr⟩
    rw [List.nil_append] at hi
    have hx := hr.block HX0.out (by omega) (by decide)
    replace HB := Lib.hid (HB.out.trans (hr.1.mono (by omega)))
    have HSZ := Lib.hid (Nat.le_trans HS.out hr.size)
    have HI := Lib.hid hi
    have HX := Lib.hid hx
    clear hi hr HN HX0 HS
    have c0 : w1.cell? ⟨w.heap.size, 0, none⟩ = some (.int .i64 ty) := by rw [cell_in hx]; rfl
    have c12 : w1.cell? ⟨w.heap.size, 12, none⟩ = some (it) := by rw [cell_in hx]; rfl
    have c13 : w1.cell? ⟨w.heap.size, 13, none⟩ = some (.string text) := by rw [cell_in hx]; rfl
    clear hx
    go_wp2_with fail
    refine (HBL.out _ (HP.out.items.below HB.out)).mono ?_
    rintro e w3 ⟨rfl, rfl⟩
    go_wp2_with fail
    refine (string_any (w.heap.size + 1) (w.heap.size + 1) (NL) S _ HI.out (by have := HNL.out; have := HRL.out; (try simp only [List.length_append, List.length_cons, List.length_nil]); (try rw [HI1.out]); (try rw [HI2.out, HM.out]); omega) HSZ.out).mono ?_
    rintro e w4 ⟨rfl, hi, hr⟩
    have hx := hr.block HX.out (by omega) (by decide)
    replace HB := Lib.hid (HB.out.trans (hr.1.mono (by omega)))
    replace HSZ := Lib.hid (Nat.le_trans HSZ.out hr.size)
    replace HI := Lib.hid hi
    have e13 : w4.cell? ⟨w.heap.size, 13, none⟩ = some (.string text) := by rw [cell_in hx]; rfl
    clear hi hr hx HX c12 c13
    go_wp2_with fail
    refine (string_any (w.heap.size + 1) (w.heap.size + 1) (NL ++ S.data.toList) text _ HI.out (by have := HNL.out; have := HRL.out; (try simp only [List.length_append, List.length_cons, List.length_nil]); (try rw [HI1.out]); (try rw [HI2.out, HM.out]); omega) HSZ.out).mono ?_
    rintro e w5 ⟨rfl, hi, hr⟩
    replace HB := Lib.hid (HB.out.trans (hr.1.mono (by omega)))
    replace HSZ := Lib.hid (Nat.le_trans HSZ.out hr.size)
    replace HI := Lib.hid hi
    clear hi hr e13
    go_wp2_with fail
    refine (told_any (w.heap.size + 1) (w.heap.size + 1) _ _ HI.out HSZ.out).mono ?_
    rintro e w6 ⟨rfl, hi, hr⟩
    replace HB := Lib.hid (HB.out.trans (hr.1.mono (by omega)))
    clear hi hr
    go_wp2_with fail
    go_ret
    exact ⟨by rw [HV.out, HI2.out]; simp only [List.append_assoc, List.nil_append]; rfl, HB.out⟩
end Go.Proofs.YtlbaockipeojhaaGreat
end
