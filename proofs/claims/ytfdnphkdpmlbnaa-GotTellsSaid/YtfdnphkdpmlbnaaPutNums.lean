/-
  The numbers of a chunk's type, written to a builder: contracts.
-/
import Derived.Test.YtfdnphkdpmlbnaaPut
import Derived.Test.YtfdnphkdpmlbnaaCkMem
import Derived.StillTailTactics
namespace Go.Proofs.Ytfdnphkdpmlbnaa
open Go.RowKit
set_option linter.unusedVariables false
set_option linter.unusedSimpArgs false
set_option maxRecDepth 100000

theorem Bd.drewN {w : World} {B b : Nat} {l : List UInt8} (h : Bd w B b l) (m : Nat) : Bd (w.drewN m) B b l := h
theorem drewN_wrote {B b : Nat} {a c : World} (m : Nat) (h : Wrote B b (a.drewN m) c) : Wrote B b a c := ⟨(below_drewN (Below.refl _ _) m).trans h.1, h.2⟩
set_option maxHeartbeats 1000000 in
theorem put_32 (B bb b k p : Nat) (l : List UInt8) (n : Nat) (hn : n < 4294967296) (w : World) (h : Bd w B bb l) (hlen : l.length < 90000000) (hBw : B ≤ w.heap.size) (cp : w.cell? ⟨p, 0, none⟩ = some (.pointer (some ⟨bb, 0, none⟩))) (cn : w.cell? ⟨b, k, none⟩ = some (.int .u32 (n : Int))) :
    Calls Try.prog 84 #[.pointer (some ⟨b, k, none⟩), .pointer (some ⟨p, 0, none⟩)] w fun e w' => e = .returned (.tuple #[]) ∧ Bd w' B bb (l ++ be32 n) ∧ Wrote B bb w w' := by
  have H := Lib.hid (fun m => write_32 B bb l n hn (w.drewN m) (h.drewN m) hlen hBw)
  clear h hBw
  go_enter Try.func84, Try.ntmps84
  go_wp2_with fail
  go_still_tail 4, (by kernel_rfl)
  go_wp2_with fail
  refine (H.out 1).mono ?_
  rintro e w1 ⟨rfl, h1, h2⟩
  have HE := Lib.hid (And.intro h1 (drewN_wrote 1 h2))
  clear h1 h2
  go_wp2_with fail
  go_end0
  exact ⟨rfl, HE.out⟩
set_option maxHeartbeats 1000000 in
theorem put_16 (B bb b k p : Nat) (l : List UInt8) (n : Nat) (hn : n < 65536) (w : World) (h : Bd w B bb l) (hlen : l.length < 90000000) (hBw : B ≤ w.heap.size) (cp : w.cell? ⟨p, 0, none⟩ = some (.pointer (some ⟨bb, 0, none⟩))) (cn : w.cell? ⟨b, k, none⟩ = some (.int .u16 (n : Int))) :
    Calls Try.prog 86 #[.pointer (some ⟨b, k, none⟩), .pointer (some ⟨p, 0, none⟩)] w fun e w' => e = .returned (.tuple #[]) ∧ Bd w' B bb (l ++ be16 n) ∧ Wrote B bb w w' := by
  have H := Lib.hid (fun m => write_16 B bb l n hn (w.drewN m) (h.drewN m) hlen hBw)
  clear h hBw
  go_enter Try.func86, Try.ntmps86
  go_wp2_with fail
  go_still_tail 4, (by kernel_rfl)
  go_wp2_with fail
  refine (H.out 1).mono ?_
  rintro e w1 ⟨rfl, h1, h2⟩
  have HE := Lib.hid (And.intro h1 (drewN_wrote 1 h2))
  clear h1 h2
  go_wp2_with fail
  go_end0
  exact ⟨rfl, HE.out⟩
set_option maxHeartbeats 4000000 in
theorem numbers_put (B bb b p1 p2 : Nat) (l : List UInt8) (c : Ck) (hw : WfC c) (g d i : Value) (w : World) (h : Bd w B bb l) (hlen : l.length < 80000000) (hBw : B ≤ w.heap.size)
    (hb : w.heap[b]? = some (.cells (cellsC c g d i) 44 (0, 0))) (h1 : w.heap[p1]? = some (.cells #[.pointer (some ⟨bb, 0, none⟩)] 82 (0, 0))) (h2 : w.heap[p2]? = some (.cells #[.pointer (some ⟨bb, 0, none⟩)] 82 (0, 0))) (n0 : b ≠ bb) (n1 : p1 ≠ bb) (n2 : p2 ≠ bb) :
    Calls Try.prog 64 #[.pointer (some ⟨b, 0, none⟩), .func (.func 84) #[] #[.pointer (some ⟨p1, 0, none⟩)], .func (.func 86) #[] #[.pointer (some ⟨p2, 0, none⟩)]] w fun e w' =>
      e = .returned (.tuple #[]) ∧ Bd w' B bb (l ++ numsL c) ∧ Wrote B bb w w' := by
  obtain ⟨ty, fl, tsn, tag, win, ppid, st, ssn, outs, ins, gaps, dups, items, text⟩ := c
  have c0 : w.cell? ⟨b, 0, none⟩ = some (.int .i64 ty) := by rw [cell_in hb]; rfl
  have HW := Lib.hid hw
  have HX := Lib.hid hb
  have HP1 := Lib.hid h1
  have HP2 := Lib.hid h2
  have HI := Lib.hid h
  have HS := Lib.hid hBw
  have N0 := Lib.hid n0
  have N1 := Lib.hid n1
  have N2 := Lib.hid n2
  have HR := Lib.hid (Wrote.refl B bb w)
  clear h hb h1 h2 hBw n0 n1 n2 hw
  by_cases t0 : ty = 0
  · subst t0
    go_enter Try.func64, Try.ntmps64
    go_wp2_with fail
    refine (put_32 B bb b 2 _ _ _ HW.out.tsn _ HI.out (by (try simp only [List.length_append, be32_length, be16_length]); omega) (Nat.le_trans HS.out HR.out.size) (by rw [cell_in HP1.out]; rfl) (by rw [cell_in HX.out]; rfl)).mono ?_
    rintro e w1 ⟨rfl, hi, hr⟩
    replace HX := Lib.hid (hr.block HX.out N0.out (by decide))
    replace HP1 := Lib.hid (hr.block HP1.out N1.out (by decide))
    replace HP2 := Lib.hid (hr.block HP2.out N2.out (by decide))
    replace HI := Lib.hid hi
    replace HR := Lib.hid (HR.out.trans hr)
    clear hi hr
    go_wp2_with fail
    refine (put_16 B bb b 6 _ _ _ HW.out.stream _ HI.out (by (try simp only [List.length_append, be32_length, be16_length]); omega) (Nat.le_trans HS.out HR.out.size) (by rw [cell_in HP2.out]; rfl) (by rw [cell_in HX.out]; rfl)).mono ?_
    rintro e w2 ⟨rfl, hi, hr⟩
    replace HX := Lib.hid (hr.block HX.out N0.out (by decide))
    replace HP1 := Lib.hid (hr.block HP1.out N1.out (by decide))
    replace HP2 := Lib.hid (hr.block HP2.out N2.out (by decide))
    replace HI := Lib.hid hi
    replace HR := Lib.hid (HR.out.trans hr)
    clear hi hr
    go_wp2_with fail
    refine (put_16 B bb b 7 _ _ _ HW.out.ssn _ HI.out (by (try simp only [List.length_append, be32_length, be16_length]); omega) (Nat.le_trans HS.out HR.out.size) (by rw [cell_in HP2.out]; rfl) (by rw [cell_in HX.out]; rfl)).mono ?_
    rintro e w3 ⟨rfl, hi, hr⟩
    replace HX := Lib.hid (hr.block HX.out N0.out (by decide))
    replace HP1 := Lib.hid (hr.block HP1.out N1.out (by decide))
    replace HP2 := Lib.hid (hr.block HP2.out N2.out (by decide))
    replace HI := Lib.hid hi
    replace HR := Lib.hid (HR.out.trans hr)
    clear hi hr
    go_wp2_with fail
    refine (put_32 B bb b 5 _ _ _ HW.out.ppid _ HI.out (by (try simp only [List.length_append, be32_length, be16_length]); omega) (Nat.le_trans HS.out HR.out.size) (by rw [cell_in HP1.out]; rfl) (by rw [cell_in HX.out]; rfl)).mono ?_
    rintro e w4 ⟨rfl, hi, hr⟩
    replace HX := Lib.hid (hr.block HX.out N0.out (by decide))
    replace HP1 := Lib.hid (hr.block HP1.out N1.out (by decide))
    replace HP2 := Lib.hid (hr.block HP2.out N2.out (by decide))
    replace HI := Lib.hid hi
    replace HR := Lib.hid (HR.out.trans hr)
    clear hi hr
    go_wp2_with fail
    go_end0
    exact ⟨rfl, by have := HI.out; simpa [numsL, List.append_assoc] using this, HR.out⟩
  by_cases t1 : ty = 1
  · subst t1
    go_enter Try.func64, Try.ntmps64
    go_wp2_with fail
    refine (put_32 B bb b 3 _ _ _ HW.out.tag _ HI.out (by (try simp only [List.length_append, be32_length, be16_length]); omega) (Nat.le_trans HS.out HR.out.size) (by rw [cell_in HP1.out]; rfl) (by rw [cell_in HX.out]; rfl)).mono ?_
    rintro e w1 ⟨rfl, hi, hr⟩
    replace HX := Lib.hid (hr.block HX.out N0.out (by decide))
    replace HP1 := Lib.hid (hr.block HP1.out N1.out (by decide))
    replace HP2 := Lib.hid (hr.block HP2.out N2.out (by decide))
    replace HI := Lib.hid hi
    replace HR := Lib.hid (HR.out.trans hr)
    clear hi hr
    go_wp2_with fail
    refine (put_32 B bb b 4 _ _ _ HW.out.window _ HI.out (by (try simp only [List.length_append, be32_length, be16_length]); omega) (Nat.le_trans HS.out HR.out.size) (by rw [cell_in HP1.out]; rfl) (by rw [cell_in HX.out]; rfl)).mono ?_
    rintro e w2 ⟨rfl, hi, hr⟩
    replace HX := Lib.hid (hr.block HX.out N0.out (by decide))
    replace HP1 := Lib.hid (hr.block HP1.out N1.out (by decide))
    replace HP2 := Lib.hid (hr.block HP2.out N2.out (by decide))
    replace HI := Lib.hid hi
    replace HR := Lib.hid (HR.out.trans hr)
    clear hi hr
    go_wp2_with fail
    refine (put_16 B bb b 8 _ _ _ HW.out.outs _ HI.out (by (try simp only [List.length_append, be32_length, be16_length]); omega) (Nat.le_trans HS.out HR.out.size) (by rw [cell_in HP2.out]; rfl) (by rw [cell_in HX.out]; rfl)).mono ?_
    rintro e w3 ⟨rfl, hi, hr⟩
    replace HX := Lib.hid (hr.block HX.out N0.out (by decide))
    replace HP1 := Lib.hid (hr.block HP1.out N1.out (by decide))
    replace HP2 := Lib.hid (hr.block HP2.out N2.out (by decide))
    replace HI := Lib.hid hi
    replace HR := Lib.hid (HR.out.trans hr)
    clear hi hr
    go_wp2_with fail
    refine (put_16 B bb b 9 _ _ _ HW.out.ins _ HI.out (by (try simp only [List.length_append, be32_length, be16_length]); omega) (Nat.le_trans HS.out HR.out.size) (by rw [cell_in HP2.out]; rfl) (by rw [cell_in HX.out]; rfl)).mono ?_
    rintro e w4 ⟨rfl, hi, hr⟩
    replace HX := Lib.hid (hr.block HX.out N0.out (by decide))
    replace HP1 := Lib.hid (hr.block HP1.out N1.out (by decide))
    replace HP2 := Lib.hid (hr.block HP2.out N2.out (by decide))
    replace HI := Lib.hid hi
    replace HR := Lib.hid (HR.out.trans hr)
    clear hi hr
    go_wp2_with fail
    refine (put_32 B bb b 2 _ _ _ HW.out.tsn _ HI.out (by (try simp only [List.length_append, be32_length, be16_length]); omega) (Nat.le_trans HS.out HR.out.size) (by rw [cell_in HP1.out]; rfl) (by rw [cell_in HX.out]; rfl)).mono ?_
    rintro e w5 ⟨rfl, hi, hr⟩
    replace HX := Lib.hid (hr.block HX.out N0.out (by decide))
    replace HP1 := Lib.hid (hr.block HP1.out N1.out (by decide))
    replace HP2 := Lib.hid (hr.block HP2.out N2.out (by decide))
    replace HI := Lib.hid hi
    replace HR := Lib.hid (HR.out.trans hr)
    clear hi hr
    go_wp2_with fail
    go_end0
    exact ⟨rfl, by have := HI.out; simpa [numsL, List.append_assoc] using this, HR.out⟩
  by_cases t2 : ty = 2
  · subst t2
    go_enter Try.func64, Try.ntmps64
    go_wp2_with fail
    refine (put_32 B bb b 3 _ _ _ HW.out.tag _ HI.out (by (try simp only [List.length_append, be32_length, be16_length]); omega) (Nat.le_trans HS.out HR.out.size) (by rw [cell_in HP1.out]; rfl) (by rw [cell_in HX.out]; rfl)).mono ?_
    rintro e w1 ⟨rfl, hi, hr⟩
    replace HX := Lib.hid (hr.block HX.out N0.out (by decide))
    replace HP1 := Lib.hid (hr.block HP1.out N1.out (by decide))
    replace HP2 := Lib.hid (hr.block HP2.out N2.out (by decide))
    replace HI := Lib.hid hi
    replace HR := Lib.hid (HR.out.trans hr)
    clear hi hr
    go_wp2_with fail
    refine (put_32 B bb b 4 _ _ _ HW.out.window _ HI.out (by (try simp only [List.length_append, be32_length, be16_length]); omega) (Nat.le_trans HS.out HR.out.size) (by rw [cell_in HP1.out]; rfl) (by rw [cell_in HX.out]; rfl)).mono ?_
    rintro e w2 ⟨rfl, hi, hr⟩
    replace HX := Lib.hid (hr.block HX.out N0.out (by decide))
    replace HP1 := Lib.hid (hr.block HP1.out N1.out (by decide))
    replace HP2 := Lib.hid (hr.block HP2.out N2.out (by decide))
    replace HI := Lib.hid hi
    replace HR := Lib.hid (HR.out.trans hr)
    clear hi hr
    go_wp2_with fail
    refine (put_16 B bb b 8 _ _ _ HW.out.outs _ HI.out (by (try simp only [List.length_append, be32_length, be16_length]); omega) (Nat.le_trans HS.out HR.out.size) (by rw [cell_in HP2.out]; rfl) (by rw [cell_in HX.out]; rfl)).mono ?_
    rintro e w3 ⟨rfl, hi, hr⟩
    replace HX := Lib.hid (hr.block HX.out N0.out (by decide))
    replace HP1 := Lib.hid (hr.block HP1.out N1.out (by decide))
    replace HP2 := Lib.hid (hr.block HP2.out N2.out (by decide))
    replace HI := Lib.hid hi
    replace HR := Lib.hid (HR.out.trans hr)
    clear hi hr
    go_wp2_with fail
    refine (put_16 B bb b 9 _ _ _ HW.out.ins _ HI.out (by (try simp only [List.length_append, be32_length, be16_length]); omega) (Nat.le_trans HS.out HR.out.size) (by rw [cell_in HP2.out]; rfl) (by rw [cell_in HX.out]; rfl)).mono ?_
    rintro e w4 ⟨rfl, hi, hr⟩
    replace HX := Lib.hid (hr.block HX.out N0.out (by decide))
    replace HP1 := Lib.hid (hr.block HP1.out N1.out (by decide))
    replace HP2 := Lib.hid (hr.block HP2.out N2.out (by decide))
    replace HI := Lib.hid hi
    replace HR := Lib.hid (HR.out.trans hr)
    clear hi hr
    go_wp2_with fail
    refine (put_32 B bb b 2 _ _ _ HW.out.tsn _ HI.out (by (try simp only [List.length_append, be32_length, be16_length]); omega) (Nat.le_trans HS.out HR.out.size) (by rw [cell_in HP1.out]; rfl) (by rw [cell_in HX.out]; rfl)).mono ?_
    rintro e w5 ⟨rfl, hi, hr⟩
    replace HX := Lib.hid (hr.block HX.out N0.out (by decide))
    replace HP1 := Lib.hid (hr.block HP1.out N1.out (by decide))
    replace HP2 := Lib.hid (hr.block HP2.out N2.out (by decide))
    replace HI := Lib.hid hi
    replace HR := Lib.hid (HR.out.trans hr)
    clear hi hr
    go_wp2_with fail
    go_end0
    exact ⟨rfl, by have := HI.out; simpa [numsL, List.append_assoc] using this, HR.out⟩
  by_cases t3 : ty = 3
  · subst t3
    go_enter Try.func64, Try.ntmps64
    go_wp2_with fail
    refine (put_32 B bb b 2 _ _ _ HW.out.tsn _ HI.out (by (try simp only [List.length_append, be32_length, be16_length]); omega) (Nat.le_trans HS.out HR.out.size) (by rw [cell_in HP1.out]; rfl) (by rw [cell_in HX.out]; rfl)).mono ?_
    rintro e w1 ⟨rfl, hi, hr⟩
    replace HX := Lib.hid (hr.block HX.out N0.out (by decide))
    replace HP1 := Lib.hid (hr.block HP1.out N1.out (by decide))
    replace HP2 := Lib.hid (hr.block HP2.out N2.out (by decide))
    replace HI := Lib.hid hi
    replace HR := Lib.hid (HR.out.trans hr)
    clear hi hr
    go_wp2_with fail
    refine (put_32 B bb b 4 _ _ _ HW.out.window _ HI.out (by (try simp only [List.length_append, be32_length, be16_length]); omega) (Nat.le_trans HS.out HR.out.size) (by rw [cell_in HP1.out]; rfl) (by rw [cell_in HX.out]; rfl)).mono ?_
    rintro e w2 ⟨rfl, hi, hr⟩
    replace HX := Lib.hid (hr.block HX.out N0.out (by decide))
    replace HP1 := Lib.hid (hr.block HP1.out N1.out (by decide))
    replace HP2 := Lib.hid (hr.block HP2.out N2.out (by decide))
    replace HI := Lib.hid hi
    replace HR := Lib.hid (HR.out.trans hr)
    clear hi hr
    go_wp2_with fail
    go_end0
    exact ⟨rfl, by have := HI.out; simpa [numsL, List.append_assoc] using this, HR.out⟩
  by_cases t7 : ty = 7
  · subst t7
    go_enter Try.func64, Try.ntmps64
    go_wp2_with fail
    refine (put_32 B bb b 2 _ _ _ HW.out.tsn _ HI.out (by (try simp only [List.length_append, be32_length, be16_length]); omega) (Nat.le_trans HS.out HR.out.size) (by rw [cell_in HP1.out]; rfl) (by rw [cell_in HX.out]; rfl)).mono ?_
    rintro e w1 ⟨rfl, hi, hr⟩
    replace HX := Lib.hid (hr.block HX.out N0.out (by decide))
    replace HP1 := Lib.hid (hr.block HP1.out N1.out (by decide))
    replace HP2 := Lib.hid (hr.block HP2.out N2.out (by decide))
    replace HI := Lib.hid hi
    replace HR := Lib.hid (HR.out.trans hr)
    clear hi hr
    go_wp2_with fail
    go_end0
    exact ⟨rfl, by have := HI.out; simpa [numsL, List.append_assoc] using this, HR.out⟩
  have n0 : (ty == 0) = false := beq_eq_false_iff_ne.2 t0
  have n1 : (ty == 1) = false := beq_eq_false_iff_ne.2 t1
  have n2 : (ty == 2) = false := beq_eq_false_iff_ne.2 t2
  have n3 : (ty == 3) = false := beq_eq_false_iff_ne.2 t3
  have n7 : (ty == 7) = false := beq_eq_false_iff_ne.2 t7
  go_enter Try.func64, Try.ntmps64
  go_wp2_with fail
  go_end0
  exact ⟨rfl, by have := HI.out; simpa [numsL, t0, t1, t2, t3, t7, List.append_assoc] using this, HR.out⟩
end Go.Proofs.Ytfdnphkdpmlbnaa
