/-
  Whether gaps rise: contracts.
-/
import Derived.Test.YtfdnphkdpmlbnaaCkMem
import Derived.BigQuiet
namespace Go.Proofs.Ytfdnphkdpmlbnaa
open Go.RowKit
set_option linter.unusedVariables false
set_option linter.unusedSimpArgs false
set_option maxRecDepth 100000

theorem apart_step (n : Nat) (l : List (Nat × Nat)) (k : Nat) (h : k < l.length) : apartB n (l.drop k) = (decide (n ≤ l[k].1 ∧ l[k].1 ≤ l[k].2) && apartB (l[k].2 + 2) (l.drop (k + 1))) := by
  rw [List.drop_eq_getElem_cons h, apartB]
set_option maxHeartbeats 2000000 in
theorem apart_any (l : List (Nat × Nat)) (hl : l.length ≤ 100000) (hw : ∀ g ∈ l, g.1 < 65536 ∧ g.2 < 65536) (v : Value) (w : World) (hv : RowG w v l) :
    Calls Try.prog 83 #[v] w fun e w' => e = .returned (.bool (apartB 1 l)) ∧ Below w.heap.size w w' := by
  obtain ⟨A, cap, rfl, hcap, hmax, hcells⟩ := hv
  have HC := Lib.hid hcells
  have HS := Lib.hid (fun n k h => apart_step n l k h)
  have HE := Lib.hid (fun n => show apartB n (l.drop l.length) = true from by rw [List.drop_length]; rfl)
  have HW := Lib.hid (fun k (h : k < l.length) => hw l[k] (List.getElem_mem h))
  have H0 := Lib.hid (show apartB 1 l = apartB 1 (l.drop 0) from rfl)
  have hl' : (l.length : Int) ≤ 100000 := by omega
  generalize apartB 1 l = q at *
  clear hcells hw
  go_enter Try.func83, Try.ntmps83
  go_wp2_with fail
  go_loopw [3, 10] (fun m i wr => ∃ (k n : Nat), k ≤ l.length ∧ i = .int .i64 k ∧ m = .int .i64 (n : Int) ∧ n ≤ 70000 ∧ Hid (q = apartB n (l.drop k)) ∧ Below w.heap.size w wr)
    (fun _ i _ => l.length - (intOf i).toNat)
  case atStart => exact ⟨0, 1, Nat.zero_le _, rfl, rfl, by omega, H0, Below.refl _ _⟩
  case round =>
    obtain ⟨k, n, hk, rfl, rfl, hn, HQ, hbr⟩ := hrel
    by_cases hlt : k < l.length
    · obtain ⟨b, off, rfl, hb, hc⟩ := HC.out (by omega)
      obtain ⟨hc0, hc1⟩ := hc k hlt
      have hx := HW.out k hlt
      have HQ1 := Lib.hid (HQ.out.trans (HS.out n k hlt))
      generalize l[k] = x at *
      obtain ⟨x, y⟩ := x
      dsimp only at hc0 hc1 hx HQ1
      obtain ⟨hx1, hx2⟩ := hx
      have hd0 := (hbr.cell (p := ⟨b, off + k * 2, none⟩) hb).trans hc0
      have hd1 := (hbr.cell (p := ⟨b, off + k * 2 + 1, none⟩) hb).trans hc1
      have hbs := hbr.size
      have hblt := Nat.lt_of_lt_of_le hb hbr.size
      have HB := Lib.hid hbr
      clear hc hc0 hc1 hbr HQ
      by_cases h1 : n ≤ x
      · by_cases h2 : x ≤ y
        · rw [decide_eq_true ⟨h1, h2⟩, Bool.true_and] at HQ1
          have i1 : (n : Int) ≤ (x : Int) := by omega
          have i2 : (x : Int) ≤ (y : Int) := by omega
          go_wp2_with fail
          go_quiet (fail)
          go_wp2_with fail
          go_roundw
          case rel => exact ⟨k + 1, y + 2, by omega, by go_num, by go_num, by omega, HQ1, below_drewN (HB.out.alloc hbs _) _⟩
          case measure => simp [intOf]; omega
        · rw [decide_eq_false (fun h => h2 h.2), Bool.false_and] at HQ1
          obtain rfl := HQ1.out
          have i1 : (n : Int) ≤ (x : Int) := by omega
          have i2 : ¬ (x : Int) ≤ (y : Int) := by omega
          go_wp2_with fail
          go_quiet (fail)
          go_wp2_with fail
          go_ret
          exact ⟨rfl, below_drewN (HB.out.alloc hbs _) _⟩
      · rw [decide_eq_false (fun h => h1 h.1), Bool.false_and] at HQ1
        obtain rfl := HQ1.out
        have i1 : ¬ (n : Int) ≤ (x : Int) := by omega
        go_wp2_with fail
        go_quiet (fail)
        go_wp2_with fail
        go_ret
        exact ⟨rfl, below_drewN (HB.out.alloc hbs _) _⟩
    · obtain rfl : k = l.length := by omega
      rw [HE.out n] at HQ
      obtain rfl := HQ.out
      go_wp2_with fail
      go_ret
      exact ⟨rfl, hbr⟩
end Go.Proofs.Ytfdnphkdpmlbnaa
