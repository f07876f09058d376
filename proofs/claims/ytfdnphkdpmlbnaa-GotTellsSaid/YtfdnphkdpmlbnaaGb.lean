/-
  Got, right or not: contracts.
-/
import Derived.Test.YtfdnphkdpmlbnaaGa
namespace Go.Proofs.Ytfdnphkdpmlbnaa
open Go.RowKit
set_option linter.unusedVariables false
set_option linter.unusedSimpArgs false
set_option maxRecDepth 100000

theorem before_is (a b : UInt32) : before32 (a.toNat : Int) (b.toNat : Int) = decide ((b - a).toNat ≠ 0 ∧ (b - a).toNat < 2147483648) := by
  unfold before32 dist32
  rw [decide_eq_decide, UInt32.toNat_sub]
  have := a.toNat_lt; have := b.toNat_lt
  omega
theorem has_any (c : UInt32) (ab du : List UInt32) (ha : ab.length ≤ 1000000) (hd : du.length ≤ 1000000) (va vd : Value) (w : World) (h1 : RowE enc32 w va ab) (h2 : RowE enc32 w vd du) (n : UInt32) : Calls Try.prog 16 #[.agg #[.int .u32 (c.toNat : Int), va, vd], .int .u32 (n.toNat : Int)] w fun e w' => e = .returned (.bool (hasB ⟨c, ab, du⟩ n)) ∧ Below w.heap.size w w' := by
  obtain ⟨W, hW, HA, HB, hs⟩ := one_open w 25 #[.int .u32 (c.toNat : Int), va, vd]
  have HV := Lib.hid (h1.below HB.out)
  have HD := Lib.hid (h2.below HB.out)
  obtain ⟨A, k, rfl, -, -, hcells⟩ := id HV.out
  obtain ⟨A', k', rfl, -, -, -⟩ := id HD.out
  have c0 := HA.out.cell 0 (.int .u32 (c.toNat : Int)) rfl
  have c1 := HA.out.cell 1 (.slice A ab.length k) rfl
  have c2 := HA.out.cell 2 (.slice A' du.length k') rfl
  have hn := n.toNat_lt
  have hc := c.toNat_lt
  have HX := Lib.hid (contains_any ab ha _ n W HV.out)
  have HBF := Lib.hid (before_any (n.toNat : Int) (c.toNat : Int) (by omega) (by omega) (by omega) (by omega) W)
  have HR : Hid (hasB ⟨c, ab, du⟩ n = (decide (n = c) || decide ((c - n).toNat ≠ 0 ∧ (c - n).toNat < 2147483648) || decide (n ∈ ab))) := Lib.hid (by
    unfold hasB
    congr 1
    by_cases e : n = c
    · subst e
      rw [UInt32.sub_self]; simp
    · have : (c - n).toNat ≠ 0 := fun h => e (by
        have h2 : c - n = 0 := UInt32.toNat_inj.1 h
        have := congrArg (· + n) h2
        simpa using this.symm)
      simp [e, this])
  rw [before_is] at HBF
  generalize hasB ⟨c, ab, du⟩ n = r at *
  generalize decide ((c - n).toNat ≠ 0 ∧ (c - n).toNat < 2147483648) = b1 at *
  generalize decide (n ∈ ab) = b2 at *
  by_cases he : n = c
  · have hq : ((n.toNat : Int) == (c.toNat : Int)) = true := by rw [he]; simp
    have HT : Hid (r = true) := Lib.hid (by rw [HR.out, decide_eq_true he]; rfl)
    clear he
    go_enter Try.func16, Try.ntmps16
    go_wp2_with fail
    go_ret
    exact ⟨by rw [HT.out]; rfl, HB.out⟩
  · have hq : ((n.toNat : Int) == (c.toNat : Int)) = false := by rw [beq_eq_false_iff_ne]; exact fun h => he (UInt32.toNat_inj.1 (by omega))
    rw [decide_eq_false he] at HR
    clear he
    cases b1
    · have HT : Hid (r = b2) := Lib.hid (by rw [HR.out]; rfl)
      go_enter Try.func16, Try.ntmps16
      go_wp2_with (first
    | (go_at_call 37; (with_reducible refine HBF.out.mono ?_); rintro e w5 ⟨rfl, rfl⟩)
    | (go_at_call 38; (with_reducible refine HX.out.mono ?_); rintro e w5 ⟨rfl, rfl⟩))
      go_ret
      exact ⟨by rw [HT.out]; rfl, HB.out⟩
    · have HT : Hid (r = true) := Lib.hid (by rw [HR.out]; rfl)
      go_enter Try.func16, Try.ntmps16
      go_wp2_with (first
    | (go_at_call 37; (with_reducible refine HBF.out.mono ?_); rintro e w5 ⟨rfl, rfl⟩))
      go_ret
      exact ⟨by rw [HT.out]; rfl, HB.out⟩
theorem rhas_any (c : UInt32) (ab du : List UInt32) (ha : ab.length ≤ 1000000) (hd : du.length ≤ 1000000) (va vd : Value) (w : World) (h1 : RowE enc32 w va ab) (h2 : RowE enc32 w vd du) (n : UInt32) : Calls Try.prog 17 #[.agg #[.int .u32 (c.toNat : Int), va, vd], .int .u32 (n.toNat : Int)] w fun e w' => e = .returned (.bool (hasB ⟨c, ab, du⟩ n)) ∧ Below w.heap.size w w' := by
  obtain ⟨W, hW, HA, HB, hs⟩ := one_open w 28 #[.int .u32 (c.toNat : Int), va, vd]
  have HV := Lib.hid (h1.below HB.out)
  have HD := Lib.hid (h2.below HB.out)
  obtain ⟨A, k, rfl, -, -, hcells⟩ := id HV.out
  obtain ⟨A', k', rfl, -, -, -⟩ := id HD.out
  have c0 := HA.out.cell 0 (.int .u32 (c.toNat : Int)) rfl
  have c1 := HA.out.cell 1 (.slice A ab.length k) rfl
  have c2 := HA.out.cell 2 (.slice A' du.length k') rfl
  have HX := Lib.hid (ramong_any ab ha _ n W HV.out)
  have HR : Hid (hasB ⟨c, ab, du⟩ n = (decide ((c - n).toNat < 2147483648) || decide (n ∈ ab))) := Lib.hid rfl
  have hS := sub_toNat32 c n
  generalize hasB ⟨c, ab, du⟩ n = r at *
  generalize decide (n ∈ ab) = b2 at *
  generalize (c - n).toNat = d at *
  by_cases he : d < 2147483648
  · have hq : (d : Int) < 2147483648 := by omega
    have HT : Hid (r = true) := Lib.hid (by rw [HR.out, decide_eq_true he]; rfl)
    clear he
    go_enter Try.func17, Try.ntmps17
    go_wp2_with fail
    go_ret
    exact ⟨by rw [HT.out]; rfl, HB.out⟩
  · have hq : ¬ (d : Int) < 2147483648 := by omega
    have HT : Hid (r = b2) := Lib.hid (by rw [HR.out, decide_eq_false he]; rfl)
    clear he
    go_enter Try.func17, Try.ntmps17
    go_wp2_with (go_at_call 36; (with_reducible refine HX.out.mono ?_); rintro e w5 ⟨rfl, rfl⟩)
    go_ret
    exact ⟨by rw [HT.out]; rfl, HB.out⟩
/-- The last one. -/
def lastG (g : Gt) : UInt32 := if g.ab.length = 0 then g.cum else g.ab[g.ab.length - 1]!
theorem last_any (c : UInt32) (ab du : List UInt32) (ha : ab.length ≤ 1000000) (hd : du.length ≤ 1000000) (va vd : Value) (w : World) (h1 : RowE enc32 w va ab) (h2 : RowE enc32 w vd du) : Calls Try.prog 26 #[.agg #[.int .u32 (c.toNat : Int), va, vd]] w fun e w' => e = .returned (.int .u32 ((lastG ⟨c, ab, du⟩).toNat : Int)) ∧ Below w.heap.size w w' := by
  obtain ⟨W, hW, HA, HB, hs⟩ := one_open w 25 #[.int .u32 (c.toNat : Int), va, vd]
  have HV := Lib.hid (h1.below HB.out)
  have HD := Lib.hid (h2.below HB.out)
  obtain ⟨A, k, rfl, -, -, hcells⟩ := id HV.out
  obtain ⟨A', k', rfl, -, -, -⟩ := id HD.out
  have c0 := HA.out.cell 0 (.int .u32 (c.toNat : Int)) rfl
  have c1 := HA.out.cell 1 (.slice A ab.length k) rfl
  have c2 := HA.out.cell 2 (.slice A' du.length k') rfl
  by_cases h0 : ab.length = 0
  · have HT : Hid (lastG ⟨c, ab, du⟩ = c) := Lib.hid (if_pos h0)
    generalize lastG ⟨c, ab, du⟩ = r at *
    have hq : ((ab.length : Int) == 0) = true := by rw [h0]; rfl
    clear h0 hcells
    go_enter Try.func26, Try.ntmps26
    go_wp2_with fail
    go_ret
    exact ⟨by rw [HT.out]; rfl, HB.out⟩
  · have HT : Hid (lastG ⟨c, ab, du⟩ = ab[ab.length - 1]!) := Lib.hid (if_neg h0)
    generalize lastG ⟨c, ab, du⟩ = r at *
    obtain ⟨b, off, rfl, hb, hc⟩ := hcells (by omega)
    obtain ⟨m, hm⟩ : ∃ m, ab.length = m + 1 := ⟨ab.length - 1, by omega⟩
    have hck : W.cell? ⟨b, off + m, none⟩ = some (.int .u32 (ab[m]!.toNat : Int)) := hc m (by omega)
    have HT2 : Hid (r = ab[m]!) := Lib.hid (by rw [HT.out, hm]; rfl)
    rw [hm] at c1
    generalize ab[m]! = x at *
    have HM := Lib.hid hm
    have hm1 : m ≤ 1000000 := by omega
    have hq : ((m : Int) + 1 == 0) = false := by rw [beq_eq_false_iff_ne]; omega
    have hq2 : wrap64 ((m : Int) + 1 - 1) = (m : Int) := by unfold wrap64; omega
    clear h0 hc HT hm
    go_enter Try.func26, Try.ntmps26
    go_wp2_with fail
    go_ret
    exact ⟨by rw [HT2.out]; rfl, HB.out⟩
theorem rlast_any (c : UInt32) (ab du : List UInt32) (ha : ab.length ≤ 1000000) (hd : du.length ≤ 1000000) (va vd : Value) (w : World) (h1 : RowE enc32 w va ab) (h2 : RowE enc32 w vd du) : Calls Try.prog 27 #[.agg #[.int .u32 (c.toNat : Int), va, vd]] w fun e w' => e = .returned (.int .u32 ((lastG ⟨c, ab, du⟩).toNat : Int)) ∧ Below w.heap.size w w' := by
  obtain ⟨W, hW, HA, HB, hs⟩ := one_open w 28 #[.int .u32 (c.toNat : Int), va, vd]
  have HV := Lib.hid (h1.below HB.out)
  have HD := Lib.hid (h2.below HB.out)
  obtain ⟨A, k, rfl, -, -, hcells⟩ := id HV.out
  obtain ⟨A', k', rfl, -, -, -⟩ := id HD.out
  have c0 := HA.out.cell 0 (.int .u32 (c.toNat : Int)) rfl
  have c1 := HA.out.cell 1 (.slice A ab.length k) rfl
  have c2 := HA.out.cell 2 (.slice A' du.length k') rfl
  by_cases h0 : ab.length = 0
  · have HT : Hid (lastG ⟨c, ab, du⟩ = c) := Lib.hid (if_pos h0)
    generalize lastG ⟨c, ab, du⟩ = r at *
    have hq : ((ab.length : Int) == 0) = true := by rw [h0]; rfl
    clear h0 hcells
    go_enter Try.func27, Try.ntmps27
    go_wp2_with fail
    go_ret
    exact ⟨by rw [HT.out]; rfl, HB.out⟩
  · have HT : Hid (lastG ⟨c, ab, du⟩ = ab[ab.length - 1]!) := Lib.hid (if_neg h0)
    generalize lastG ⟨c, ab, du⟩ = r at *
    obtain ⟨b, off, rfl, hb, hc⟩ := hcells (by omega)
    obtain ⟨m, hm⟩ : ∃ m, ab.length = m + 1 := ⟨ab.length - 1, by omega⟩
    have hck : W.cell? ⟨b, off + m, none⟩ = some (.int .u32 (ab[m]!.toNat : Int)) := hc m (by omega)
    have HT2 : Hid (r = ab[m]!) := Lib.hid (by rw [HT.out, hm]; rfl)
    rw [hm] at c1
    generalize ab[m]! = x at *
    have HM := Lib.hid hm
    have hm1 : m ≤ 1000000 := by omega
    have hq : ((m : Int) + 1 == 0) = false := by rw [beq_eq_false_iff_ne]; omega
    have hq2 : wrap64 ((m : Int) + 1 - 1) = (m : Int) := by unfold wrap64; omega
    clear h0 hc HT hm
    go_enter Try.func27, Try.ntmps27
    go_wp2_with fail
    go_ret
    exact ⟨by rw [HT2.out]; rfl, HB.out⟩
end Go.Proofs.Ytfdnphkdpmlbnaa
