/-
  Package order: the document's early; a message as the document has it; which of n: contracts.
-/
import Derived.Test.YtondgdacjbfihaaOh
namespace Go.Proofs.Ytondgdacjbfihaa
open Go.RowKit
set_option linter.unusedVariables false
set_option linter.unusedSimpArgs false
set_option maxRecDepth 100000

theorem retRM {fn : Func} {p : Tmp} (h : fn.results = #[.cell p 47]) {tmps : Array Value} {w : World} {g : Nat} {cs : Array Value} (hz : cs.size = 6) (hp : tmps.getD p undef = .pointer (some ⟨g, 0, none⟩)) (hg : Bx w g 47 cs) : (results fn tmps).run Try.prog w = .ok (.agg cs) w :=
  ret_cell h hp hg Try.underlying47 rfl (by rw [hz]; exact infoRM)
theorem one_any (m : Mg) (w : World) : Calls Try.prog 14 #[.agg (cellsMg m)] w fun e w' => e = .returned (.agg (cellsMg m)) ∧ Below w.heap.size w w' := by
  obtain ⟨W, hW, HP, HZ, HB, hs⟩ := two_open w 40 47 (cellsMg m) #[.int .u32 0, .bool false, .int .u16 0, .int .u16 0, .int .u32 0, .string ⟨#[]⟩]
  have p0 := HP.out.cell 0 (.int .u32 (m.fi.toNat : Int)) rfl
  have p1 := HP.out.cell 1 (.bool m.fr) rfl
  have p2 := HP.out.cell 2 (.int .u16 (m.st.toNat : Int)) rfl
  have p3 := HP.out.cell 3 (.int .u16 (m.ss.toNat : Int)) rfl
  have p4 := HP.out.cell 4 (.int .u32 (m.pp.toNat : Int)) rfl
  have p5 := HP.out.cell 5 (.string m.tx) rfl
  go_enter Try.func14, Try.ntmps14
  go_wp2_with ((with_reducible refine gate9 ?_); refine stB (ty := 47) (cellsMg m) rfl rfl rfl rfl HZ.out infoRM rfl (cellsMg_one _) ?_; intro w9 ht hg; replace HB := Lib.hid (below_of_grown1 HB.out hg HB.out.size (by omega)); replace HZ := Lib.hid ht; clear ht hg)
  exact bodyPost_ret (retRM rfl rfl rfl HZ.out) rfl ⟨rfl, HB.out⟩
def Fits (n : Int) : Prop := -9223372036854775808 ≤ n ∧ n ≤ 9223372036854775807
def pickI (c n : Int) : Int := (if c < 0 then -(c + 1) else c) % n
theorem pickI_le {c n : Int} (h : 0 < n) : 0 ≤ pickI c n ∧ pickI c n < n := ⟨Int.emod_nonneg _ (by omega), Int.emod_lt_of_pos _ h⟩
theorem pick_any (c n : Int) (hc : Fits c) (h : 0 < n) (h' : n ≤ 100) (w : World) : Calls Try.prog 15 #[.int .i64 c, .int .i64 n] w fun e w' => e = .returned (.int .i64 (pickI c n)) ∧ w' = w := by
  have h1 := pickI_le (c := c) h
  obtain ⟨h2, h3⟩ := hc
  have hn0 : n ≠ 0 := by omega
  by_cases hneg : c < 0
  · have HT := Lib.hid (show pickI c n = (-(c + 1)) % n by unfold pickI; rw [if_pos hneg])
    have e1 : Int.tmod (-(c + 1)) n = (-(c + 1)) % n := Int.tmod_eq_emod_of_nonneg (by omega)
    rw [HT.out] at h1
    generalize (-(c + 1)) % n = q at *
    generalize pickI c n = r at *
    have e2 : wrap64 q = q := by unfold wrap64; omega
    go_enter Try.func15, Try.ntmps15
    go_wp2_with fail
    go_ret
    exact ⟨ret_i64 (by rw [HT.out]), rfl⟩
  · have HT := Lib.hid (show pickI c n = c % n by unfold pickI; rw [if_neg hneg])
    have e1 : Int.tmod c n = c % n := Int.tmod_eq_emod_of_nonneg (by omega)
    rw [HT.out] at h1
    generalize c % n = q at *
    generalize pickI c n = r at *
    have e2 : wrap64 q = q := by unfold wrap64; omega
    go_enter Try.func15, Try.ntmps15
    go_wp2_with fail
    go_ret
    exact ⟨ret_i64 (by rw [HT.out]), rfl⟩
theorem early_any (n nx : UInt16) (w : World) : Calls Try.prog 28 #[.int .u16 (n.toNat : Int), .int .u16 (nx.toNat : Int)] w fun e w' => e = .returned (.bool (!pastB n nx)) ∧ w' = w := by
  obtain ⟨d, hd⟩ : ∃ d, n - nx = d := ⟨_, rfl⟩
  have s1 : ((n.toNat : Int) - (nx.toNat : Int)) % 65536 = (d.toNat : Int) := by
    rw [← hd, UInt16.toNat_sub]
    have := n.toNat_lt; have := nx.toNat_lt
    omega
  have s2 : IntKind.u16.wrap ((n.toNat : Int) - (nx.toNat : Int)) = (d.toNat : Int) := s1
  have hp : (!pastB n nx) = decide ((d.toNat : Int) < 32768) := by
    unfold pastB
    rw [hd, Bool.eq_iff_iff, Bool.not_eq_true', decide_eq_false_iff_not, decide_eq_true_iff]
    omega
  rw [hp]
  obtain ⟨b, hb⟩ : ∃ b, decide ((d.toNat : Int) < 32768) = b := ⟨_, rfl⟩
  rw [hb]
  generalize (d.toNat : Int) = dn at *
  clear hp hd
  go_enter Try.func28, Try.ntmps28
  go_wp2_with fail
  go_ret
  exact ⟨ret_bool (by first | rfl | exact hb | (rw [s2]; exact hb)), rfl⟩
end Go.Proofs.Ytondgdacjbfihaa
