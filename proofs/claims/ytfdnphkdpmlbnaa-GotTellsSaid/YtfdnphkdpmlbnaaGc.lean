/-
  Got, right or not; copies; numbers put in: contracts.
-/
import Derived.Test.YtfdnphkdpmlbnaaGb
import Derived.Test.YtfdnphkdpmlbnaaWaits
import Derived.Test.YtfdnphkdpmlbnaaWords
namespace Go.Proofs.Ytfdnphkdpmlbnaa
open Go.RowKit
set_option linter.unusedVariables false
set_option linter.unusedSimpArgs false
set_option maxRecDepth 100000

/-- Rising, from one to the next. -/
def Rise (c : UInt32) (l : List UInt32) (k : Nat) : Prop := ∀ j, j < k → (2 ≤ key c l[j]! ∧ key c l[j]! ≤ 4000) ∧ (0 < j → key c l[j - 1]! < key c l[j]!)
theorem rise_0 (c : UInt32) (l : List UInt32) : Rise c l 0 := fun j hj => absurd hj (by omega)
theorem rise_succ {c : UInt32} {l : List UInt32} {k : Nat} (h : Rise c l k) (h1 : 2 ≤ key c l[k]! ∧ key c l[k]! ≤ 4000) (h2 : 0 < k → key c l[k - 1]! < key c l[k]!) : Rise c l (k + 1) := fun j hj => by
  rcases Nat.lt_succ_iff_lt_or_eq.1 hj with h' | rfl
  · exact h j h'
  · exact ⟨h1, h2⟩
theorem rise_lt {c : UInt32} {l : List UInt32} (h : Rise c l l.length) : ∀ j i, i < j → j < l.length → key c l[i]! < key c l[j]! := by
  intro j
  induction j with
  | zero => intro i hi; exact absurd hi (by omega)
  | succ j ih =>
    intro i hi hj
    have h1 := (h (j + 1) hj).2 (by omega)
    rw [show j + 1 - 1 = j by omega] at h1
    by_cases e : i = j
    · subst e; exact h1
    · exact Nat.lt_trans (ih i (by omega) (by omega)) h1
theorem rise_right {c : UInt32} {l du : List UInt32} (h : Rise c l l.length) (hd : du.length ≤ 100) : RightG ⟨c, l, du⟩ := by
  refine ⟨strict_iff.2 (List.pairwise_iff_getElem.2 fun i j hi hj hij => ?_), fun x hx => ?_, hd⟩
  · have := rise_lt h j i hij hj
    rw [getElem!_pos l i hi, getElem!_pos l j hj] at this
    exact this
  · obtain ⟨j, hj, rfl⟩ := List.getElem_of_mem hx
    have := (h j hj).1
    rw [getElem!_pos l j hj] at this
    exact this
theorem right_rise {c : UInt32} {l du : List UInt32} (h : RightG ⟨c, l, du⟩) : Rise c l l.length := fun j hj => by
  refine ⟨?_, fun h0 => ?_⟩
  · rw [getElem!_pos l j hj]; exact h.near _ (List.getElem_mem hj)
  · rw [getElem!_pos l j hj, getElem!_pos l (j - 1) (by omega)]
    exact List.pairwise_iff_getElem.1 (strict_iff.1 h.strict) (j - 1) j (by show j - 1 < l.length; omega) hj (by omega)
noncomputable def rightB (g : Gt) : Bool := @decide (RightG g) (Classical.propDecidable _)
theorem rightB_yes {g : Gt} (h : RightG g) : rightB g = true := by unfold rightB; exact @decide_eq_true _ (Classical.propDecidable _) h
theorem rightB_no {g : Gt} (h : ¬ RightG g) : rightB g = false := by unfold rightB; exact @decide_eq_false _ (Classical.propDecidable _) h
theorem rightB_is {g : Gt} (h : rightB g = true) : RightG g := by
  by_cases hr : RightG g
  · exact hr
  · rw [rightB_no hr] at h; cases h
set_option maxHeartbeats 1000000 in
theorem right_any (c : UInt32) (ab du : List UInt32) (ha : ab.length ≤ maxLen) (hd : du.length ≤ maxLen) (va vd : Value) (w : World) (h1 : RowE enc32 w va ab) (h2 : RowE enc32 w vd du) : Calls Try.prog 11 #[.agg #[.int .u32 (c.toNat : Int), va, vd]] w fun e w' => e = .returned (.bool (rightB ⟨c, ab, du⟩)) ∧ Below w.heap.size w w' := by
  have HYES := Lib.hid (fun h : RightG ⟨c, ab, du⟩ => rightB_yes h)
  have HNOT := Lib.hid (fun h : ¬ RightG ⟨c, ab, du⟩ => rightB_no h)
  generalize rightB ⟨c, ab, du⟩ = r at *
  obtain ⟨W, hW, HA, HB, hs⟩ := one_open w 28 #[.int .u32 (c.toNat : Int), va, vd]
  have HV := Lib.hid (h1.below HB.out)
  have HD := Lib.hid (h2.below HB.out)
  obtain ⟨A, k, rfl, -, -, hcells⟩ := id HV.out
  obtain ⟨A', k', rfl, -, -, -⟩ := id HD.out
  have c0 := HA.out.cell 0 (.int .u32 (c.toNat : Int)) rfl
  have c1 := HA.out.cell 1 (.slice A ab.length k) rfl
  have c2 := HA.out.cell 2 (.slice A' du.length k') rfl
  have hlN : (ab.length : Int) ≤ 9223372036854775807 := by unfold maxLen at ha; omega
  have hdN : (du.length : Int) ≤ 9223372036854775807 := by unfold maxLen at hd; omega
  clear ha hd
  have HC := Lib.hid hcells
  clear hcells
  go_enter Try.func11, Try.ntmps11
  go_wp2_with fail
  go_loopw [3] (fun i wr => ∃ k : Nat, k ≤ ab.length ∧ i = .int .i64 k ∧ Hid (Rise c ab k) ∧ Hid (Below W.heap.size W wr))
    (fun i _ => ab.length - (intOf i).toNat)
  case atStart => exact ⟨0, Nat.zero_le _, rfl, Lib.hid (rise_0 _ _), Lib.hid (Below.refl _ _)⟩
  case round =>
    obtain ⟨m, hm, rfl, HRS, HW⟩ := hrel
    replace c0 := (HA.out.later HW.out).cell 0 (.int .u32 (c.toNat : Int)) rfl
    replace c1 := (HA.out.later HW.out).cell 1 (.slice A ab.length k) rfl
    replace c2 := (HA.out.later HW.out).cell 2 (.slice A' du.length k') rfl
    by_cases hlt : m < ab.length
    · obtain ⟨b, off, rfl, hb, hc⟩ := HC.out (by omega)
      have hck : wr.cell? ⟨b, off + m, none⟩ = some (.int .u32 (ab[m]!.toNat : Int)) := (HW.out.cell (p := ⟨b, off + m, none⟩) hb).trans (hc m hlt)
      have q4 : (0 : Int) ≤ (m : Int) := by omega
      have q5 : (m : Int) < (ab.length : Int) := by omega
      have hS := sub_toNat32 ab[m]! c
      have HK1 := Lib.hid (rise_succ (k := m) HRS.out)
      have HNO : Hid ((¬ (2 ≤ key c ab[m]! ∧ key c ab[m]! ≤ 4000) ∨ (0 < m ∧ ¬ key c ab[m - 1]! < key c ab[m]!)) → ¬ RightG ⟨c, ab, du⟩) := Lib.hid (fun h hr => by
        have h2 := right_rise hr m hlt
        rcases h with h | h
        · exact h h2.1
        · exact h.2 (h2.2 h.1))
      rw [show (ab[m]! - c).toNat = key c ab[m]! from rfl] at hS
      have hkl := key_lt c ab[m]!
      have hkp := fun h : 0 < m => hc (m - 1) (by omega)
      clear hc
      by_cases hlo : key c ab[m]! < 2
      · skip
        have HN := Lib.hid (HNO.out (.inl (by omega)))
        clear HNO HK1 hkp
        generalize key c ab[m]! = d at *
        generalize ab[m]!.toNat = x at *
        have g1 : decide ((d : Int) < 2) = true := decide_eq_true (by omega)
        have g1' : decide (d < 2) = true := decide_eq_true (by omega)
        clear hlo
        go_wp2_with fail
        go_quiet (fail)
        go_wp2_with fail
        go_quiet (fail)
        go_wp2_with fail
        go_ret
        exact ⟨by rw [HNOT.out HN.out]; rfl, HB.out.trans (Below.mono (show Below W.heap.size W _ from (by first | exact HW.out | exact below_drawn HW.out | exact below_drawn (below_drawn HW.out) | exact below_drawnN HW.out _ | exact below_drawnN (below_drawnN HW.out _) _)) (by omega))⟩
      · by_cases hhi : 4000 < key c ab[m]!
        · skip
          have HN := Lib.hid (HNO.out (.inl (by omega)))
          clear HNO HK1 hkp
          generalize key c ab[m]! = d at *
          generalize ab[m]!.toNat = x at *
          have g1 : decide ((d : Int) < 2) = false := decide_eq_false (by omega)
          have g1' : decide (d < 2) = false := decide_eq_false (by omega)
          have g2 : decide ((4000 : Int) < (d : Int)) = true := decide_eq_true (by omega)
          have g2' : decide (4000 < d) = true := decide_eq_true (by omega)
          clear hlo hhi
          go_wp2_with fail
          go_quiet (fail)
          go_wp2_with fail
          go_quiet (fail)
          go_wp2_with fail
          go_ret
          exact ⟨by rw [HNOT.out HN.out]; rfl, HB.out.trans (Below.mono (show Below W.heap.size W _ from (by first | exact HW.out | exact below_drawn HW.out | exact below_drawn (below_drawn HW.out) | exact below_drawnN HW.out _ | exact below_drawnN (below_drawnN HW.out _) _)) (by omega))⟩
        · by_cases h0 : m = 0
          · skip
            have HN := Lib.hid (HK1.out (by omega) (fun h => absurd h (by omega)))
            clear HNO HK1 hkp
            generalize key c ab[m]! = d at *
            generalize ab[m]!.toNat = x at *
            have g1 : decide ((d : Int) < 2) = false := decide_eq_false (by omega)
            have g1' : decide (d < 2) = false := decide_eq_false (by omega)
            have g2 : decide ((4000 : Int) < (d : Int)) = false := decide_eq_false (by omega)
            have g2' : decide (4000 < d) = false := decide_eq_false (by omega)
            have g3 : decide ((0 : Int) < (m : Int)) = false := decide_eq_false (by omega)
            have g3' : decide (0 < m) = false := decide_eq_false (by omega)
            clear hlo hhi h0
            go_wp2_with fail
            go_quiet (fail)
            go_wp2_with fail
            go_quiet (fail)
            go_wp2_with fail
            go_roundw
            case rel => exact ⟨m + 1, by omega, by go_num, HN, Lib.hid (by first | exact HW.out | exact below_drawn HW.out | exact below_drawn (below_drawn HW.out) | exact below_drawnN HW.out _ | exact below_drawnN (below_drawnN HW.out _) _)⟩
            case measure => simp [intOf]; omega
          · have hS2 := sub_toNat32 ab[m - 1]! c
            rw [show (ab[m - 1]! - c).toNat = key c ab[m - 1]! from rfl] at hS2
            have hck2 : wr.cell? ⟨b, off + (m - 1), none⟩ = some (.int .u32 (ab[m - 1]!.toNat : Int)) := (HW.out.cell (p := ⟨b, off + (m - 1), none⟩) hb).trans (hkp (by omega))
            by_cases hle : key c ab[m]! ≤ key c ab[m - 1]!
            · skip
              have HN := Lib.hid (HNO.out (.inr ⟨by omega, by omega⟩))
              clear HNO HK1 hkp
              generalize key c ab[m]! = d at *
              generalize ab[m]!.toNat = x at *
              generalize key c ab[m - 1]! = d2 at *
              generalize ab[m - 1]!.toNat = x2 at *
              obtain ⟨pm, hpm⟩ : ∃ pm : Nat, m - 1 = pm := ⟨_, rfl⟩
              rw [hpm] at hck2
              have g1 : decide ((d : Int) < 2) = false := decide_eq_false (by omega)
              have g1' : decide (d < 2) = false := decide_eq_false (by omega)
              have g2 : decide ((4000 : Int) < (d : Int)) = false := decide_eq_false (by omega)
              have g2' : decide (4000 < d) = false := decide_eq_false (by omega)
              have g3 : decide ((0 : Int) < (m : Int)) = true := decide_eq_true (by omega)
              have g3' : decide (0 < m) = true := decide_eq_true (by omega)
              have g5 : IntKind.i64.wrap ((m : Int) - 1) = (pm : Int) := by rw [IntKind.wrap_i64]; omega
              have g6 : (0 : Int) ≤ (pm : Int) := by omega
              have g7 : (pm : Int) < (ab.length : Int) := by omega
              have g4 : decide ((d : Int) ≤ (d2 : Int)) = true := decide_eq_true (by omega)
              have g4' : decide (d ≤ d2) = true := decide_eq_true (by omega)
              clear hlo hhi h0 hle hpm
              go_wp2_with fail
              go_quiet (fail)
              go_wp2_with fail
              go_quiet (fail)
              go_wp2_with fail
              go_ret
              exact ⟨by rw [HNOT.out HN.out]; rfl, HB.out.trans (Below.mono (show Below W.heap.size W _ from (by first | exact HW.out | exact below_drawn HW.out | exact below_drawn (below_drawn HW.out) | exact below_drawnN HW.out _ | exact below_drawnN (below_drawnN HW.out _) _)) (by omega))⟩
            · skip
              have HN := Lib.hid (HK1.out (by omega) (fun h => by omega))
              clear HNO HK1 hkp
              generalize key c ab[m]! = d at *
              generalize ab[m]!.toNat = x at *
              generalize key c ab[m - 1]! = d2 at *
              generalize ab[m - 1]!.toNat = x2 at *
              obtain ⟨pm, hpm⟩ : ∃ pm : Nat, m - 1 = pm := ⟨_, rfl⟩
              rw [hpm] at hck2
              have g1 : decide ((d : Int) < 2) = false := decide_eq_false (by omega)
              have g1' : decide (d < 2) = false := decide_eq_false (by omega)
              have g2 : decide ((4000 : Int) < (d : Int)) = false := decide_eq_false (by omega)
              have g2' : decide (4000 < d) = false := decide_eq_false (by omega)
              have g3 : decide ((0 : Int) < (m : Int)) = true := decide_eq_true (by omega)
              have g3' : decide (0 < m) = true := decide_eq_true (by omega)
              have g5 : IntKind.i64.wrap ((m : Int) - 1) = (pm : Int) := by rw [IntKind.wrap_i64]; omega
              have g6 : (0 : Int) ≤ (pm : Int) := by omega
              have g7 : (pm : Int) < (ab.length : Int) := by omega
              have g4 : decide ((d : Int) ≤ (d2 : Int)) = false := decide_eq_false (by omega)
              have g4' : decide (d ≤ d2) = false := decide_eq_false (by omega)
              clear hlo hhi h0 hle hpm
              go_wp2_with fail
              go_quiet (fail)
              go_wp2_with fail
              go_quiet (fail)
              go_wp2_with fail
              go_roundw
              case rel => exact ⟨m + 1, by omega, by go_num, HN, Lib.hid (by first | exact HW.out | exact below_drawn HW.out | exact below_drawn (below_drawn HW.out) | exact below_drawnN HW.out _ | exact below_drawnN (below_drawnN HW.out _) _)⟩
              case measure => simp [intOf]; omega
    · obtain rfl : m = ab.length := by omega
      by_cases hd100 : du.length ≤ 100
      · have HN := Lib.hid (rise_right HRS.out hd100)
        have g1 : (du.length : Int) ≤ 100 := by omega
        clear hd100
        go_wp2_with fail
        go_ret
        exact ⟨by rw [HYES.out HN.out]; rfl, HB.out.trans (HW.out.mono (by omega))⟩
      · have HN : Hid (¬ RightG ⟨c, ab, du⟩) := Lib.hid (fun h => hd100 h.dups)
        have g1 : ¬ (du.length : Int) ≤ 100 := by omega
        clear hd100
        go_wp2_with fail
        go_ret
        exact ⟨by rw [HNOT.out HN.out]; rfl, HB.out.trans (HW.out.mono (by omega))⟩
end Go.Proofs.Ytfdnphkdpmlbnaa
