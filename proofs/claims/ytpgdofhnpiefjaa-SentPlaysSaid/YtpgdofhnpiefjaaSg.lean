/-
  Package sent: gaps, and whether what is told may be told: contracts.
-/
import Derived.Test.YtpgdofhnpiefjaaSf
namespace Go.Proofs.Ytpgdofhnpiefjaa
open Go.RowKit
set_option linter.unusedVariables false
set_option linter.unusedSimpArgs false
set_option maxRecDepth 100000

theorem infoGp : (Try.prog.info? 37).map (·.size) = some 2 := by kernel_rfl
def cellsGp (g : Nat × Nat) : Array Value := #[.int .u16 (g.1 : Int), .int .u16 (g.2 : Int)]
theorem lenGp (g : Nat × Nat) : (cellsGp g).toList.length = 2 := rfl
/-- The slice v reads as these gaps. -/
def RowGp (w : World) (v : Value) (l : List (Nat × Nat)) : Prop :=
  ∃ (A : Option Addr) (cap : Nat), v = .slice A l.length cap ∧ l.length ≤ cap ∧ cap ≤ maxLen ∧ (0 < l.length → ∃ b off, A = some ⟨b, off, none⟩ ∧ b < w.heap.size ∧ ∀ j (h : j < l.length), w.rangeAt b (off + j * 2) (cellsGp l[j]).toList)
theorem RowGp.below {w w' : World} {v : Value} {l : List (Nat × Nat)} (h : RowGp w v l) (hb : Below w.heap.size w w') : RowGp w' v l := by
  obtain ⟨A, cap, rfl, hc, hm, h⟩ := h
  refine ⟨A, cap, rfl, hc, hm, fun hl => ?_⟩
  obtain ⟨b, off, rfl, hlt, hcell⟩ := h hl
  exact ⟨b, off, rfl, Nat.lt_of_lt_of_le hlt hb.size, fun j hj => range_below (hcell j hj) hlt hb⟩
theorem RowGp.nil (w : World) : RowGp w (.slice none 0 0) [] := ⟨none, 0, rfl, Nat.le_refl _, Nat.zero_le _, fun h => absurd h (by simp)⟩
theorem RowGp.at {w : World} {v : Value} {l : List (Nat × Nat)} (h : RowGp w v l) {j : Nat} (hj : j < l.length) : ∃ b off cap, v = .slice (some ⟨b, off, none⟩) l.length cap ∧ b < w.heap.size ∧ l.length ≤ cap ∧ cap ≤ maxLen ∧ w.rangeAt b (off + j * 2) (cellsGp l[j]).toList := by
  obtain ⟨A, cap, rfl, h1, h2, h3⟩ := h
  obtain ⟨b, off, rfl, hb, hc⟩ := h3 (by omega)
  exact ⟨b, off, cap, rfl, hb, h1, h2, hc j hj⟩
def SmallG (l : List (Nat × Nat)) : Prop := ∀ g ∈ l, g.1 < 65536 ∧ g.2 < 65536
theorem in_any (a b far : Nat) (ha : a < 65536) (hb : b < 65536) (hf : far ≤ 100000) (w : World) : Calls Try.prog 31 #[.agg #[.int .u16 (a : Int), .int .u16 (b : Int)], .int .i64 (far : Int)] w fun e w' => e = .returned (.bool (inG far (a, b))) ∧ Below w.heap.size w w' := by
  obtain ⟨r, hr⟩ : ∃ r, inG far (a, b) = r := ⟨_, rfl⟩
  rw [hr]
  have HR := Lib.hid hr
  clear hr
  by_cases h1 : a ≤ far
  · have q1 : (a : Int) ≤ (far : Int) := by omega
    by_cases h2 : far ≤ b
    · have HT := Lib.hid (show inG far (a, b) = true by simp [inG, h1, h2])
      have q2 : (far : Int) ≤ (b : Int) := by omega
      clear h1 h2
      go_enter Try.func31, Try.ntmps31
      go_wp2_with fail
      all_goals go_ret
      all_goals exact ⟨ret_bool (by rw [← HR.out, HT.out]; try (simp; try omega)), below_one _ _⟩
    · have HT := Lib.hid (show inG far (a, b) = false by simp [inG, h2])
      have q2 : ¬ (far : Int) ≤ (b : Int) := by omega
      clear h1 h2
      go_enter Try.func31, Try.ntmps31
      go_wp2_with fail
      all_goals go_ret
      all_goals exact ⟨ret_bool (by rw [← HR.out, HT.out]; try (simp; try omega)), below_one _ _⟩
  · have HT := Lib.hid (show inG far (a, b) = false by simp [inG, h1])
    have q1 : ¬ (a : Int) ≤ (far : Int) := by omega
    clear h1
    go_enter Try.func31, Try.ntmps31
    go_wp2_with fail
    all_goals go_ret
    all_goals exact ⟨ret_bool (by rw [← HR.out, HT.out]; try (simp; try omega)), below_one _ _⟩
theorem bad_any (a b left g : Nat) (ha : a < 65536) (hb : b < 65536) (w : World) (hg : Bx w g 3 #[.int .i64 (left : Int)]) : Calls Try.prog 30 #[.agg #[.int .u16 (a : Int), .int .u16 (b : Int)], .pointer (some ⟨g, 0, none⟩)] w fun e w' => e = .returned (.bool (badG left (a, b))) ∧ Below w.heap.size w w' := by
  have g0 := (hg.later (below_one w (.cells #[.int .u16 (a : Int), .int .u16 (b : Int)] 37))).cell 0 (.int .i64 (left : Int)) rfl
  obtain ⟨r, hr⟩ : ∃ r, badG left (a, b) = r := ⟨_, rfl⟩
  rw [hr]
  have HR := Lib.hid hr
  clear hr hg
  by_cases h1 : a = 0
  · have HT := Lib.hid (show badG left (a, b) = true by simp [badG, h1])
    have q1 : ((a : Int) == 0) = true := by rw [h1]; rfl
    clear h1
    go_enter Try.func30, Try.ntmps30
    go_wp2_with fail
    all_goals go_ret
    all_goals exact ⟨ret_bool (by rw [← HR.out, HT.out]), below_one _ _⟩
  · have q1 : ((a : Int) == 0) = false := by rw [beq_eq_false_iff_ne]; omega
    by_cases h2 : b < a
    · have HT := Lib.hid (show badG left (a, b) = true by simp [badG, h2])
      have q2 : (b : Int) < (a : Int) := by omega
      clear h1 h2
      go_enter Try.func30, Try.ntmps30
      go_wp2_with fail
      all_goals go_ret
      all_goals exact ⟨ret_bool (by rw [← HR.out, HT.out]), below_one _ _⟩
    · have q2 : ¬ (b : Int) < (a : Int) := by omega
      by_cases h3 : left < b
      · have HT := Lib.hid (show badG left (a, b) = true by simp [badG, h3])
        have q3 : (left : Int) < (b : Int) := by omega
        clear h1 h2 h3
        go_enter Try.func30, Try.ntmps30
        go_wp2_with fail
        all_goals go_ret
        all_goals exact ⟨ret_bool (by rw [← HR.out, HT.out]), below_one _ _⟩
      · have HT := Lib.hid (show badG left (a, b) = false by simp [badG, h1, h2, h3])
        have q3 : ¬ (left : Int) < (b : Int) := by omega
        clear h1 h2 h3
        go_enter Try.func30, Try.ntmps30
        go_wp2_with fail
        all_goals go_ret
        all_goals exact ⟨ret_bool (by rw [← HR.out, HT.out]), below_one _ _⟩
section
variable {P : Program} {ops : Array Oper} {rest : List Oper} {o : Oper} {a : Act} {w : World} {Q : Exit → Act → World → Prop}
theorem ldGp {ty : TypeId} {x : Operand} {g i : Nat} {z : Nat × Nat} {d : TypeDesc} (hgd : o.guard = none) (ho : o.op = .load ty x) (hx : a.eval x = .pointer (some ⟨g, i, none⟩)) (h : w.rangeAt g i (cellsGp z).toList)
    (hu : P.underlying ty = some d) (hd : d.isRow = true) (hi : (P.info? ty).map (·.size) = some 2)
    (hk : wpList P ops Q rest (a.put o.dst (.agg #[.int .u16 (z.1 : Int), .int .u16 (z.2 : Int)])) w) : wpList P ops Q (o :: rest) a w :=
  ldP hgd ho hx h hu hd hi (by simpa [cellsGp] using hk)
end
/-- None of the first j. -/
def NoneG (f : Nat × Nat → Bool) (l : List (Nat × Nat)) (j : Nat) : Prop := ∀ i (h : i < l.length), i < j → f l[i] = false
theorem NoneG.zero (f : Nat × Nat → Bool) (l : List (Nat × Nat)) : NoneG f l 0 := fun i h h0 => absurd h0 (by omega)
theorem NoneG.next {f : Nat × Nat → Bool} {l : List (Nat × Nat)} {j : Nat} (h : NoneG f l j) (hj : j < l.length) (hf : f l[j] = false) : NoneG f l (j + 1) := fun i hi hij => by
  by_cases e : i = j
  · subst e; exact hf
  · exact h i hi (by omega)
theorem NoneG.all {f : Nat × Nat → Bool} {l : List (Nat × Nat)} (h : NoneG f l l.length) : l.any f = false := by
  rw [List.any_eq_false]
  intro x hx
  obtain ⟨i, hi, rfl⟩ := List.mem_iff_getElem.1 hx
  rw [h i hi hi]
  decide
theorem any_hit {f : Nat × Nat → Bool} {l : List (Nat × Nat)} {j : Nat} (hj : j < l.length) (hf : f l[j] = true) : l.any f = true := by
  rw [List.any_eq_true]
  exact ⟨_, List.getElem_mem hj, hf⟩
set_option maxHeartbeats 1000000 in
theorem indexG_any (l : List (Nat × Nat)) (hl : l.length ≤ 1000) (hsm : SmallG l) (left g : Nat) (v : Value) (w : World) (h : RowGp w v l) (hg : Bx w g 3 #[.int .i64 (left : Int)]) :
    Calls Try.prog 32 #[v, .func (.func 30) #[] #[.pointer (some ⟨g, 0, none⟩)]] w fun e w' => ∃ z : Int, e = .returned (.int .i64 z) ∧ decide (0 ≤ z) = l.any (badG left) ∧ Below w.heap.size w w' := by
  have HR := Lib.hid h
  obtain ⟨A, cap, rfl, _, hmx, _⟩ := id h
  have HHT := Lib.hid (fun a b ha hb W h => bad_any a b left g ha hb W h)
  have HG := Lib.hid hg
  have HSM := Lib.hid hsm
  obtain ⟨R, hR⟩ : ∃ R, l.any (badG left) = R := ⟨_, rfl⟩
  rw [hR]
  have HRR := Lib.hid hR
  clear h hg hsm hR
  go_enter Try.func32, Try.ntmps32
  go_wp2_with fail
  go_loopw [8] (fun i wr => ∃ j : Nat, j ≤ l.length ∧ i = .int .i64 j ∧ Hid (NoneG (badG left) l j) ∧ Hid (Below w.heap.size w wr))
    (fun i _ => l.length - (intOf i).toNat)
  case atStart => exact ⟨0, Nat.zero_le _, rfl, Lib.hid (NoneG.zero _ _), Lib.hid (Below.refl _ _)⟩
  case round =>
    obtain ⟨j, hj, rfl, HN, HW⟩ := hrel
    by_cases hlt : j < l.length
    · obtain ⟨b, off, cap', e9, hb, hc1, hc2, hrg⟩ := HR.out.at hlt
      cases e9
      have HRG := Lib.hid (range_below hrg hb HW.out)
      have HS2 := Lib.hid (HSM.out _ (List.getElem_mem hlt))
      have HXQ := Lib.hid (any_hit (f := badG left) hlt)
      have HNX := Lib.hid (HN.out.next hlt)
      have q1 : (0 : Int) ≤ (j : Int) := by omega
      have q2 : (j : Int) < (l.length : Int) := by omega
      have q3 : (l.length : Int) ≤ 1000 := by omega
      clear hrg
      generalize l[j] = x at *
      obtain ⟨x1, x2⟩ := x
      cases hbo : badG left (x1, x2) with
      | true =>
        have HBO := Lib.hid hbo
        have HE := Lib.hid (HRR.out.symm.trans (HXQ.out hbo))
        clear hbo HXQ HNX
        go_wp2_with (first
          | ((with_reducible refine gate9 ?_); refine ldGp (ty := 37) rfl rfl rfl HRG.out Try.underlying37 rfl infoGp ?_)
          | (go_at_call 30; (with_reducible refine (HHT.out x1 x2 HS2.out.1 HS2.out.2 _ (HG.out.later HW.out)).mono ?_); rintro e w1 ⟨rfl, hb5⟩; (try rw [HBO.out]); replace HW := Lib.hid (HW.out.trans (hb5.mono HW.out.size)); clear hb5))
        go_ret
        exact ⟨_, rfl, by rw [HE.out]; simp, HW.out⟩
      | false =>
        have HBO := Lib.hid hbo
        have HNN := Lib.hid (HNX.out hbo)
        clear hbo HXQ HNX
        go_wp2_with (first
          | ((with_reducible refine gate9 ?_); refine ldGp (ty := 37) rfl rfl rfl HRG.out Try.underlying37 rfl infoGp ?_)
          | (go_at_call 30; (with_reducible refine (HHT.out x1 x2 HS2.out.1 HS2.out.2 _ (HG.out.later HW.out)).mono ?_); rintro e w1 ⟨rfl, hb5⟩; (try rw [HBO.out]); replace HW := Lib.hid (HW.out.trans (hb5.mono HW.out.size)); clear hb5))
        go_roundw
        case rel => exact ⟨j + 1, by omega, by go_num, HNN, HW⟩
        case measure => simp [intOf]; omega
    · obtain rfl : j = l.length := by omega
      have HE := Lib.hid (HRR.out.symm.trans HN.out.all)
      go_wp2_with fail
      go_ret
      exact ⟨-1, rfl, by rw [HE.out]; rfl, HW.out⟩
theorem containsG_any (l : List (Nat × Nat)) (hl : l.length ≤ 1000) (hsm : SmallG l) (left g : Nat) (v : Value) (w : World) (h : RowGp w v l) (hg : Bx w g 3 #[.int .i64 (left : Int)]) :
    Calls Try.prog 29 #[v, .func (.func 30) #[] #[.pointer (some ⟨g, 0, none⟩)]] w fun e w' => e = .returned (.bool (l.any (badG left))) ∧ Below w.heap.size w w' := by
  have HC := Lib.hid (indexG_any l hl hsm left g v w h hg)
  go_enter Try.func29, Try.ntmps29
  go_wp2_with fail
  refine HC.out.mono ?_
  rintro e w1 ⟨z, rfl, hz, hb⟩
  have HZ := Lib.hid hz
  have HB := Lib.hid hb
  clear hz hb HC
  go_wp2_with fail
  go_ret
  exact ⟨ret_bool (by rw [← HZ.out]), HB.out⟩
end Go.Proofs.Ytpgdofhnpiefjaa
