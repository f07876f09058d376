/-
  What was lost halves a window, but not below 6000, and what nothing was heard of makes it 1500: any window.
-/
import Derived.Test.YtdlnmmcnpdfbmaaLift
import Derived.Test.YtdlnmmcnpdfbmaaShown
import Derived.Test.YtdlnmmcnpdfbmaaArgs
namespace Go.Proofs.Ytdlnmmcnpdfbmaa.windowLosses
open Go.ChangeShapes Go.WideShapes Go.ChangeAt Go.RowKit
set_option linter.unusedVariables false

set_option linter.unusedSimpArgs false
set_option maxHeartbeats 1000000 in
set_option maxRecDepth 100000 in
theorem walk_out (t : Wn) (h : t.cw < 1500 ∨ (¬ t.cw < 1500 ∧ 1073741824 < t.cw)) (w : World) : Calls Try.prog 5 #[.agg (cellsT t)] w fun e w' => e = .returned (.bool true) ∧ Below w.heap.size w w' := by
  obtain ⟨cw, ss, pa⟩ := t
  have HS := Lib.hid (fun W => shown_any W)
  have HA := Lib.hid (BS.first w 25 (cellsT (⟨cw, ss, pa⟩ : Wn)))
  obtain ⟨g0, hg0⟩ : ∃ g, w.heap.size = g := ⟨_, rfl⟩
  rw [hg0] at HA
  have c0 := HA.out.own.cell 0 (.int .i64 ((⟨cw, ss, pa⟩ : Wn)).cw) rfl
  have c1 := HA.out.own.cell 1 (.int .i64 ((⟨cw, ss, pa⟩ : Wn)).ss) rfl
  have c2 := HA.out.own.cell 2 (.int .i64 ((⟨cw, ss, pa⟩ : Wn)).pa) rfl
  simp only at h
  rcases h with h | ⟨h, h'⟩
  all_goals
    go_enter Try.func5, Try.ntmps5
    go_wp2_with (first
    | (go_at_call 7; (with_reducible refine (HS.out _).mono ?_); rintro e w1 ⟨rfl, hb⟩; clear c0 c1 c2; replace HA := Lib.hid (HA.out.later hb); clear hb; have c0 := HA.out.own.cell 0 (.int .i64 ((⟨cw, ss, pa⟩ : Wn)).cw) rfl; have c1 := HA.out.own.cell 1 (.int .i64 ((⟨cw, ss, pa⟩ : Wn)).ss) rfl; have c2 := HA.out.own.cell 2 (.int .i64 ((⟨cw, ss, pa⟩ : Wn)).pa) rfl))
    go_ret
    exact ⟨rfl, HA.out.below⟩
set_option maxHeartbeats 2000000 in
set_option maxRecDepth 100000 in
theorem walk_in1 (t : Wn) (h1 : ¬ t.cw < 1500) (h2 : ¬ 1073741824 < t.cw) (w : World) : Calls Try.prog 5 #[.agg (cellsT t)] w fun e w' => e = .returned (.bool true) ∧ Below w.heap.size w w' := by
  obtain ⟨hf, hhf⟩ : ∃ h, halfI (heldT t) = h := ⟨_, rfl⟩
  have hcw : (heldT t).cw = t.cw := by
    show max (keptI t.cw) 1500 = t.cw
    rw [keptI_in (by omega) (by omega)]
    omega
  have hhf' : hf = max (t.cw / 2) 6000 := by rw [← hhf, ← hcw]; rfl
  obtain ⟨mi, hmi⟩ : ∃ m, min t.cw hf = m := ⟨_, rfl⟩
  have HL1 := Lib.hid (fun W => lost_any t W)
  have HL2 := Lib.hid (fun W => timeout_any t W)
  have HL3 := Lib.hid (fun W => idle_any t W)
  have e1 : halvedT (heldT t) = ⟨hf, hf, 0⟩ := by unfold halvedT; rw [hhf]
  have e2 : restartedT (heldT t) = ⟨1500, hf, 0⟩ := by unfold restartedT; rw [hhf]
  have e3 : restedT (heldT t) = ⟨mi, (heldT t).ss, (heldT t).pa⟩ := by unfold restedT; rw [hhf, hcw, hmi]
  rw [e1] at HL1
  rw [e2] at HL2
  rw [e3] at HL3
  generalize (heldT t).ss = s9 at *
  generalize (heldT t).pa = p9 at *
  clear e1 e2 e3 hhf hcw
  have HS1 : Hid (∀ W : World, Calls Try.prog 14 #[.agg #[.int .i64 hf, .int .i64 hf, .int .i64 0]] W fun e W' => e = .returned (.bool true) ∧ Below W.heap.size W W') := Lib.hid (fun W => by
    have h := slow_any ⟨hf, hf, 0⟩ W
    have hb : slowB ⟨hf, hf, 0⟩ = true := by
      refine decide_eq_true ?_
      show max (keptI hf) 1500 ≤ keptI hf
      unfold keptI; omega
    rw [hb] at h
    exact h)
  have HS2 : Hid (∀ W : World, Calls Try.prog 14 #[.agg #[.int .i64 1500, .int .i64 hf, .int .i64 0]] W fun e W' => e = .returned (.bool true) ∧ Below W.heap.size W W') := Lib.hid (fun W => by
    have h := slow_any ⟨1500, hf, 0⟩ W
    have hb : slowB ⟨1500, hf, 0⟩ = true := by
      refine decide_eq_true ?_
      show max (keptI 1500) 1500 ≤ keptI hf
      unfold keptI; omega
    rw [hb] at h
    exact h)
  obtain ⟨cw, ss, pa⟩ := t
  simp only at h1 h2 hhf' hmi
  have HS := Lib.hid (fun W => shown_any W)
  have HA := Lib.hid (BS.first w 25 (cellsT (⟨cw, ss, pa⟩ : Wn)))
  obtain ⟨g0, hg0⟩ : ∃ g, w.heap.size = g := ⟨_, rfl⟩
  have hwg : w.heap.size ≤ g0 := by omega
  rw [hg0] at HA
  have c0 := HA.out.own.cell 0 (.int .i64 ((⟨cw, ss, pa⟩ : Wn)).cw) rfl
  have c1 := HA.out.own.cell 1 (.int .i64 ((⟨cw, ss, pa⟩ : Wn)).ss) rfl
  have c2 := HA.out.own.cell 2 (.int .i64 ((⟨cw, ss, pa⟩ : Wn)).pa) rfl
  have hq : Int.tdiv cw 2 = cw / 2 := Int.tdiv_eq_ediv_of_nonneg (by omega)
  have hq2 : wrap64 (cw / 2) = cw / 2 := by unfold wrap64; omega
  have hq3 : (if cw / 2 < 6000 then 6000 else cw / 2) = hf := by omega
  have hq4 : (if hf < cw then hf else cw) = mi := by omega
  clear hhf' hmi
  go_enter Try.func5, Try.ntmps5
  go_wp2_with (first
    | (go_at_call 7; (with_reducible refine (HS.out _).mono ?_); rintro e w1 ⟨rfl, hb⟩; clear c0 c1 c2; replace HA := Lib.hid (HA.out.later hb); clear hb; have c0 := HA.out.own.cell 0 (.int .i64 ((⟨cw, ss, pa⟩ : Wn)).cw) rfl; have c1 := HA.out.own.cell 1 (.int .i64 ((⟨cw, ss, pa⟩ : Wn)).ss) rfl; have c2 := HA.out.own.cell 2 (.int .i64 ((⟨cw, ss, pa⟩ : Wn)).pa) rfl)
    | (refine gate9 ?_; refine ldW (.tmp 1) g0 rfl rfl rfl HA.out.own ?_))
  clear c0 c1 c2 hg0
  refine (HL1.out _).mono ?_
  rintro e w1 ⟨rfl, hb⟩
  replace HA := Lib.hid (HA.out.later hb)
  clear hb
  have HN1 := Lib.hid (BS.made HA.out.below 25 (cellsT zeroT))
  have HF1 := Lib.hid (Bx.fresh w1 25 (cellsT zeroT))
  have hw1 := HA.out.below.size
  have l1HA := HA.out.own.lt
  replace HA := Lib.hid (HA.out.alloc (.cells #[.int .i64 0, .int .i64 0, .int .i64 0] 25))
  obtain ⟨g1, hg1⟩ : ∃ g, w1.heap.size = g := ⟨_, rfl⟩
  rw [hg1] at HN1 HF1 hw1 l1HA
  go_wp2_with (first
    | (refine gate9 ?_; refine stW (.tmp 4) (.tmp 23) g1 ⟨hf, hf, 0⟩ rfl rfl rfl rfl HF1.out ?_; intro w2 ht hg; replace HN1 := Lib.hid (HN1.out.set ht hg); replace HA := Lib.hid (HA.out.kept hg hw1 (Nat.ne_of_lt l1HA)); clear ht hg HF1 hw1 hg1 l1HA)
    | (refine gate9 ?_; refine ldW (.tmp 1) g0 rfl rfl rfl HA.out.own ?_))
  refine (HL2.out _).mono ?_
  rintro e w1 ⟨rfl, hb⟩
  replace HA := Lib.hid (HA.out.later hb)
  replace HN1 := Lib.hid (HN1.out.later hb)
  clear hb
  have HN2 := Lib.hid (BS.made HA.out.below 25 (cellsT zeroT))
  have HF2 := Lib.hid (Bx.fresh w1 25 (cellsT zeroT))
  have hw2 := HA.out.below.size
  have l2HA := HA.out.own.lt
  replace HA := Lib.hid (HA.out.alloc (.cells #[.int .i64 0, .int .i64 0, .int .i64 0] 25))
  have l2HN1 := HN1.out.own.lt
  replace HN1 := Lib.hid (HN1.out.alloc (.cells #[.int .i64 0, .int .i64 0, .int .i64 0] 25))
  obtain ⟨g2, hg2⟩ : ∃ g, w1.heap.size = g := ⟨_, rfl⟩
  rw [hg2] at HN2 HF2 hw2 l2HA l2HN1
  go_wp2_with (first
    | (refine gate9 ?_; refine stW (.tmp 5) (.tmp 25) g2 ⟨1500, hf, 0⟩ rfl rfl rfl rfl HF2.out ?_; intro w2 ht hg; replace HN2 := Lib.hid (HN2.out.set ht hg); replace HA := Lib.hid (HA.out.kept hg hw2 (Nat.ne_of_lt l2HA)); replace HN1 := Lib.hid (HN1.out.kept hg hw2 (Nat.ne_of_lt l2HN1)); clear ht hg HF2 hw2 hg2 l2HA l2HN1)
    | (refine gate9 ?_; refine ldW (.tmp 1) g0 rfl rfl rfl HA.out.own ?_))
  refine (HL3.out _).mono ?_
  rintro e w1 ⟨rfl, hb⟩
  replace HA := Lib.hid (HA.out.later hb)
  replace HN1 := Lib.hid (HN1.out.later hb)
  replace HN2 := Lib.hid (HN2.out.later hb)
  clear hb
  have HN3 := Lib.hid (BS.made HA.out.below 25 (cellsT zeroT))
  have HF3 := Lib.hid (Bx.fresh w1 25 (cellsT zeroT))
  have hw3 := HA.out.below.size
  have l3HA := HA.out.own.lt
  replace HA := Lib.hid (HA.out.alloc (.cells #[.int .i64 0, .int .i64 0, .int .i64 0] 25))
  have l3HN1 := HN1.out.own.lt
  replace HN1 := Lib.hid (HN1.out.alloc (.cells #[.int .i64 0, .int .i64 0, .int .i64 0] 25))
  have l3HN2 := HN2.out.own.lt
  replace HN2 := Lib.hid (HN2.out.alloc (.cells #[.int .i64 0, .int .i64 0, .int .i64 0] 25))
  obtain ⟨g3, hg3⟩ : ∃ g, w1.heap.size = g := ⟨_, rfl⟩
  rw [hg3] at HN3 HF3 hw3 l3HA l3HN1 l3HN2
  have HCC : Hid (∀ W, BS w g0 25 (cellsT (⟨cw, ss, pa⟩ : Wn)) W → BS w g1 25 (cellsT ⟨hf, hf, 0⟩) W → BS w g2 25 (cellsT ⟨1500, hf, 0⟩) W → BS w g3 25 (cellsT ⟨mi, s9, p9⟩) W → ((W.cell? ⟨g0, 0, none⟩ = some (.int .i64 cw) ∧ W.cell? ⟨g1, 0, none⟩ = some (.int .i64 hf) ∧ W.cell? ⟨g1, 1, none⟩ = some (.int .i64 hf) ∧ W.cell? ⟨g1, 2, none⟩ = some (.int .i64 0)) ∧ W.cell? ⟨g2, 0, none⟩ = some (.int .i64 1500) ∧ W.cell? ⟨g2, 1, none⟩ = some (.int .i64 hf) ∧ W.cell? ⟨g2, 2, none⟩ = some (.int .i64 0) ∧ W.cell? ⟨g3, 0, none⟩ = some (.int .i64 mi))) := Lib.hid fun W h0 h1 h2 h3 => ⟨⟨h0.own.cell 0 _ rfl, h1.own.cell 0 _ rfl, h1.own.cell 1 _ rfl, h1.own.cell 2 _ rfl⟩, h2.own.cell 0 _ rfl, h2.own.cell 1 _ rfl, h2.own.cell 2 _ rfl, h3.own.cell 0 _ rfl⟩
  go_wp2_with (first
    | (refine gate9 ?_; refine stW (.tmp 6) (.tmp 27) g3 ⟨mi, s9, p9⟩ rfl rfl rfl rfl HF3.out ?_; intro w2 ht hg; replace HN3 := Lib.hid (HN3.out.set ht hg); replace HA := Lib.hid (HA.out.kept hg hw3 (Nat.ne_of_lt l3HA)); replace HN1 := Lib.hid (HN1.out.kept hg hw3 (Nat.ne_of_lt l3HN1)); replace HN2 := Lib.hid (HN2.out.kept hg hw3 (Nat.ne_of_lt l3HN2)); clear ht hg HF3 hw3 hg3 l3HA l3HN1 l3HN2; obtain ⟨⟨c0, c1, c2, c3⟩, c4, c5, c6, c7⟩ := HCC.out _ HA.out HN1.out HN2.out HN3.out))
  refine (HS1.out _).mono ?_
  rintro e w9 ⟨rfl, hb⟩
  replace HN2 := Lib.hid (HN2.out.later hb)
  clear hb c0 c1 c2 c3 c4 c5 c6 c7
  have c4 := HN2.out.own.cell 0 (.int .i64 1500) rfl
  have c5 := HN2.out.own.cell 1 (.int .i64 hf) rfl
  have c6 := HN2.out.own.cell 2 (.int .i64 0) rfl
  go_wp2_with fail
  refine (HS2.out _).mono ?_
  rintro e w9 ⟨rfl, hb⟩
  replace HN2 := Lib.hid (HN2.out.later hb)
  clear hb c4 c5 c6
  go_wp2_with fail
  go_ret
  exact ⟨rfl, HN2.out.below⟩
theorem walk (t : Wn) (w : World) : Calls Try.prog 5 #[.agg (cellsT t)] w fun e w' => e = .returned (.bool true) ∧ Below w.heap.size w w' := by
  by_cases h1 : t.cw < 1500
  · exact walk_out t (.inl h1) w
  · by_cases h2 : 1073741824 < t.cw
    · exact walk_out t (.inr ⟨h1, h2⟩) w
    · exact walk_in1 t h1 h2 w

set_option maxRecDepth 100000 in
theorem lifted (os : Os) (started : os.Started) (H : Type) (enc : TypeId × Value → H) :
    ReturnsInHanded {} Try.checked os 5 .any (Rows.windowLossesSpec.pre6 enc Try.prog Try.f5 Rows.windowLossesRow.domain false) (Rows.windowLossesSpec.post enc Try.prog Try.f5 false true false false) := by
  refine returnsInHanded_of_change_sized (C := Try.checked) own started (by kernel_rfl) Try.func5
    (ChangeSpec.witness6 (enc := enc) (C := Try.checked) false ⟨#[], #[.agg #[.int .i64 0, .int .i64 0, .int .i64 0]], []⟩ 8 (by kernel_rfl) (by kernel_rfl) (by kernel_rfl) (by kernel_rfl)) ?_
  intro W base args ds gs before hval0 hW _ hreach _
  have hval : ∀ (j : Nat) t v, Try.f5.params[j]? = some t → args[j]? = some v → Value.okWide Try.prog W .any base t v := hval0
  obtain ⟨p, q, hA0, _, _, _, _⟩ := id hW
  have hA : DataW.TrodAll enc Try.prog W 0 (fun _ => true) true Try.f5.params.toList args.toList ds p := hA0
  rw [Try.params5] at hA hval
  obtain ⟨v0, vs0, d0, ds0, p0, q0, hargs, rfl, rfl, h0, r0⟩ := trodAll_cons hA
  obtain ⟨rfl, rfl, rfl⟩ := trodAll_nil r0
  obtain rfl : args = #[v0] := by cases args; simp_all
  obtain ⟨s0, rfl, i0⟩ := window_in (hval 0 25 v0 rfl rfl) h0
  refine (walk s0 W).mono fun e W' ⟨he, hg⟩ => ?_
  subst he
  exact ⟨_, rfl, law_post laidOut Try.underlying4 (by kernel_rfl) (by kernel_rfl) rfl hW (by simp [Rows.windowLossesSpec]) hg⟩

theorem proved : Rows.WindowLossesSaid :=
  OpenClaim.holds_of_wide 5 Try.f5 rfl rfl rfl rfl rfl rfl rfl ⟨rfl, rfl, rfl, rfl, rfl⟩ rfl rfl rfl rfl rfl (by kernel_rfl) Try.func5 (by kernel_rfl)
    (of_decide_eq_true (by kernel_rfl)) (by unfold Func.isWrapper; first | (rw [if_pos (by decide +kernel)]; kernel_rfl) | (rw [if_neg (by decide +kernel)]; exact ⟨rfl, rfl⟩))
    (fun os started H enc _ => lifted os started H enc)
#print axioms proved
end Go.Proofs.Ytdlnmmcnpdfbmaa.windowLosses
