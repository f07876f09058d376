/-
  More may be sent just while less than the window is under way: any window, any two numbers.
-/
import Derived.Test.YtdlnmmcnpdfbmaaLift
import Derived.Test.YtdlnmmcnpdfbmaaShown
import Derived.Test.YtdlnmmcnpdfbmaaArgs
namespace Go.Proofs.Ytdlnmmcnpdfbmaa.windowMays
open Go.ChangeShapes Go.WideShapes Go.ChangeAt Go.RowKit
set_option linter.unusedVariables false

set_option linter.unusedSimpArgs false
theorem may_mono (t : Wn) {x y : Int} (h : x ≤ y) (hy : mayB t y = true) : mayB t x = true := by
  unfold mayB at *
  have := of_decide_eq_true hy
  refine decide_eq_true ?_
  unfold keptI at *
  omega
theorem may_small (t : Wn) {x : Int} (h : x < 1500) : mayB t x = true := by
  have := (held_inb t).cw
  refine decide_eq_true ?_
  unfold keptI
  omega
theorem may_at (cw ss pa o : Int) (h : 1500 ≤ cw) (h' : cw ≤ 1073741824) (ho : 0 ≤ o) (ho' : o ≤ 1073741824) : mayB ⟨cw, ss, pa⟩ o = decide (o < cw) := by
  show decide (keptI o < max (keptI cw) 1500) = _
  rw [keptI_in ho ho', keptI_in (by omega) h', show max cw 1500 = cw by omega]
set_option maxHeartbeats 1000000 in
set_option maxRecDepth 100000 in
theorem walk (t : Wn) (ht : WfW t) (a b : Int) (w : World) : Calls Try.prog 6 #[.agg (cellsT t), .int .i64 a, .int .i64 b] w fun e w' => e = .returned (.bool true) ∧ Below w.heap.size w w' := by
  obtain ⟨x, y, hxy, hx, hy⟩ : ∃ x y : Int, x ≤ y ∧ (if b < a then b else a) = x ∧ (if a < b then b else a) = y := by
    by_cases h : a < b
    · exact ⟨a, b, by omega, by rw [if_neg (by omega)], by rw [if_pos h]⟩
    · by_cases h' : b < a
      · exact ⟨b, a, by omega, by rw [if_pos h'], by rw [if_neg h]⟩
      · exact ⟨a, a, by omega, by rw [if_neg h'], by rw [if_neg h]⟩
  have m1 : ∀ z, mayB t z = true ∨ mayB t z = false := fun z => by cases mayB t z <;> simp
  have m2 := may_mono t hxy
  have m3 := may_small t (x := 0) (by omega)
  have m4 := may_small t (x := -1) (by omega)
  obtain ⟨cw, ss, pa⟩ := t
  have HS := Lib.hid (fun W => shown_any W)
  have HA := Lib.hid (BS.first w 25 (cellsT (⟨cw, ss, pa⟩ : Wn)))
  obtain ⟨g0, hg0⟩ : ∃ g, w.heap.size = g := ⟨_, rfl⟩
  rw [hg0] at HA
  have c0 := HA.out.own.cell 0 (.int .i64 ((⟨cw, ss, pa⟩ : Wn)).cw) rfl
  have c1 := HA.out.own.cell 1 (.int .i64 ((⟨cw, ss, pa⟩ : Wn)).ss) rfl
  have c2 := HA.out.own.cell 2 (.int .i64 ((⟨cw, ss, pa⟩ : Wn)).pa) rfl
  have Q0 : Hid (∀ W : World, Calls Try.prog 13 #[.agg #[.int .i64 cw, .int .i64 ss, .int .i64 pa], .int .i64 0] W fun e W' => e = .returned (.bool true) ∧ Below W.heap.size W W') := Lib.hid (fun W => by have h := may_any ⟨cw, ss, pa⟩ 0 W; rw [m3] at h; exact h)
  have Q1 : Hid (∀ W : World, Calls Try.prog 13 #[.agg #[.int .i64 cw, .int .i64 ss, .int .i64 pa], .int .i64 (-1)] W fun e W' => e = .returned (.bool true) ∧ Below W.heap.size W W') := Lib.hid (fun W => by have h := may_any ⟨cw, ss, pa⟩ (-1) W; rw [m4] at h; exact h)
  have PQ : (∃ p q : Bool, (p = true → q = true) ∧ Hid (∀ W : World, Calls Try.prog 13 #[.agg #[.int .i64 cw, .int .i64 ss, .int .i64 pa], .int .i64 y] W fun e W' => e = .returned (.bool p) ∧ Below W.heap.size W W') ∧ Hid (∀ W : World, Calls Try.prog 13 #[.agg #[.int .i64 cw, .int .i64 ss, .int .i64 pa], .int .i64 x] W fun e W' => e = .returned (.bool q) ∧ Below W.heap.size W W')) := ⟨mayB (⟨cw, ss, pa⟩ : Wn) y, mayB (⟨cw, ss, pa⟩ : Wn) x, m2, Lib.hid (fun W => may_any _ _ W), Lib.hid (fun W => may_any _ _ W)⟩
  clear m1 m2 m3 m4
  obtain ⟨p, q, hpq, Q2, Q3⟩ := PQ
  have Q4 : cw < 1500 ∨ (¬ cw < 1500 ∧ 1073741824 < cw) ∨ (¬ cw < 1500 ∧ ¬ 1073741824 < cw ∧ Hid (∀ W : World, Calls Try.prog 13 #[.agg #[.int .i64 cw, .int .i64 ss, .int .i64 pa], .int .i64 (cw - 1)] W fun e W' => e = .returned (.bool true) ∧ Below W.heap.size W W') ∧ Hid (∀ W : World, Calls Try.prog 13 #[.agg #[.int .i64 cw, .int .i64 ss, .int .i64 pa], .int .i64 cw] W fun e W' => e = .returned (.bool false) ∧ Below W.heap.size W W')) := by
    by_cases h1 : cw < 1500
    · exact .inl h1
    · by_cases h2 : 1073741824 < cw
      · exact .inr (.inl ⟨h1, h2⟩)
      · refine .inr (.inr ⟨h1, h2, Lib.hid fun W => ?_, Lib.hid fun W => ?_⟩)
        · have h := may_any ⟨cw, ss, pa⟩ (cw - 1) W
          rw [may_at cw ss pa (cw - 1) (by omega) (by omega) (by omega) (by omega), decide_eq_true (by omega)] at h
          exact h
        · have h := may_any ⟨cw, ss, pa⟩ cw W
          rw [may_at cw ss pa cw (by omega) (by omega) (by omega) (by omega), decide_eq_false (by omega)] at h
          exact h
  have hwr : ¬ cw < 1500 → ¬ 1073741824 < cw → IntKind.i64.wrap (cw - 1) = cw - 1 := fun h1 h2 => by rw [IntKind.wrap_i64]; omega
  have hwf := ht.cw
  clear hxy
  rcases Q4 with h1 | ⟨h1, h2⟩ | ⟨h1, h2, Q5, Q6⟩
  all_goals
    try have hws := hwr h1 h2
    clear hwr
    cases p with
    | true =>
      obtain rfl : q = true := hpq rfl
      go_enter Try.func6, Try.ntmps6
      go_wp2_with (first
    | (go_at_call 7; (with_reducible refine (HS.out _).mono ?_); rintro e w1 ⟨rfl, hb⟩; clear c0 c1 c2; replace HA := Lib.hid (HA.out.later hb); clear hb; have c0 := HA.out.own.cell 0 (.int .i64 ((⟨cw, ss, pa⟩ : Wn)).cw) rfl; have c1 := HA.out.own.cell 1 (.int .i64 ((⟨cw, ss, pa⟩ : Wn)).ss) rfl; have c2 := HA.out.own.cell 2 (.int .i64 ((⟨cw, ss, pa⟩ : Wn)).pa) rfl)
    | (go_at_call 13; (with_reducible refine (Q0.out _).mono ?_); rintro e w1 ⟨rfl, hb⟩; clear c0 c1 c2; replace HA := Lib.hid (HA.out.later hb); clear hb; have c0 := HA.out.own.cell 0 (.int .i64 ((⟨cw, ss, pa⟩ : Wn)).cw) rfl; have c1 := HA.out.own.cell 1 (.int .i64 ((⟨cw, ss, pa⟩ : Wn)).ss) rfl; have c2 := HA.out.own.cell 2 (.int .i64 ((⟨cw, ss, pa⟩ : Wn)).pa) rfl)
    | (go_at_call 13; (with_reducible refine (Q1.out _).mono ?_); rintro e w1 ⟨rfl, hb⟩; clear c0 c1 c2; replace HA := Lib.hid (HA.out.later hb); clear hb; have c0 := HA.out.own.cell 0 (.int .i64 ((⟨cw, ss, pa⟩ : Wn)).cw) rfl; have c1 := HA.out.own.cell 1 (.int .i64 ((⟨cw, ss, pa⟩ : Wn)).ss) rfl; have c2 := HA.out.own.cell 2 (.int .i64 ((⟨cw, ss, pa⟩ : Wn)).pa) rfl)
    | (go_at_call 13; (with_reducible refine (Q2.out _).mono ?_); rintro e w1 ⟨rfl, hb⟩; clear c0 c1 c2; replace HA := Lib.hid (HA.out.later hb); clear hb; have c0 := HA.out.own.cell 0 (.int .i64 ((⟨cw, ss, pa⟩ : Wn)).cw) rfl; have c1 := HA.out.own.cell 1 (.int .i64 ((⟨cw, ss, pa⟩ : Wn)).ss) rfl; have c2 := HA.out.own.cell 2 (.int .i64 ((⟨cw, ss, pa⟩ : Wn)).pa) rfl)
    | (go_at_call 13; (with_reducible refine (Q3.out _).mono ?_); rintro e w1 ⟨rfl, hb⟩; clear c0 c1 c2; replace HA := Lib.hid (HA.out.later hb); clear hb; have c0 := HA.out.own.cell 0 (.int .i64 ((⟨cw, ss, pa⟩ : Wn)).cw) rfl; have c1 := HA.out.own.cell 1 (.int .i64 ((⟨cw, ss, pa⟩ : Wn)).ss) rfl; have c2 := HA.out.own.cell 2 (.int .i64 ((⟨cw, ss, pa⟩ : Wn)).pa) rfl)
    | (go_at_call 13; (with_reducible refine (Q5.out _).mono ?_); rintro e w1 ⟨rfl, hb⟩; clear c0 c1 c2; replace HA := Lib.hid (HA.out.later hb); clear hb; have c0 := HA.out.own.cell 0 (.int .i64 ((⟨cw, ss, pa⟩ : Wn)).cw) rfl; have c1 := HA.out.own.cell 1 (.int .i64 ((⟨cw, ss, pa⟩ : Wn)).ss) rfl; have c2 := HA.out.own.cell 2 (.int .i64 ((⟨cw, ss, pa⟩ : Wn)).pa) rfl)
    | (go_at_call 13; (with_reducible refine (Q6.out _).mono ?_); rintro e w1 ⟨rfl, hb⟩; clear c0 c1 c2; replace HA := Lib.hid (HA.out.later hb); clear hb; have c0 := HA.out.own.cell 0 (.int .i64 ((⟨cw, ss, pa⟩ : Wn)).cw) rfl; have c1 := HA.out.own.cell 1 (.int .i64 ((⟨cw, ss, pa⟩ : Wn)).ss) rfl; have c2 := HA.out.own.cell 2 (.int .i64 ((⟨cw, ss, pa⟩ : Wn)).pa) rfl))
      go_ret
      exact ⟨rfl, HA.out.below⟩
    | false =>
      clear hpq
      go_enter Try.func6, Try.ntmps6
      go_wp2_with (first
    | (go_at_call 7; (with_reducible refine (HS.out _).mono ?_); rintro e w1 ⟨rfl, hb⟩; clear c0 c1 c2; replace HA := Lib.hid (HA.out.later hb); clear hb; have c0 := HA.out.own.cell 0 (.int .i64 ((⟨cw, ss, pa⟩ : Wn)).cw) rfl; have c1 := HA.out.own.cell 1 (.int .i64 ((⟨cw, ss, pa⟩ : Wn)).ss) rfl; have c2 := HA.out.own.cell 2 (.int .i64 ((⟨cw, ss, pa⟩ : Wn)).pa) rfl)
    | (go_at_call 13; (with_reducible refine (Q0.out _).mono ?_); rintro e w1 ⟨rfl, hb⟩; clear c0 c1 c2; replace HA := Lib.hid (HA.out.later hb); clear hb; have c0 := HA.out.own.cell 0 (.int .i64 ((⟨cw, ss, pa⟩ : Wn)).cw) rfl; have c1 := HA.out.own.cell 1 (.int .i64 ((⟨cw, ss, pa⟩ : Wn)).ss) rfl; have c2 := HA.out.own.cell 2 (.int .i64 ((⟨cw, ss, pa⟩ : Wn)).pa) rfl)
    | (go_at_call 13; (with_reducible refine (Q1.out _).mono ?_); rintro e w1 ⟨rfl, hb⟩; clear c0 c1 c2; replace HA := Lib.hid (HA.out.later hb); clear hb; have c0 := HA.out.own.cell 0 (.int .i64 ((⟨cw, ss, pa⟩ : Wn)).cw) rfl; have c1 := HA.out.own.cell 1 (.int .i64 ((⟨cw, ss, pa⟩ : Wn)).ss) rfl; have c2 := HA.out.own.cell 2 (.int .i64 ((⟨cw, ss, pa⟩ : Wn)).pa) rfl)
    | (go_at_call 13; (with_reducible refine (Q2.out _).mono ?_); rintro e w1 ⟨rfl, hb⟩; clear c0 c1 c2; replace HA := Lib.hid (HA.out.later hb); clear hb; have c0 := HA.out.own.cell 0 (.int .i64 ((⟨cw, ss, pa⟩ : Wn)).cw) rfl; have c1 := HA.out.own.cell 1 (.int .i64 ((⟨cw, ss, pa⟩ : Wn)).ss) rfl; have c2 := HA.out.own.cell 2 (.int .i64 ((⟨cw, ss, pa⟩ : Wn)).pa) rfl)
    | (go_at_call 13; (with_reducible refine (Q5.out _).mono ?_); rintro e w1 ⟨rfl, hb⟩; clear c0 c1 c2; replace HA := Lib.hid (HA.out.later hb); clear hb; have c0 := HA.out.own.cell 0 (.int .i64 ((⟨cw, ss, pa⟩ : Wn)).cw) rfl; have c1 := HA.out.own.cell 1 (.int .i64 ((⟨cw, ss, pa⟩ : Wn)).ss) rfl; have c2 := HA.out.own.cell 2 (.int .i64 ((⟨cw, ss, pa⟩ : Wn)).pa) rfl)
    | (go_at_call 13; (with_reducible refine (Q6.out _).mono ?_); rintro e w1 ⟨rfl, hb⟩; clear c0 c1 c2; replace HA := Lib.hid (HA.out.later hb); clear hb; have c0 := HA.out.own.cell 0 (.int .i64 ((⟨cw, ss, pa⟩ : Wn)).cw) rfl; have c1 := HA.out.own.cell 1 (.int .i64 ((⟨cw, ss, pa⟩ : Wn)).ss) rfl; have c2 := HA.out.own.cell 2 (.int .i64 ((⟨cw, ss, pa⟩ : Wn)).pa) rfl))
      go_ret
      exact ⟨rfl, HA.out.below⟩

set_option maxRecDepth 100000 in
theorem lifted (os : Os) (started : os.Started) (H : Type) (enc : TypeId × Value → H) :
    ReturnsInHanded {} Try.checked os 6 .any (Rows.windowMaysSpec.pre6 enc Try.prog Try.f6 Rows.windowMaysRow.domain false) (Rows.windowMaysSpec.post enc Try.prog Try.f6 false true false false) := by
  refine returnsInHanded_of_change_sized (C := Try.checked) own started (by kernel_rfl) Try.func6
    (ChangeSpec.witness6 (enc := enc) (C := Try.checked) false ⟨#[], #[.agg #[.int .i64 0, .int .i64 0, .int .i64 0], .int .i64 0, .int .i64 0], []⟩ 8 (by kernel_rfl) (by kernel_rfl) (by kernel_rfl) (by kernel_rfl)) ?_
  intro W base args ds gs before hval0 hW _ hreach _
  have hval : ∀ (j : Nat) t v, Try.f6.params[j]? = some t → args[j]? = some v → Value.okWide Try.prog W .any base t v := hval0
  obtain ⟨p, q, hA0, _, _, _, _⟩ := id hW
  have hA : DataW.TrodAll enc Try.prog W 0 (fun _ => true) true Try.f6.params.toList args.toList ds p := hA0
  rw [Try.params6] at hA hval
  obtain ⟨v0, vs0, d0, ds0, p0, q0, hargs, rfl, rfl, h0, r0⟩ := trodAll_cons hA
  obtain ⟨v1, vs1, d1, ds1, p1, q1, rfl, rfl, rfl, h1, r1⟩ := trodAll_cons r0
  obtain ⟨v2, vs2, d2, ds2, p2, q2, rfl, rfl, rfl, h2, r2⟩ := trodAll_cons r1
  obtain ⟨rfl, rfl, rfl⟩ := trodAll_nil r2
  obtain rfl : args = #[v0, v1, v2] := by cases args; simp_all
  obtain ⟨s0, rfl, i0⟩ := window_in (hval 0 25 v0 rfl rfl) h0
  obtain ⟨a1, rfl, rfl, rfl, w1⟩ := open_int Try.underlying3 (hval 1 3 v1 rfl rfl) h1
  obtain ⟨a2, rfl, rfl, rfl, w2⟩ := open_int Try.underlying3 (hval 2 3 v2 rfl rfl) h2
  refine (walk s0 i0 a1 a2 W).mono fun e W' ⟨he, hg⟩ => ?_
  subst he
  exact ⟨_, rfl, law_post laidOut Try.underlying4 (by kernel_rfl) (by kernel_rfl) rfl hW (by simp [Rows.windowMaysSpec]) hg⟩

theorem proved : Rows.WindowMaysSaid :=
  OpenClaim.holds_of_wide 6 Try.f6 rfl rfl rfl rfl rfl rfl rfl ⟨rfl, rfl, rfl, rfl, rfl⟩ rfl rfl rfl rfl rfl (by kernel_rfl) Try.func6 (by kernel_rfl)
    (of_decide_eq_true (by kernel_rfl)) (by unfold Func.isWrapper; first | (rw [if_pos (by decide +kernel)]; kernel_rfl) | (rw [if_neg (by decide +kernel)]; exact ⟨rfl, rfl⟩))
    (fun os started H enc _ => lifted os started H enc)
#print axioms proved
end Go.Proofs.Ytdlnmmcnpdfbmaa.windowMays
