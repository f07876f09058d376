/-
  An answer that takes longer never makes what is reckoned less: any timer that has seen something, any two numbers.
-/
import Derived.Test.YtdklldennckniaaLift
import Derived.Test.YtdklldennckniaaShown
import Derived.Test.YtdklldennckniaaArgs
namespace Go.Proofs.Ytdklldennckniaa.rtoMore
open Go.ChangeShapes Go.WideShapes Go.ChangeAt Go.RowKit
set_option linter.unusedVariables false

theorem srtt_mono (t : Tm) (hk : t.known = true) {a b : Int} (h : a ≤ b) : (sampleT t a).srtt ≤ (sampleT t b).srtt := by
  show srttI t (heldI a 0 60000) ≤ srttI t (heldI b 0 60000)
  unfold srttI
  rw [if_pos hk, if_pos hk]
  unfold heldI
  omega
set_option maxHeartbeats 1000000 in
set_option maxRecDepth 100000 in
theorem walk (t : Tm) (a b : Int) (w : World) :
    Calls Try.prog 6 #[.agg (cellsT t), .int .i64 a, .int .i64 b] w fun e w' => e = .returned (.bool true) ∧ Below w.heap.size w w' := by
  have HB := Lib.hid (TS.made (Below.refl w.heap.size w) t)
  obtain ⟨g0, hg0⟩ : ∃ g, w.heap.size = g := ⟨_, rfl⟩
  have HS := Lib.hid (fun W => shown_any W)
  have c4 : (w.alloc (.cells (cellsT t) 25)).cell? ⟨g0, 4, none⟩ = some (.bool t.known) := by rw [← hg0]; exact HB.out.own.c.2.2.2.2
  rw [hg0] at HB
  go_enter Try.func6, Try.ntmps6
  go_wp2_with fail
  refine (HS.out _).mono ?_
  rintro e w1 ⟨rfl, hb⟩
  replace HB := Lib.hid (HB.out.later hb)
  clear hb c4
  have c4 : w1.cell? ⟨g0, 4, none⟩ = some (.bool t.known) := HB.out.own.c.2.2.2.2
  by_cases hk : t.known = true
  · have H : ∃ (lo hi : Int), lo ≤ hi ∧ ((b < a ∧ lo = b ∧ hi = a) ∨ (a < b ∧ lo = a ∧ hi = b) ∨ (a = b ∧ lo = a ∧ hi = a)) := by
      by_cases hab : b < a
      · exact ⟨b, a, by omega, .inl ⟨hab, rfl, rfl⟩⟩
      · by_cases hba : a < b
        · exact ⟨a, b, by omega, .inr (.inl ⟨hba, rfl, rfl⟩)⟩
        · exact ⟨a, a, by omega, .inr (.inr ⟨by omega, rfl, rfl⟩)⟩
    obtain ⟨lo, hi, hle, H⟩ := H
    have HX := Lib.hid (fun W => sample_any t lo W)
    have HY := Lib.hid (fun W => sample_any t hi W)
    have q1 := srtt_mono t hk hle
    have h0 := heldI_le (n := lo) (show (0 : Int) ≤ 60000 by omega)
    have q2 : 0 ≤ (sampleT t lo).srtt := (srttI_le t _ h0.1 h0.2).1
    have q3 : 0 ≤ (sampleT t lo).var := (varI_le t _ h0.1 h0.2).1
    have q4 : 1000 ≤ (sampleT t lo).rto := (waitI_le _ _).1
    have q5 : (sampleT t hi).rto ≤ 60000 := (waitI_le _ _).2
    clear h0
    generalize sampleT t lo = X at *
    generalize sampleT t hi = Y at *
    have hwx : w.heap.size ≤ g0 := by omega
    rw [hk] at c4
    rcases H with ⟨hab, rfl, rfl⟩ | ⟨hab, rfl, rfl⟩ | ⟨rfl, rfl, rfl⟩
    all_goals
      clear hle
      go_wp2_with (refine gate9 ?_; refine ldT (.tmp 3) g0 rfl rfl rfl HB.out.own ?_)
      refine (HX.out _).mono ?_
      rintro e w2 ⟨rfl, hb⟩
      replace HB := Lib.hid (HB.out.later hb)
      clear hb c4
      have HU := Lib.hid (TS.made HB.out.below zeroT)
      have HBa := Lib.hid (HB.out.alloc (.cells (cellsT zeroT) 25))
      have hne := HB.out.own.lt
      have hw2 := HB.out.below.size
      obtain ⟨g1, hg1⟩ : ∃ g, w2.heap.size = g := ⟨_, rfl⟩
      have HF := Lib.hid (Tx.fresh w2 zeroT)
      rw [hg1] at HU hne hw2 HF
      clear HB
      go_wp2_with (first
        | (refine gate9 ?_; refine stT (.tmp 8) (.tmp 23) X g1 rfl rfl rfl rfl HF.out ?_; intro w3 ht hg; replace HU := Lib.hid (HU.out.set ht hg); have HB := Lib.hid (HBa.out.kept hg hw2 (by omega)); clear ht hg HBa HF)
        | (refine gate9 ?_; refine ldT (.tmp 3) g0 rfl rfl rfl HB.out.own ?_))
      refine (HY.out _).mono ?_
      rintro e w4 ⟨rfl, hb⟩
      replace HU := Lib.hid (HU.out.later hb)
      clear hb
      have HV := Lib.hid (TS.made HU.out.below zeroT)
      have HUa := Lib.hid (HU.out.alloc (.cells (cellsT zeroT) 25))
      have hne1 := HU.out.own.lt
      have hw4 := HU.out.below.size
      obtain ⟨g2, hg2⟩ : ∃ g, w4.heap.size = g := ⟨_, rfl⟩
      have HF := Lib.hid (Tx.fresh w4 zeroT)
      rw [hg2] at HV hne1 hw4 HF
      have HC : Hid (∀ W, TS w g1 X W → TS w g2 Y W → W.cell? ⟨g1, 0, none⟩ = some (.int .i64 X.srtt) ∧ W.cell? ⟨g1, 1, none⟩ = some (.int .i64 X.var) ∧ W.cell? ⟨g1, 2, none⟩ = some (.int .i64 X.rto) ∧ W.cell? ⟨g2, 0, none⟩ = some (.int .i64 Y.srtt) ∧ W.cell? ⟨g2, 2, none⟩ = some (.int .i64 Y.rto)) := Lib.hid fun W hx hy => ⟨hx.own.c.1, hx.own.c.2.1, hx.own.c.2.2.1, hy.own.c.1, hy.own.c.2.2.1⟩
      clear HU
      go_wp2_with (refine gate9 ?_; refine stT (.tmp 9) (.tmp 28) Y g2 rfl rfl rfl rfl HF.out ?_; intro w5 ht hg; replace HV := Lib.hid (HV.out.set ht hg); have HU := Lib.hid (HUa.out.kept hg hw4 (by omega)); clear ht hg HUa HF; obtain ⟨d0, d1, d2, f0, f2⟩ := HC.out _ HU.out HV.out)
      go_ret
      exact ⟨rfl, HV.out.below⟩
  · rw [Bool.not_eq_true] at hk
    rw [hk] at c4
    go_wp2_with fail
    go_ret
    exact ⟨rfl, HB.out.below⟩

set_option maxRecDepth 100000 in
theorem lifted (os : Os) (started : os.Started) (H : Type) (enc : TypeId × Value → H) :
    ReturnsInHanded {} Try.checked os 6 .any (Rows.rtoMoreSpec.pre6 enc Try.prog Try.f6 Rows.rtoMoreRow.domain false) (Rows.rtoMoreSpec.post enc Try.prog Try.f6 false true false false) := by
  refine returnsInHanded_of_change_sized (C := Try.checked) own started (by kernel_rfl) Try.func6
    (ChangeSpec.witness6 (enc := enc) (C := Try.checked) false ⟨#[], #[.agg #[.int .i64 0, .int .i64 0, .int .i64 0, .int .i64 0, .bool false], .int .i64 0, .int .i64 0], []⟩ 8 (by kernel_rfl) (by kernel_rfl) (by kernel_rfl) (by kernel_rfl)) ?_
  intro W base args ds gs before hval0 hW _ hreach _
  have hval : ∀ (j : Nat) t v, Try.f6.params[j]? = some t → args[j]? = some v → Value.okWide Try.prog W .any base t v := hval0
  obtain ⟨p, q, hA0, _, _, _, _⟩ := id hW
  have hA : DataW.TrodAll enc Try.prog W 0 (fun _ => true) true Try.f6.params.toList args.toList ds p := hA0
  rw [Try.params6] at hA hval
  obtain ⟨v0, vs0, d0, ds0, p0, q0, hargs, rfl, rfl, h0, r0⟩ := trodAll_cons hA
  obtain ⟨v1, vs1, d1, ds1, p1, q1, rfl, rfl, rfl, h1, r1⟩ := trodAll_cons r0
  obtain ⟨v2, vs2, d2, ds2, p2, q2, rfl, rfl, rfl, h2, r2⟩ := trodAll_cons r1
  obtain ⟨rfl, rfl, rfl⟩ := trodAll_nil r2
  obtain rfl : args = #[v0, v1, v2] := by cases args; simp_all
  obtain ⟨s0, rfl, i0⟩ := timer_in (hval 0 25 v0 rfl rfl) h0
  obtain ⟨a1, rfl, rfl, rfl, w1⟩ := open_int Try.underlying3 (hval 1 3 v1 rfl rfl) h1
  obtain ⟨a2, rfl, rfl, rfl, w2⟩ := open_int Try.underlying3 (hval 2 3 v2 rfl rfl) h2
  refine (walk s0 a1 a2 W).mono fun e W' ⟨he, hg⟩ => ?_
  subst he
  exact ⟨_, rfl, law_post laidOut Try.underlying4 (by kernel_rfl) (by kernel_rfl) rfl hW (by simp [Rows.rtoMoreSpec]) hg⟩

theorem proved : Rows.RtoMoreSaid :=
  OpenClaim.holds_of_wide 6 Try.f6 rfl rfl rfl rfl rfl rfl rfl ⟨rfl, rfl, rfl, rfl, rfl⟩ rfl rfl rfl rfl rfl (by kernel_rfl) Try.func6 (by kernel_rfl)
    (of_decide_eq_true (by kernel_rfl)) (by unfold Func.isWrapper; first | (rw [if_pos (by decide +kernel)]; kernel_rfl) | (rw [if_neg (by decide +kernel)]; exact ⟨rfl, rfl⟩))
    (fun os started H enc _ => lifted os started H enc)
#print axioms proved
end Go.Proofs.Ytdklldennckniaa.rtoMore
