/-
  Whatever a timer sees, it waits 1000 to 60000; waiting in vain never makes it less, and six times make it 60000: any numbers (more than 200 are not asked of).
-/
import Derived.Test.YtdklldennckniaaLift
import Derived.Test.YtdklldennckniaaShown
import Derived.Test.YtdklldennckniaaArgs
import Derived.Deep.RegionHeld
namespace Go.Proofs.Ytdklldennckniaa.rtoHolds
open Go.ChangeShapes Go.WideShapes Go.ChangeAt Go.RowKit
set_option linter.unusedVariables false

set_option linter.unusedSimpArgs false
theorem walk_long (l : List Int) (v : Value) (w : World) (hv : RowE encI w v l) (hl : 200 < l.length) :
    Calls Try.prog 3 #[v] w fun e w' => e = .returned (.bool true) ∧ Below w.heap.size w w' := by
  obtain ⟨A, cap, rfl, _, _, _⟩ := hv
  have hl' : decide (200 < (l.length : Int)) = true := decide_eq_true (by omega)
  have HS := Lib.hid (fun W => shown_any W)
  go_enter Try.func3, Try.ntmps3
  go_wp2_with (refine (HS.out _).mono ?_; rintro e w1 ⟨rfl, hb⟩; have HB := Lib.hid hb; clear hb)
  go_ret
  exact ⟨rfl, HB.out⟩
theorem good_rto (T : Tm) : 1000 ≤ (goodT T).rto ∧ (goodT T).rto ≤ 60000 := by
  show 1000 ≤ (if T.known then waitI (keptI T.srtt) (keptI T.var) else 1000) ∧ (if T.known then waitI (keptI T.srtt) (keptI T.var) else 1000) ≤ 60000
  have := waitI_le (keptI T.srtt) (keptI T.var)
  split <;> omega
set_option maxHeartbeats 4000000 in
set_option maxRecDepth 100000 in
theorem walk_short (l : List Int) (v : Value) (w : World) (hv : RowE encI w v l) (hl : l.length ≤ 200) :
    Calls Try.prog 3 #[v] w fun e w' => e = .returned (.bool true) ∧ Below w.heap.size w w' := by
  obtain ⟨A, cap, rfl, hcap, hmax, hcells⟩ := hv
  have HCELL := Lib.hid hcells
  clear hcells
  have hl' : decide (200 < (l.length : Int)) = false := decide_eq_false (by omega)
  have HS := Lib.hid (fun W => shown_any W)
  have HN := Lib.hid (fun W => new_any W)
  go_enter Try.func3, Try.ntmps3
  go_wp2_with fail
  refine (HS.out _).mono ?_
  rintro e w1 ⟨rfl, hb⟩
  have HB := Lib.hid hb
  clear hb
  go_wp2_with fail
  refine (HN.out _).mono ?_
  rintro e w2 ⟨rfl, hb⟩
  replace HB := Lib.hid (HB.out.trans (hb.mono HB.out.size))
  clear hb
  have HT := Lib.hid (TS.made HB.out zeroT)
  have hwt := HB.out.size
  obtain ⟨g1, hg1⟩ : ∃ g, w2.heap.size = g := ⟨_, rfl⟩
  have HF := Lib.hid (Tx.fresh w2 zeroT)
  rw [hg1] at HT HF hwt
  clear HB HS HN
  go_wp2_with (refine gate9 ?_; refine stT (.tmp 4) (.tmp 17) newT g1 rfl rfl rfl rfl HF.out ?_; intro w4 ht hg; replace HT := Lib.hid (HT.out.set ht hg); clear ht hg HF)
  go_loopw [5] (fun i wr => ∃ (k : Nat) (T : Tm), k ≤ l.length ∧ i = .int .i64 k ∧ WfT T ∧ 1000 ≤ T.rto ∧ T.rto ≤ 60000 ∧ TS w g1 T wr) (fun i _ => l.length - (intOf i).toNat)
  case atStart => exact ⟨0, newT, by omega, rfl, new_wf, by decide, by decide, HT.out⟩
  case round =>
    obtain ⟨k, T, hk, rfl, hwf, hr1, hr2, ht⟩ := hrel
    have H1 := Lib.hid ht
    have HWF := Lib.hid hwf
    clear ht HT hwf
    by_cases hlt : k < l.length
    · obtain ⟨b, off, rfl, hb, hc⟩ := HCELL.out (by omega)
      have hck := hc k hlt
      have HCX : Hid (∀ W : World, Below w.heap.size w W → W.cell? ⟨b, off + k, none⟩ = some (.int .i64 l[k]!)) := Lib.hid fun W hW => (hW.cell (p := ⟨b, off + k, none⟩) hb).trans hck
      clear hc hck HCELL
      generalize l[k]! = x at *
      have q0 := HCX.out _ H1.out.below
      have c2 := H1.out.own.c.2.2.1
      have i0 : (0 : Int) ≤ (k : Int) := Int.natCast_nonneg _
      have i1 : (k : Int) < (l.length : Int) := by omega
      by_cases e3 : Int.tmod x 3 = 0
      · have HBK := Lib.hid (fun W => back_any T HWF.out W)
        have n1 : ¬ (backT T).rto < T.rto := by have := back_more T hr1 hr2; omega
        have n2 := asRtoI_le (2 * heldI T.rto 0 60000)
        change 1000 ≤ (backT T).rto ∧ (backT T).rto ≤ 60000 at n2
        have HWR := Lib.hid (back_wf HWF.out)
        generalize backT T = R at *
        obtain ⟨z, hz⟩ : ∃ z, R.rto = z := ⟨_, rfl⟩
        rw [hz] at n1 n2
        have n3 : ¬ z < 1000 := by omega
        have n4 : ¬ 60000 < z := by omega
        clear n2
        go_wp2_with (first
          | (refine gate9 ?_; refine ldT (.tmp 4) g1 rfl rfl rfl H1.out.own ?_)
          | (refine (HBK.out _).mono ?_; rintro e w8 ⟨rfl, hb⟩; replace H1 := Lib.hid (H1.out.later hb); clear hb c2 q0)
          | (refine gate9 ?_; refine stT (.tmp 4) (.tmp 48) R g1 rfl rfl rfl rfl H1.out.own ?_; intro w10 ht hg; replace H1 := Lib.hid (H1.out.set ht hg); clear ht hg; have c2 := H1.out.own.c.2.2.1; rw [hz] at c2))
        go_roundw
        case rel => exact ⟨k + 1, R, by omega, rfl, HWR.out, by omega, by omega, H1.out⟩
        case measure => simp [intOf]; omega
      · by_cases e7 : Int.tmod x 7 = 0
        · have HGD := Lib.hid (fun W => good_any T W)
          have n2 := good_rto T
          have hbk : (goodT T).backs = 0 := rfl
          have HWR := Lib.hid (good_wf HWF.out)
          generalize goodT T = R at *
          obtain ⟨z, hz⟩ : ∃ z, R.rto = z := ⟨_, rfl⟩
          rw [hz] at n2
          have n3 : ¬ z < 1000 := by omega
          have n4 : ¬ 60000 < z := by omega
          clear n2
          go_wp2_with (first
            | (refine gate9 ?_; refine ldT (.tmp 4) g1 rfl rfl rfl H1.out.own ?_)
            | (refine (HGD.out _).mono ?_; rintro e w8 ⟨rfl, hb⟩; replace H1 := Lib.hid (H1.out.later hb); clear hb c2 q0)
            | (refine gate9 ?_; refine stT (.tmp 4) (.tmp 61) R g1 rfl rfl rfl rfl H1.out.own ?_; intro w10 ht hg; replace H1 := Lib.hid (H1.out.set ht hg); clear ht hg; have c2 := H1.out.own.c.2.2.1; rw [hz] at c2; have c3 := H1.out.own.c.2.2.2.1; rw [hbk] at c3))
          go_roundw
          case rel => exact ⟨k + 1, R, by omega, rfl, HWR.out, by omega, by omega, H1.out⟩
          case measure => simp [intOf]; omega
        · have HSM := Lib.hid (fun W => sample_any T x W)
          have n2 := waitI_le (srttI T (heldI x 0 60000)) (varI T (heldI x 0 60000))
          change 1000 ≤ (sampleT T x).rto ∧ (sampleT T x).rto ≤ 60000 at n2
          have hbk : (sampleT T x).backs = 0 := rfl
          have hkn : (sampleT T x).known = true := rfl
          have HWR := Lib.hid (sample_wf T x)
          generalize sampleT T x = R at *
          obtain ⟨z, hz⟩ : ∃ z, R.rto = z := ⟨_, rfl⟩
          rw [hz] at n2
          have n3 : ¬ z < 1000 := by omega
          have n4 : ¬ 60000 < z := by omega
          clear n2
          go_wp2_with fail
          clear c2 q0
          refine wp_region_noPanic ?_
          refine wp_region_waits (S := fun W => TS w g1 T W) [6] (by kernel_rfl) H1.out.drew (fun hHeld => ?_)
          refine wpAnyW_take (i := 0) (v := _) (by simp only [List.getElem?_toArray, List.getElem?_cons_zero]; rfl) (by kernel_rfl) (by kernel_rfl) (by kernel_rfl) (by kernel_rfl) (by kernel_rfl) (fun _ _ _ h => h) (yT (by rfl) (.tmp 4) rfl g1 rfl T (fun W h => h.own)) (by assumption) ?_
          try simp only [Act.put, List.setIfInBounds_toArray, List.set_cons_zero, List.set_cons_succ]
          refine wpAnyW_take (i := 1) (v := ?_) (by simp only [List.getElem?_toArray, List.getElem?_cons_succ, List.getElem?_cons_zero]; rfl) (by kernel_rfl) (by kernel_rfl) (by kernel_rfl) (by kernel_rfl) (by kernel_rfl) (fun _ _ _ h => h) (Or.inl ⟨by rfl, ?_⟩) (by assumption) ?_
          rotate_left 1
          · (intro w' hSw; have hq := HCX.out _ hSw.below; clear hSw; go_simp; try with_reducible rfl)
          try simp only [Act.put, List.setIfInBounds_toArray, List.set_cons_zero, List.set_cons_succ]
          refine wpAnyW_take (i := 2) (v := ?_) (by simp only [List.getElem?_toArray, List.getElem?_cons_succ, List.getElem?_cons_zero]; rfl) (by kernel_rfl) (by kernel_rfl) (by kernel_rfl) (by kernel_rfl) (by kernel_rfl) (fun _ _ _ h => h) (Or.inl ⟨by rfl, ?_⟩) (by assumption) ?_
          rotate_left 1
          · (intro w' hSw; have hq := HCX.out _ hSw.below; clear hSw; go_simp; try with_reducible rfl)
          try simp only [Act.put, List.setIfInBounds_toArray, List.set_cons_zero, List.set_cons_succ]
          refine wpAnyW_take (i := 3) (v := ?_) (by simp only [List.getElem?_toArray, List.getElem?_cons_succ, List.getElem?_cons_zero]; rfl) (by kernel_rfl) (by kernel_rfl) (by kernel_rfl) (by kernel_rfl) (by kernel_rfl) (fun _ _ _ h => h) (Or.inl ⟨by rfl, ?_⟩) (by assumption) ?_
          rotate_left 1
          · (intro w' hSw; have hq := HCX.out _ hSw.below; clear hSw; go_simp; try with_reducible rfl)
          try simp only [Act.put, List.setIfInBounds_toArray, List.set_cons_zero, List.set_cons_succ]
          refine wpAnyW_take (i := 4) (v := ?_) (by simp only [List.getElem?_toArray, List.getElem?_cons_succ, List.getElem?_cons_zero]; rfl) (by kernel_rfl) (by kernel_rfl) (by kernel_rfl) (by kernel_rfl) (by kernel_rfl) (fun _ _ _ h => h) (Or.inl ⟨by rfl, ?_⟩) (by assumption) ?_
          rotate_left 1
          · (intro w' hSw; have hq := HCX.out _ hSw.below; clear hSw; go_simp; try with_reducible rfl)
          try simp only [Act.put, List.setIfInBounds_toArray, List.set_cons_zero, List.set_cons_succ]
          refine wpAnyW_held (i := 5) (by kernel_rfl) (by simp only [List.getElem?_toArray, List.getElem?_cons_succ, List.getElem?_cons_zero]; rfl) (fun K hK => ?_)
          go_simp
          refine (HSM.out _).mono ?_
          rintro _ w8 ⟨rfl, hb⟩
          have hS := hHeld.later hb
          clear hHeld hb
          go_wp2_with fail
          refine hK.out _ _ hS (fun hHeld => ?_)
          clear hK K hS
          try simp only [Act.put, List.setIfInBounds_toArray, List.set_cons_zero, List.set_cons_succ]
          refine wpAnyW_freed (i := 6) (by kernel_rfl) (by kernel_rfl) (by simp only [List.getElem?_toArray, List.getElem?_cons_succ, List.getElem?_cons_zero]; rfl) (fun K hK => ?_)
          rw [if_pos (by rfl)]
          refine wstT (.tmp 4) (.tmp 31) R g1 rfl rfl rfl hHeld.own ?_
          intro w9 ht hg
          have H2 := Lib.hid (hHeld.set ht hg)
          clear ht hg hHeld H1
          refine hK.out _ _ ?_
          clear hK K
          try simp only [Act.put, List.setIfInBounds_toArray, List.set_cons_zero, List.set_cons_succ]
          refine wpAnyW_done (by kernel_rfl) ?_ _
          refine NoPanic.normal ?_
          have c2 := H2.out.own.c.2.2.1
          rw [hz] at c2
          have c3 := H2.out.own.c.2.2.2.1
          rw [hbk] at c3
          have c4 := H2.out.own.c.2.2.2.2
          rw [hkn] at c4
          go_wp2_with fail
          go_roundw
          case rel => exact ⟨k + 1, R, by omega, rfl, HWR.out, by omega, by omega, H2.out⟩
          case measure => simp [intOf]; omega
    · have hsix := Lib.hid (back_six T hr1 hr2)
      have hwf := Lib.hid (backN_wf HWF.out)
      go_wp2_with fail
      go_loopw [7] (fun i wr => ∃ j : Nat, j ≤ 6 ∧ i = .int .i64 j ∧ TS w g1 (backN j T) wr) (fun i _ => 6 - (intOf i).toNat)
      case atStart => exact ⟨0, by omega, rfl, H1.out⟩
      case round =>
        obtain ⟨j, hj, rfl, hv⟩ := hrel
        by_cases hlj : j < 6
        · have H3 := Lib.hid hv
          have HBK := Lib.hid (fun W => back_any (backN j T) (hwf.out j) W)
          clear hv
          go_wp2_with (first
            | (refine gate9 ?_; refine ldT (.tmp 4) g1 rfl rfl rfl H3.out.own ?_)
            | (refine (HBK.out _).mono ?_; rintro e w8 ⟨rfl, hb⟩; replace H3 := Lib.hid (H3.out.later hb); clear hb)
            | (refine gate9 ?_; refine stT (.tmp 4) (.tmp 78) (backT (backN j T)) g1 rfl rfl rfl rfl H3.out.own ?_; intro w9 ht hg; replace H3 := Lib.hid (H3.out.set ht hg); clear ht hg))
          go_roundw
          case rel => exact ⟨j + 1, by omega, rfl, H3.out⟩
          case measure => simp [intOf]; omega
        · obtain rfl : j = 6 := by omega
          have HBE := Lib.hid hv.below
          have c2 := hv.own.c.2.2.1
          rw [hsix.out] at c2
          clear hv hsix hwf H1
          go_wp2_with fail
          go_ret
          exact ⟨rfl, HBE.out⟩
theorem walk (l : List Int) (v : Value) (w : World) (hv : RowE encI w v l) : Calls Try.prog 3 #[v] w fun e w' => e = .returned (.bool true) ∧ Below w.heap.size w w' := by
  by_cases h : l.length ≤ 200
  · exact walk_short l v w hv h
  · exact walk_long l v w hv (by omega)

set_option maxRecDepth 100000 in
theorem lifted (os : Os) (started : os.Started) (H : Type) (enc : TypeId × Value → H) :
    ReturnsInHanded {} Try.checked os 3 .any (Rows.rtoHoldsSpec.pre6 enc Try.prog Try.f3 Rows.rtoHoldsRow.domain false) (Rows.rtoHoldsSpec.post enc Try.prog Try.f3 false true false false) := by
  refine returnsInHanded_of_change_sized (C := Try.checked) own started (by kernel_rfl) Try.func3
    (ChangeSpec.witness6 (enc := enc) (C := Try.checked) false ⟨#[], #[.slice none 0 0], []⟩ 8 (by kernel_rfl) (by kernel_rfl) (by kernel_rfl) (by kernel_rfl)) ?_
  intro W base args ds gs before hval0 hW _ hreach _
  have hval : ∀ (j : Nat) t v, Try.f3.params[j]? = some t → args[j]? = some v → Value.okWide Try.prog W .any base t v := hval0
  obtain ⟨p, q, hA0, _, _, _, _⟩ := id hW
  have hA : DataW.TrodAll enc Try.prog W 0 (fun _ => true) true Try.f3.params.toList args.toList ds p := hA0
  rw [Try.params3] at hA hval
  obtain ⟨v0, vs0, d0, ds0, p0, q0, hargs, rfl, rfl, h0, r0⟩ := trodAll_cons hA
  obtain ⟨rfl, rfl, rfl⟩ := trodAll_nil r0
  obtain rfl : args = #[v0] := by cases args; simp_all
  obtain ⟨l0, w0, s0⟩ := ints_in (hval 0 22 v0 rfl rfl) h0
  refine (walk l0 v0 W w0).mono fun e W' ⟨he, hg⟩ => ?_
  subst he
  exact ⟨_, rfl, law_post laidOut Try.underlying4 (by kernel_rfl) (by kernel_rfl) rfl hW (by simp [Rows.rtoHoldsSpec]) hg⟩

theorem proved : Rows.RtoHoldsSaid :=
  OpenClaim.holds_of_wide 3 Try.f3 rfl rfl rfl rfl rfl rfl rfl ⟨rfl, rfl, rfl, rfl, rfl⟩ rfl rfl rfl rfl rfl (by kernel_rfl) Try.func3 (by kernel_rfl)
    (of_decide_eq_true (by kernel_rfl)) (by unfold Func.isWrapper; first | (rw [if_pos (by decide +kernel)]; kernel_rfl) | (rw [if_neg (by decide +kernel)]; exact ⟨rfl, rfl⟩))
    (fun os started H enc _ => lifted os started H enc)
#print axioms proved
end Go.Proofs.Ytdklldennckniaa.rtoHolds
