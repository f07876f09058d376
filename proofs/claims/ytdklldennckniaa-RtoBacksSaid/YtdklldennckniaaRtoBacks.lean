/-
  Waiting in vain n times doubles the time n times, as far as the bounds let it; hearing again makes it what it was reckoned to be: any two numbers (others than 0 to 60000, and 0 to 20, are not asked of).
-/
import Derived.Test.YtdklldennckniaaLift
import Derived.Test.YtdklldennckniaaShown
import Derived.Test.YtdklldennckniaaArgs
import Derived.Deep.RegionHeld
namespace Go.Proofs.Ytdklldennckniaa.rtoBacks
open Go.ChangeShapes Go.WideShapes Go.ChangeAt Go.RowKit
set_option linter.unusedVariables false

set_option maxHeartbeats 1000000 in
set_option maxRecDepth 100000 in
theorem walk_out (r n : Int) (h : r < 0 ∨ (¬ r < 0 ∧ 60000 < r) ∨ (¬ r < 0 ∧ ¬ 60000 < r ∧ n < 0) ∨ (¬ r < 0 ∧ ¬ 60000 < r ∧ ¬ n < 0 ∧ 20 < n)) (w : World) :
    Calls Try.prog 5 #[.int .i64 r, .int .i64 n] w fun e w' => e = .returned (.bool true) ∧ Below w.heap.size w w' := by
  have HS := Lib.hid (fun W => shown_any W)
  rcases h with h | ⟨h1, h⟩ | ⟨h1, h2, h⟩ | ⟨h1, h2, h3, h⟩
  all_goals
    go_enter Try.func5, Try.ntmps5
    go_wp2_with (refine (HS.out _).mono ?_; rintro e w1 ⟨rfl, hb⟩; have HB := Lib.hid hb; clear hb)
    go_ret
    exact ⟨rfl, HB.out⟩
set_option maxHeartbeats 1000000 in
set_option maxRecDepth 100000 in
theorem walk_mid (r : Int) (n : Nat) (h1 : 0 ≤ r) (h2 : r ≤ 60000) (hn : n ≤ 20) (w : World) :
    Calls Try.prog 5 #[.int .i64 r, .int .i64 (n : Int)] w fun e w' => e = .returned (.bool true) ∧ Below w.heap.size w w' := by
  have HS := Lib.hid (fun W => shown_any W)
  have HN := Lib.hid (fun W => new_any W)
  have HX := Lib.hid (fun W => sample_any newT r W)
  have hwf := Lib.hid (backN_wf (sample_wf newT r))
  have hgood := Lib.hid (fun W => good_any (backN n (sampleT newT r)) W)
  rw [good_back] at hgood
  have hrest := Lib.hid (backN_rest (sampleT newT r))
  have hbacks := Lib.hid (backN_backs (t := sampleT newT r) rfl)
  have hrto := Lib.hid (backN_rto (t := sampleT newT r) (waitI_le _ _).1 (waitI_le _ _).2)
  generalize sampleT newT r = t at *
  have h1' : ¬ r < 0 := by omega
  have h2' : ¬ 60000 < r := by omega
  have h3' : ¬ (n : Int) < 0 := by omega
  have h4' : ¬ 20 < (n : Int) := by omega
  clear h1 h2
  go_enter Try.func5, Try.ntmps5
  go_wp2_with fail
  refine (HS.out _).mono ?_
  rintro e w1 ⟨rfl, hb⟩
  have HB := Lib.hid hb
  clear hb
  go_wp2_with fail
  refine (HN.out _).mono ?_
  rintro e w2 ⟨rfl, hb⟩
  replace HB := Lib.hid (HB.out.trans (hb.mono HB.out.size))
  clear hb
  go_wp2_with fail
  refine (HX.out _).mono ?_
  rintro e w3 ⟨rfl, hb⟩
  replace HB := Lib.hid (HB.out.trans (hb.mono HB.out.size))
  clear hb
  have HT := Lib.hid (TS.made HB.out zeroT)
  have hwt := HB.out.size
  obtain ⟨g1, hg1⟩ : ∃ g, w3.heap.size = g := ⟨_, rfl⟩
  have HF := Lib.hid (Tx.fresh w3 zeroT)
  rw [hg1] at HT HF hwt
  clear HB
  clear HS HN HX
  go_wp2_with (first
    | (refine gate9 ?_; refine stT (.tmp 6) (.tmp 32) t g1 rfl rfl rfl rfl HF.out ?_; intro w4 ht hg; replace HT := Lib.hid (HT.out.set ht hg); clear ht hg HF)
    | (refine gate9 ?_; refine ldT (.tmp 6) g1 rfl rfl rfl HT.out.own ?_)
    | (refine gate9 ?_; refine stT (.tmp 7) (.tmp 33) t w4.heap.size rfl rfl rfl rfl (Tx.fresh w4 zeroT) ?_; intro w5 ht hg
       have HU := Lib.hid ((TS.made HT.out.below zeroT).set ht hg)
       have hne := HT.out.own.lt
       have hwu := HT.out.below.size
       replace HT := Lib.hid ((HT.out.alloc (.cells (cellsT zeroT) 25)).kept hg hwu (Nat.ne_of_lt hne))
       clear ht hg
       obtain ⟨g2, hg2⟩ : ∃ g, w4.heap.size = g := ⟨_, rfl⟩
       rw [hg2] at HU hne hwu
       have c2 := HT.out.own.c.2.2.1))
  clear c2
  go_loopw [8, 9] (fun x i wr => ∃ k : Nat, k ≤ n ∧ i = .int .i64 k ∧ x = .int .i64 (backN k t).rto ∧ TS w g1 t wr ∧ TS w g2 (backN k t) wr) (fun _ i _ => n - (intOf i).toNat)
  case atStart => exact ⟨0, by omega, rfl, rfl, HT.out, HU.out⟩
  case round =>
    obtain ⟨k, hk, rfl, rfl, ht, hu⟩ := hrel
    have H1 := Lib.hid ht
    have H2 := Lib.hid hu
    clear ht hu HT HU
    by_cases hlt : k < n
    · have HBK := Lib.hid (fun W => back_any (backN k t) (hwf.out k) W)
      have e1 := (hrest.out (k + 1)).1
      have e2 := (hrest.out (k + 1)).2.1
      have e3 : (backT (backN k t)).backs = (k : Int) + 1 := hbacks.out (k + 1) (by omega)
      have hr := hrto.out k
      have e4 := back_twice (backN k t) hr.1 hr.2
      change (backT (backN k t)).srtt = _ at e1
      change (backT (backN k t)).var = _ at e2
      have HREL : Hid (∀ W : World, TS w g1 t W → TS w g2 (backT (backN k t)) W → TS w g1 t W ∧ TS w g2 (backN (k + 1) t) W ∧ (backN (k + 1) t).rto = (backT (backN k t)).rto) := Lib.hid fun W h1 h2 => ⟨h1, h2, rfl⟩
      generalize backT (backN k t) = R at *
      obtain ⟨rs, rv, rr, rb, rk⟩ := R
      dsimp only at e1 e2 e3 e4
      obtain rfl : rs = t.srtt := e1
      obtain rfl : rv = t.var := e2
      obtain rfl : rb = (k : Int) + 1 := e3
      have hwg1 := HREL.out
      generalize (backN k t).rto = z at *
      obtain ⟨hz1, hz2⟩ := hr
      have hcase : (60000 < 2 * z ∧ rr = 60000) ∨ (¬ 60000 < 2 * z ∧ rr = 2 * z) := by omega
      clear e4 hwg1
      have HC : Hid (∀ W : World, TS w g1 t W → TS w g2 ⟨t.srtt, t.var, rr, (k : Int) + 1, rk⟩ W → W.cell? ⟨g1, 0, none⟩ = some (.int .i64 t.srtt) ∧ W.cell? ⟨g1, 1, none⟩ = some (.int .i64 t.var) ∧ W.cell? ⟨g2, 0, none⟩ = some (.int .i64 t.srtt) ∧ W.cell? ⟨g2, 1, none⟩ = some (.int .i64 t.var) ∧ W.cell? ⟨g2, 2, none⟩ = some (.int .i64 rr) ∧ W.cell? ⟨g2, 3, none⟩ = some (.int .i64 ((k : Int) + 1))) := Lib.hid fun W h1 h2 => ⟨h1.own.c.1, h1.own.c.2.1, h2.own.c.1, h2.own.c.2.1, h2.own.c.2.2.1, h2.own.c.2.2.2.1⟩
      rcases hcase with ⟨hc, rfl⟩ | ⟨hc, rfl⟩
      all_goals
        go_wp2_with (first
          | (refine gate9 ?_; refine ldT (.tmp 7) g2 rfl rfl rfl H2.out.own ?_)
          | (refine (HBK.out _).mono ?_; rintro e w8 ⟨rfl, hb⟩; replace H1 := Lib.hid (H1.out.later hb); replace H2 := Lib.hid (H2.out.later hb); clear hb)
          | (refine gate9 ?_; refine stT (.tmp 7) (.tmp 42) _ g2 rfl rfl rfl rfl H2.out.own ?_; intro w9 ht hg; replace H2 := Lib.hid (H2.out.set ht hg); replace H1 := Lib.hid (H1.out.kept hg hwu (Nat.ne_of_lt hne)); clear ht hg; obtain ⟨d0, d1, f0, f1, f2, f3⟩ := HC.out _ H1.out H2.out))
        go_roundw
        case rel =>
          obtain ⟨p, q, e⟩ := HREL.out _ H1.out H2.out
          exact ⟨k + 1, by omega, rfl, by rw [e], p, q⟩
        case measure => simp [intOf]; omega
    · obtain rfl : k = n := by omega
      have hr := hrto.out k
      have HBE := Lib.hid (fun W => beat_any (backN k t) 30000 W)
      have hbe : beatI (backN k t) 30000 = (backN k t).rto + 30000 := by unfold beatI; rw [keptI_in (by omega) (by omega)]; rfl
      rw [hbe] at HBE
      clear hbe
      have HZ := Lib.hid H2.out.own
      generalize backN k t = U at *
      have HQ := eql_same t
      obtain ⟨z, hz⟩ : ∃ z, U.rto = z := ⟨_, rfl⟩
      rw [hz] at hr HBE
      have hz1 := hr.1
      have hz2 := hr.2
      have hwr : IntKind.i64.wrap (z + 30000) = z + 30000 := by rw [IntKind.wrap_i64]; omega
      clear hr hwf hrest hbacks hrto
      go_wp2_with fail
      refine wp_region_noPanic ?_
      refine wp_region_held_drew (S := fun W => TS w g1 t W ∧ TS w g2 U W) (by kernel_rfl) ⟨H1.out.drew, H2.out.drew⟩ (fun hHeld => ?_)
      refine wpAnyH_take (i := 0) (v := _) (by simp only [List.getElem?_toArray, List.getElem?_cons_zero]; rfl) (by kernel_rfl) (by kernel_rfl) (by kernel_rfl) (fun _ _ _ h => h) (yT (by rfl) (.tmp 7) rfl g2 rfl U (fun W h => h.2.own)) (by assumption) ?_
      try simp only [Act.put, List.setIfInBounds_toArray, List.set_cons_zero, List.set_cons_succ]
      refine wpAnyH_take (i := 2) (v := _) (by simp only [List.getElem?_toArray, List.getElem?_cons_succ, List.getElem?_cons_zero]; rfl) (by kernel_rfl) (by kernel_rfl) (by kernel_rfl) (fun _ _ _ h => h) (yT (by rfl) (.tmp 6) rfl g1 rfl t (fun W h => h.1.own)) (by assumption) ?_
      try simp only [Act.put, List.setIfInBounds_toArray, List.set_cons_zero, List.set_cons_succ]
      refine wpAnyH_ready (rs := [1]) (by kernel_rfl) (by simp) ?_
      refine AllReadyH.cons (by simp only [List.getElem?_toArray, List.getElem?_cons_succ, List.getElem?_cons_zero]; rfl) (fun K hK => ?_) AllReadyH.nil
      go_simp
      refine (hgood.out _).mono ?_
      rintro _ w7 ⟨rfl, hb⟩
      have hS := And.intro (hHeld.1.later hb) (hHeld.2.later hb)
      clear hHeld hb
      go_wp2_with fail
      refine hK.out _ _ hS (fun hHeld => ?_)
      clear hK K hS
      try simp only [Act.put, List.setIfInBounds_toArray, List.set_cons_zero, List.set_cons_succ]
      refine wpAnyH_take (i := 3) (v := ?_) (by simp only [List.getElem?_toArray, List.getElem?_cons_succ, List.getElem?_cons_zero]; rfl) (by kernel_rfl) (by kernel_rfl) (by kernel_rfl) (fun _ _ _ h => h) (Or.inl ⟨by rfl, ?_⟩) (by assumption) ?_
      rotate_left 1
      · (intro w' hSw; go_simp; try with_reducible rfl)
      try simp only [Act.put, List.setIfInBounds_toArray, List.set_cons_zero, List.set_cons_succ]
      refine wpAnyH_take (i := 4) (v := ?_) (by simp only [List.getElem?_toArray, List.getElem?_cons_succ, List.getElem?_cons_zero]; rfl) (by kernel_rfl) (by kernel_rfl) (by kernel_rfl) (fun _ _ _ h => h) (Or.inl ⟨by rfl, ?_⟩) (by assumption) ?_
      rotate_left 1
      · (intro w' hSw; go_simp; try with_reducible rfl)
      try simp only [Act.put, List.setIfInBounds_toArray, List.set_cons_zero, List.set_cons_succ]
      refine wpAnyH_take (i := 5) (v := _) (by simp only [List.getElem?_toArray, List.getElem?_cons_succ, List.getElem?_cons_zero]; rfl) (by kernel_rfl) (by kernel_rfl) (by kernel_rfl) (fun _ _ _ h => h) (yT (by rfl) (.tmp 7) rfl g2 rfl U (fun W h => h.2.own)) (by assumption) ?_
      try simp only [Act.put, List.setIfInBounds_toArray, List.set_cons_zero, List.set_cons_succ]
      refine wpAnyH_take (i := 7) (v := ?_) (by simp only [List.getElem?_toArray, List.getElem?_cons_succ, List.getElem?_cons_zero]; rfl) (by kernel_rfl) (by kernel_rfl) (by kernel_rfl) (fun _ _ _ h => h) (Or.inl ⟨by rfl, ?_⟩) (by assumption) ?_
      rotate_left 1
      · (intro w' hSw; go_simp; try with_reducible rfl)
      try simp only [Act.put, List.setIfInBounds_toArray, List.set_cons_zero, List.set_cons_succ]
      refine wpAnyH_take (i := 8) (v := ?_) (by simp only [List.getElem?_toArray, List.getElem?_cons_succ, List.getElem?_cons_zero]; rfl) (by kernel_rfl) (by kernel_rfl) (by kernel_rfl) (fun _ _ _ h => h) (Or.inl ⟨by rfl, ?_⟩) (by assumption) ?_
      rotate_left 1
      · (intro w' hSw; go_simp; try with_reducible rfl)
      try simp only [Act.put, List.setIfInBounds_toArray, List.set_cons_zero, List.set_cons_succ]
      refine wpAnyH_ready (rs := [6]) (by kernel_rfl) (by simp) ?_
      refine AllReadyH.cons (by simp only [List.getElem?_toArray, List.getElem?_cons_succ, List.getElem?_cons_zero]; rfl) (fun K hK => ?_) AllReadyH.nil
      go_simp
      refine (HBE.out _).mono ?_
      rintro _ w8 ⟨rfl, hb⟩
      have hS := And.intro (hHeld.1.later hb) (hHeld.2.later hb)
      clear hHeld hb
      go_wp2_with fail
      refine hK.out _ _ hS (fun hHeld => ?_)
      clear hK K hS
      try simp only [Act.put, List.setIfInBounds_toArray, List.set_cons_zero, List.set_cons_succ]
      refine wpAnyH_take (i := 9) (v := ?_) (by simp only [List.getElem?_toArray, List.getElem?_cons_succ, List.getElem?_cons_zero]; rfl) (by kernel_rfl) (by kernel_rfl) (by kernel_rfl) (fun _ _ _ h => h) (Or.inl ⟨by rfl, ?_⟩) (by assumption) ?_
      rotate_left 1
      · (intro w' hSw; go_simp; try with_reducible rfl)
      try simp only [Act.put, List.setIfInBounds_toArray, List.set_cons_zero, List.set_cons_succ]
      refine wpAnyH_take (i := 10) (v := ?_) (by simp only [List.getElem?_toArray, List.getElem?_cons_succ, List.getElem?_cons_zero]; rfl) (by kernel_rfl) (by kernel_rfl) (by kernel_rfl) (fun _ _ _ h => h) (Or.inl ⟨by rfl, ?_⟩) (by assumption) ?_
      rotate_left 1
      · (intro w' hSw; go_simp; try with_reducible rfl)
      try simp only [Act.put, List.setIfInBounds_toArray, List.set_cons_zero, List.set_cons_succ]
      refine wpAnyH_take (i := 11) (v := ?_) (by simp only [List.getElem?_toArray, List.getElem?_cons_succ, List.getElem?_cons_zero]; rfl) (by kernel_rfl) (by kernel_rfl) (by kernel_rfl) (fun _ _ _ h => h) (Or.inl ⟨by rfl, ?_⟩) (by assumption) ?_
      rotate_left 1
      · (intro w' hSw; go_simp; try with_reducible rfl)
      try simp only [Act.put, List.setIfInBounds_toArray, List.set_cons_zero, List.set_cons_succ]
      refine wpAnyH_done (by kernel_rfl) ?_ _
      refine NoPanic.normal ?_
      have HEND := Lib.hid hHeld.1.below
      clear hHeld
      go_wp2_with fail
      go_ret
      exact ⟨rfl, HEND.out⟩
theorem walk (r n : Int) (w : World) : Calls Try.prog 5 #[.int .i64 r, .int .i64 n] w fun e w' => e = .returned (.bool true) ∧ Below w.heap.size w w' := by
  by_cases h : r < 0 ∨ (¬ r < 0 ∧ 60000 < r) ∨ (¬ r < 0 ∧ ¬ 60000 < r ∧ n < 0) ∨ (¬ r < 0 ∧ ¬ 60000 < r ∧ ¬ n < 0 ∧ 20 < n)
  · exact walk_out r n h w
  · obtain ⟨m, rfl⟩ : ∃ m : Nat, n = (m : Int) := ⟨n.toNat, by omega⟩
    exact walk_mid r m (by omega) (by omega) (by omega) w

set_option maxRecDepth 100000 in
theorem lifted (os : Os) (started : os.Started) (H : Type) (enc : TypeId × Value → H) :
    ReturnsInHanded {} Try.checked os 5 .any (Rows.rtoBacksSpec.pre6 enc Try.prog Try.f5 Rows.rtoBacksRow.domain false) (Rows.rtoBacksSpec.post enc Try.prog Try.f5 false true false false) := by
  refine returnsInHanded_of_change_sized (C := Try.checked) own started (by kernel_rfl) Try.func5
    (ChangeSpec.witness6 (enc := enc) (C := Try.checked) false ⟨#[], #[.int .i64 0, .int .i64 0], []⟩ 8 (by kernel_rfl) (by kernel_rfl) (by kernel_rfl) (by kernel_rfl)) ?_
  intro W base args ds gs before hval0 hW _ hreach _
  have hval : ∀ (j : Nat) t v, Try.f5.params[j]? = some t → args[j]? = some v → Value.okWide Try.prog W .any base t v := hval0
  obtain ⟨p, q, hA0, _, _, _, _⟩ := id hW
  have hA : DataW.TrodAll enc Try.prog W 0 (fun _ => true) true Try.f5.params.toList args.toList ds p := hA0
  rw [Try.params5] at hA hval
  obtain ⟨v0, vs0, d0, ds0, p0, q0, hargs, rfl, rfl, h0, r0⟩ := trodAll_cons hA
  obtain ⟨v1, vs1, d1, ds1, p1, q1, rfl, rfl, rfl, h1, r1⟩ := trodAll_cons r0
  obtain ⟨rfl, rfl, rfl⟩ := trodAll_nil r1
  obtain rfl : args = #[v0, v1] := by cases args; simp_all
  obtain ⟨a0, rfl, rfl, rfl, w0⟩ := open_int Try.underlying3 (hval 0 3 v0 rfl rfl) h0
  obtain ⟨a1, rfl, rfl, rfl, w1⟩ := open_int Try.underlying3 (hval 1 3 v1 rfl rfl) h1
  refine (walk a0 a1 W).mono fun e W' ⟨he, hg⟩ => ?_
  subst he
  exact ⟨_, rfl, law_post laidOut Try.underlying4 (by kernel_rfl) (by kernel_rfl) rfl hW (by simp [Rows.rtoBacksSpec]) hg⟩

theorem proved : Rows.RtoBacksSaid :=
  OpenClaim.holds_of_wide 5 Try.f5 rfl rfl rfl rfl rfl rfl rfl ⟨rfl, rfl, rfl, rfl, rfl⟩ rfl rfl rfl rfl rfl (by kernel_rfl) Try.func5 (by kernel_rfl)
    (of_decide_eq_true (by kernel_rfl)) (by unfold Func.isWrapper; first | (rw [if_pos (by decide +kernel)]; kernel_rfl) | (rw [if_neg (by decide +kernel)]; exact ⟨rfl, rfl⟩))
    (fun os started H enc _ => lifted os started H enc)
#print axioms proved
end Go.Proofs.Ytdklldennckniaa.rtoBacks
