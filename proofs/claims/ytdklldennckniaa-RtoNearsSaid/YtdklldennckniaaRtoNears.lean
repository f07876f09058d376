/-
  With samples that are all the same what is reckoned never goes away from them, and the timer waits no less than a sample takes, as far as the bounds let it: any number, how many (numbers of 0 to 60000).
-/
import Derived.Test.YtdklldennckniaaLift
import Derived.Test.YtdklldennckniaaShown
import Derived.Test.YtdklldennckniaaArgs
namespace Go.Proofs.Ytdklldennckniaa.rtoNears
open Go.ChangeShapes Go.WideShapes Go.ChangeAt Go.RowKit
set_option linter.unusedVariables false

/-- A timer that has seen something; what it reckons lies between two numbers. -/
structure Near (lo hi : Int) (T : Tm) : Prop where
  known : T.known = true
  lo : lo ≤ T.srtt
  hi : T.srtt ≤ hi
  var : 0 ≤ T.var
  rto : T.rto = waitI T.srtt T.var
theorem near_first {f r : Int} (h : 0 ≤ f) (h' : f ≤ 60000) : Near (min f r) (max f r) (sampleT newT f) := by
  have e : heldI f 0 60000 = f := by unfold heldI; omega
  have h0 := heldI_le (n := f) (show (0 : Int) ≤ 60000 by omega)
  refine ⟨rfl, ?_, ?_, (varI_le newT _ h0.1 h0.2).1, rfl⟩
  · show _ ≤ heldI f 0 60000
    omega
  · show heldI f 0 60000 ≤ _
    omega
theorem near_next {lo hi r : Int} {T : Tm} (h : Near lo hi T) (h0 : 0 ≤ lo) (h1 : hi ≤ 60000) (hl : lo ≤ r) (hh : r ≤ hi) : Near lo hi (sampleT T r) ∧ ((T.srtt ≤ (sampleT T r).srtt ∧ (sampleT T r).srtt ≤ r) ∨ (r ≤ (sampleT T r).srtt ∧ (sampleT T r).srtt ≤ T.srtt)) := by
  have e : heldI r 0 60000 = r := by unfold heldI; omega
  have q := heldI_le (n := r) (show (0 : Int) ≤ 60000 by omega)
  have ek : keptI T.srtt = T.srtt := keptI_in (by have := h.lo; omega) (by have := h.hi; omega)
  have es : (sampleT T r).srtt = (7 * T.srtt + r) / 8 := by
    show srttI T (heldI r 0 60000) = _
    unfold srttI
    rw [if_pos h.known, e, ek]
  have a1 := h.lo
  have a2 := h.hi
  refine ⟨⟨rfl, ?_, ?_, (varI_le T _ q.1 q.2).1, rfl⟩, ?_⟩
  · rw [es]; omega
  · rw [es]; omega
  · rw [es]; omega
theorem near_rto {lo hi : Int} {T : Tm} (h : Near lo hi T) : min (max T.srtt 1000) 60000 ≤ T.rto := by
  rw [h.rto]
  have := h.var
  show _ ≤ heldI (T.srtt + 4 * T.var) 1000 60000
  unfold heldI
  omega
set_option maxHeartbeats 1000000 in
set_option maxRecDepth 100000 in
theorem walk_out (f r m : Int) (h : r < 0 ∨ (¬ r < 0 ∧ 60000 < r) ∨ (¬ r < 0 ∧ ¬ 60000 < r ∧ f < 0) ∨ (¬ r < 0 ∧ ¬ 60000 < r ∧ ¬ f < 0 ∧ 60000 < f)) (w : World) :
    Calls Try.prog 4 #[.int .i64 f, .int .i64 r, .int .i64 m] w fun e w' => e = .returned (.bool true) ∧ Below w.heap.size w w' := by
  have HS := Lib.hid (fun W => shown_any W)
  rcases h with h | ⟨h1, h⟩ | ⟨h1, h2, h⟩ | ⟨h1, h2, h3, h⟩
  all_goals
    go_enter Try.func4, Try.ntmps4
    go_wp2_with (refine (HS.out _).mono ?_; rintro e w1 ⟨rfl, hb⟩; have HB := Lib.hid hb; clear hb)
    go_ret
    exact ⟨rfl, HB.out⟩
set_option maxHeartbeats 1000000 in
set_option maxRecDepth 100000 in
theorem walk_mid (f r m : Int) (hm : -9223372036854775808 ≤ m ∧ m ≤ 9223372036854775807) (h1 : 0 ≤ r) (h2 : r ≤ 60000) (h3 : 0 ≤ f) (h4 : f ≤ 60000) (w : World) :
    Calls Try.prog 4 #[.int .i64 f, .int .i64 r, .int .i64 m] w fun e w' => e = .returned (.bool true) ∧ Below w.heap.size w w' := by
  have HS := Lib.hid (fun W => shown_any W)
  have HN := Lib.hid (fun W => new_any W)
  have HX := Lib.hid (fun W => sample_any newT f W)
  have HNF := Lib.hid (near_first (r := r) h3 h4)
  generalize sampleT newT f = t at *
  have HLH := Lib.hid (show 0 ≤ min f r ∧ max f r ≤ 60000 ∧ min f r ≤ r ∧ r ≤ max f r by omega)
  have h1' : ¬ r < 0 := by omega
  have h2' : ¬ 60000 < r := by omega
  have h3' : ¬ f < 0 := by omega
  have h4' : ¬ 60000 < f := by omega
  obtain ⟨N, hN, hcase⟩ : ∃ N : Int, N < 60 ∧ ((m < -m ∧ wrap64 (-m) = -m ∧ Int.tmod (-m) 60 = N) ∨ (-m < m ∧ wrap64 (-m) = -m ∧ Int.tmod m 60 = N) ∨ (wrap64 (-m) = m ∧ Int.tmod m 60 = N)) := by
    have hlt : ∀ x : Int, Int.tmod x 60 < 60 := fun x => Int.tmod_lt_of_pos x (by omega)
    by_cases ha : m = -9223372036854775808
    · subst ha
      exact ⟨_, hlt _, .inr (.inr ⟨by unfold wrap64; omega, rfl⟩)⟩
    · have hw : wrap64 (-m) = -m := by unfold wrap64; omega
      rcases (by omega : m < -m ∨ -m < m ∨ m = 0) with h | h | h
      · exact ⟨_, hlt _, .inl ⟨h, hw, rfl⟩⟩
      · exact ⟨_, hlt _, .inr (.inl ⟨h, hw, rfl⟩)⟩
      · subst h
        exact ⟨_, hlt _, .inr (.inr ⟨by unfold wrap64; omega, rfl⟩)⟩
  clear h1 h2 h3 h4
  go_enter Try.func4, Try.ntmps4
  go_wp2_with fail
  refine (HS.out _).mono ?_
  rintro e w1 ⟨rfl, hb⟩
  have HB := Lib.hid hb
  clear hb
  go_wp2_with fail
  refine (HN.out _).mono ?_
  rintro e w2 ⟨rfl, hb⟩
  replace HB := Lib.hid (HB.out.trans (hb.mono HB.out.size))
  clear hb
  go_wp2_with fail
  refine (HX.out _).mono ?_
  rintro e w3 ⟨rfl, hb⟩
  replace HB := Lib.hid (HB.out.trans (hb.mono HB.out.size))
  clear hb
  have HT := Lib.hid (TS.made HB.out zeroT)
  have hwt := HB.out.size
  obtain ⟨g1, hg1⟩ : ∃ g, w3.heap.size = g := ⟨_, rfl⟩
  have HF := Lib.hid (Tx.fresh w3 zeroT)
  rw [hg1] at HT HF hwt
  clear HB HS HN HX
  go_wp2_with (refine gate9 ?_; refine stT (.tmp 8) (.tmp 33) t g1 rfl rfl rfl rfl HF.out ?_; intro w4 ht hg; replace HT := Lib.hid (HT.out.set ht hg); clear ht hg HF)
  go_loopw [9] (fun i wr => ∃ (k : Nat) (T : Tm), k ≤ 60 ∧ i = .int .i64 k ∧ Near (min f r) (max f r) T ∧ TS w g1 T wr) (fun i _ => 60 - (intOf i).toNat)
  case atStart => exact ⟨0, t, by omega, rfl, HNF.out, HT.out⟩
  case round =>
    obtain ⟨k, T, hk, rfl, hnear, ht⟩ := hrel
    have H1 := Lib.hid ht
    have HNE := Lib.hid hnear
    clear ht hnear HT HNF
    rcases hcase with ⟨hc, hw, ht⟩ | ⟨hc, hw, ht⟩ | ⟨hw, ht⟩
    all_goals
      by_cases hlt : (k : Int) < N
      · have HSM := Lib.hid (fun W => sample_any T r W)
        obtain ⟨hn, hs⟩ := near_next HNE.out HLH.out.1 HLH.out.2.1 HLH.out.2.2.1 HLH.out.2.2.2
        have HNU := Lib.hid hn
        have hb1 := HNE.out.lo
        have hb2 := HNE.out.hi
        clear hn
        generalize sampleT T r = U at *
        obtain ⟨x, hx⟩ : ∃ x, U.srtt = x := ⟨_, rfl⟩
        obtain ⟨y, hy⟩ : ∃ y, T.srtt = y := ⟨_, rfl⟩
        rw [hx, hy] at hs
        rw [hy] at hb1 hb2
        have hcmp : (if x - r < r - x then r - x else x - r) ≤ (if y - r < r - y then r - y else y - r) := by split <;> split <;> omega
        obtain ⟨M1, hM1⟩ : ∃ M1, (if x - r < r - x then r - x else x - r) = M1 := ⟨_, rfl⟩
        obtain ⟨M2, hM2⟩ : ∃ M2, (if y - r < r - y then r - y else y - r) = M2 := ⟨_, rfl⟩
        rw [hM1, hM2] at hcmp
        go_wp2_with (first
          | (refine gate9 ?_; refine ldT (.tmp 8) g1 rfl rfl rfl H1.out.own ?_)
          | (refine (HSM.out _).mono ?_; rintro e w8 ⟨rfl, hb⟩; replace H1 := Lib.hid (H1.out.later hb); clear hb)
          | (refine gate9 ?_; refine stT (.tmp 10) (.tmp 45) U w8.heap.size rfl rfl rfl rfl (Tx.fresh w8 zeroT) ?_; intro w9 ht hg
             have HU := Lib.hid ((TS.made H1.out.below zeroT).set ht hg)
             have hne := H1.out.own.lt
             have hwu := H1.out.below.size
             replace H1 := Lib.hid ((H1.out.alloc (.cells (cellsT zeroT) 25)).kept hg hwu (Nat.ne_of_lt hne))
             clear ht hg
             obtain ⟨g2, hg2⟩ : ∃ g, w8.heap.size = g := ⟨_, rfl⟩
             rw [hg2] at HU hne hwu
             have c0 := H1.out.own.c.1
             have d0 := HU.out.own.c.1
             rw [hx] at d0
             rw [hy] at c0)
          | (refine gate9 ?_; refine ldT (.tmp 10) g2 rfl rfl rfl HU.out.own ?_)
          | (refine gate9 ?_; refine stT (.tmp 8) (.tmp 65) U g1 rfl rfl rfl rfl H1.out.own ?_; intro w10 ht hg; replace H1 := Lib.hid (H1.out.set ht hg); clear ht hg))
        go_roundw
        case rel => exact ⟨k + 1, U, by omega, rfl, HNU.out, H1.out⟩
        case measure => simp [intOf]; omega
      · have c0 := H1.out.own.c.1
        have c2 := H1.out.own.c.2.2.1
        have q1 := HNE.out.lo
        have q2 := HNE.out.hi
        have q3 := near_rto HNE.out
        have HBE := Lib.hid H1.out.below
        generalize T.srtt = y at *
        generalize T.rto = z at *
        clear H1 HNE HLH
        have q5 : (if f < r then r else f) = max f r := by omega
        have q4 : (if r < f then r else f) = min f r := by omega
        generalize max f r = hi at *
        generalize min f r = lo at *
        have q6 : (if y < 1000 then 1000 else y) = max y 1000 := by omega
        generalize max y 1000 = a at *
        have q7 : (if 60000 < a then 60000 else a) = min a 60000 := by omega
        generalize min a 60000 = b at *
        go_wp2_with fail
        all_goals
          go_ret
          exact ⟨rfl, HBE.out⟩
theorem walk (f r m : Int) (hm : -9223372036854775808 ≤ m ∧ m ≤ 9223372036854775807) (w : World) : Calls Try.prog 4 #[.int .i64 f, .int .i64 r, .int .i64 m] w fun e w' => e = .returned (.bool true) ∧ Below w.heap.size w w' := by
  by_cases h : r < 0 ∨ (¬ r < 0 ∧ 60000 < r) ∨ (¬ r < 0 ∧ ¬ 60000 < r ∧ f < 0) ∨ (¬ r < 0 ∧ ¬ 60000 < r ∧ ¬ f < 0 ∧ 60000 < f)
  · exact walk_out f r m h w
  · exact walk_mid f r m hm (by omega) (by omega) (by omega) (by omega) w

set_option maxRecDepth 100000 in
theorem lifted (os : Os) (started : os.Started) (H : Type) (enc : TypeId × Value → H) :
    ReturnsInHanded {} Try.checked os 4 .any (Rows.rtoNearsSpec.pre6 enc Try.prog Try.f4 Rows.rtoNearsRow.domain false) (Rows.rtoNearsSpec.post enc Try.prog Try.f4 false true false false) := by
  refine returnsInHanded_of_change_sized (C := Try.checked) own started (by kernel_rfl) Try.func4
    (ChangeSpec.witness6 (enc := enc) (C := Try.checked) false ⟨#[], #[.int .i64 0, .int .i64 0, .int .i64 0], []⟩ 8 (by kernel_rfl) (by kernel_rfl) (by kernel_rfl) (by kernel_rfl)) ?_
  intro W base args ds gs before hval0 hW _ hreach _
  have hval : ∀ (j : Nat) t v, Try.f4.params[j]? = some t → args[j]? = some v → Value.okWide Try.prog W .any base t v := hval0
  obtain ⟨p, q, hA0, _, _, _, _⟩ := id hW
  have hA : DataW.TrodAll enc Try.prog W 0 (fun _ => true) true Try.f4.params.toList args.toList ds p := hA0
  rw [Try.params4] at hA hval
  obtain ⟨v0, vs0, d0, ds0, p0, q0, hargs, rfl, rfl, h0, r0⟩ := trodAll_cons hA
  obtain ⟨v1, vs1, d1, ds1, p1, q1, rfl, rfl, rfl, h1, r1⟩ := trodAll_cons r0
  obtain ⟨v2, vs2, d2, ds2, p2, q2, rfl, rfl, rfl, h2, r2⟩ := trodAll_cons r1
  obtain ⟨rfl, rfl, rfl⟩ := trodAll_nil r2
  obtain rfl : args = #[v0, v1, v2] := by cases args; simp_all
  obtain ⟨a0, rfl, rfl, rfl, w0⟩ := open_int Try.underlying3 (hval 0 3 v0 rfl rfl) h0
  obtain ⟨a1, rfl, rfl, rfl, w1⟩ := open_int Try.underlying3 (hval 1 3 v1 rfl rfl) h1
  obtain ⟨a2, rfl, rfl, rfl, w2⟩ := open_int Try.underlying3 (hval 2 3 v2 rfl rfl) h2
  refine (walk a0 a1 a2 (bounds_i64 w2) W).mono fun e W' ⟨he, hg⟩ => ?_
  subst he
  exact ⟨_, rfl, law_post laidOut Try.underlying4 (by kernel_rfl) (by kernel_rfl) rfl hW (by simp [Rows.rtoNearsSpec]) hg⟩

theorem proved : Rows.RtoNearsSaid :=
  OpenClaim.holds_of_wide 4 Try.f4 rfl rfl rfl rfl rfl rfl rfl ⟨rfl, rfl, rfl, rfl, rfl⟩ rfl rfl rfl rfl rfl (by kernel_rfl) Try.func4 (by kernel_rfl)
    (of_decide_eq_true (by kernel_rfl)) (by unfold Func.isWrapper; first | (rw [if_pos (by decide +kernel)]; kernel_rfl) | (rw [if_neg (by decide +kernel)]; exact ⟨rfl, rfl⟩))
    (fun os started H enc _ => lifted os started H enc)
#print axioms proved
end Go.Proofs.Ytdklldennckniaa.rtoNears
