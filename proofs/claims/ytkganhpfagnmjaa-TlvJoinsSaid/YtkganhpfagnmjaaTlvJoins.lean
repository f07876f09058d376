/-
  Two rows one behind the other are both rows' items, if the first one is whole; where the first one is wrong, the whole is, at the same place: any two texts (of at most 1500 bytes each; longer ones are not asked of).
-/
import Derived.Test.YtkganhpfagnmjaaLift
import Derived.Test.YtkganhpfagnmjaaShown
import Derived.Test.YtkganhpfagnmjaaArgs
import Derived.Test.YtkganhpfagnmjaaConv
import Derived.Test.YtkganhpfagnmjaaAppend
import Derived.Test.YtkganhpfagnmjaaParse
import Derived.Test.YtkganhpfagnmjaaCount
namespace Go.Proofs.Ytkganhpfagnmjaa.tlvJoins
open Go.ChangeShapes Go.WideShapes Go.ChangeAt Go.RowKit
set_option linter.unusedVariables false

theorem both_wrong {s t : ByteArray} (hs : s.size ≤ 1500) (ht : t.size ≤ 1500) (h : (parseB s).2.2 = 2 ∨ (parseB s).2.2 = 4) : parseB (s ++ t) = parseB s := by
  have hz : (s ++ t).size = s.size + t.size := ByteArray.size_append
  rw [parse_of (by omega)] at h ⊢
  rw [parse_of (by omega), app_list]
  exact join_wrong _ _ _ (Nat.le_refl _) h
theorem both_whole {s t : ByteArray} (hs : s.size ≤ 1500) (ht : t.size ≤ 1500) (h : (parseB s).2.2 = 0) (h4 : s.size % 4 = 0) : parseB (s ++ t) = glue s.size (parseB s).1 (parseB t) := by
  have hz : (s ++ t).size = s.size + t.size := ByteArray.size_append
  rw [parse_of (by omega)] at h
  rw [parse_of (s := s) (by omega), parse_of (s := t) (by omega), parse_of (by omega), app_list, size_list s]
  exact join_whole _ _ _ (Nat.le_refl _) h (by rw [← size_list]; exact h4)
set_option maxHeartbeats 1000000 in
set_option maxRecDepth 100000 in
theorem walk (s t : ByteArray) (hs : s.size ≤ maxLen) (ht : t.size ≤ maxLen) (w : World) :
    Calls Try.prog 6 #[.string s, .string t] w fun e w' => e = .returned (.bool true) ∧ Below w.heap.size w w' := by
  have HB := Lib.hid (Below.refl w.heap.size w)
  unfold maxLen at hs ht
  by_cases hbig : 1500 < s.size ∨ 1500 < t.size
  · rcases (by omega : 1500 < s.size ∨ (s.size ≤ 1500 ∧ 1500 < t.size)) with g1 | ⟨g1, g2⟩
    all_goals
      clear hbig
      go_enter Try.func6, Try.ntmps6
      go_wp2_with (go_at_call 9; ((with_reducible refine (shown_any _).mono ?_); rintro e w1 ⟨rfl, hb1⟩); replace HB := Lib.hid (HB.out.trans (hb1.mono HB.out.size)); clear hb1)
      go_ret
      exact ⟨rfl, HB.out⟩
  have l1 : s.size ≤ 1500 := by omega
  have l2 : t.size ≤ 1500 := by omega
  have k1 : ¬ (1500 : Int) < (s.size : Int) := by omega
  have k2 : ¬ (1500 : Int) < (t.size : Int) := by omega
  have hz : (s ++ t).size = s.size + t.size := ByteArray.size_append
  have q1 : ¬ 9223372036854775807 < s.size + t.size := by omega
  clear hbig
  have HA := Lib.hid (fun W => parse_any s (by omega) W)
  have HT := Lib.hid (fun W => parse_any t (by omega) W)
  have hc := fun W => parse_any (s ++ t) (by omega) W
  have f1 : (parseB s).1.length ≤ 400 := by have := parse_count (s := s); omega
  have f2 : (parseB t).1.length ≤ 400 := by have := parse_count (s := t); omega
  by_cases e1 : (parseB s).2.2 = 2 ∨ (parseB s).2.2 = 4
  · rw [both_wrong l1 l2 e1] at hc
    have HC := Lib.hid hc
    clear hc hz f1 f2
    generalize parseB s = ra at *
    generalize parseB t = rb at *
    obtain ⟨a, n, e⟩ := ra
    obtain ⟨b, m, f⟩ := rb
    dsimp only at HA HT HC e1
    rcases e1 with rfl | rfl
    all_goals
      go_enter Try.func6, Try.ntmps6
      go_wp2_with (first
    | (go_at_call 9; ((with_reducible refine (shown_any _).mono ?_); rintro e w1 ⟨rfl, hb1⟩); replace HB := Lib.hid (HB.out.trans (hb1.mono HB.out.size)); clear hb1)
    | (go_at_call 20; ((with_reducible refine (HA.out _).mono ?_); rintro e w1 ⟨rav, rfl, ho1, hb1⟩); have RA := Lib.hid (rowI_of_own ho1); replace HB := Lib.hid (HB.out.trans (hb1.mono HB.out.size)); clear hb1 ho1)
    | (go_at_call 20; ((with_reducible refine (HT.out _).mono ?_); rintro e w1 ⟨rbv, rfl, ho1, hb1⟩); have RB := Lib.hid (rowI_of_own ho1); replace HB := Lib.hid (HB.out.trans (hb1.mono HB.out.size)); replace RA := Lib.hid (RA.out.below hb1); clear hb1 ho1)
    | (go_at_call 20; ((with_reducible refine (HC.out _).mono ?_); rintro e w1 ⟨rcv, rfl, ho1, hb1⟩); have RC := Lib.hid (rowI_of_own ho1); replace HB := Lib.hid (HB.out.trans (hb1.mono HB.out.size)); replace RA := Lib.hid (RA.out.below hb1); replace RB := Lib.hid (RB.out.below hb1); clear hb1 ho1))
      go_ret
      exact ⟨rfl, HB.out⟩
  by_cases e0 : (parseB s).2.2 = 0
  rotate_left
  · have HC := Lib.hid hc
    clear hc hz f1 f2
    generalize parseB s = ra at *
    generalize parseB t = rb at *
    generalize parseB (s ++ t) = rc at *
    obtain ⟨a, n, e⟩ := ra
    obtain ⟨b, m, f⟩ := rb
    obtain ⟨c, k, g⟩ := rc
    dsimp only at HA HT HC e1 e0
    have x0 : ((e : Int) != 0) = true := by simp; omega
    have x2 : ((e : Int) == 2) = false := beq_eq_false_iff_ne.2 (by omega)
    have x4 : ((e : Int) == 4) = false := beq_eq_false_iff_ne.2 (by omega)
    clear e1 e0
    go_enter Try.func6, Try.ntmps6
    go_wp2_with (first
    | (go_at_call 9; ((with_reducible refine (shown_any _).mono ?_); rintro e w1 ⟨rfl, hb1⟩); replace HB := Lib.hid (HB.out.trans (hb1.mono HB.out.size)); clear hb1)
    | (go_at_call 20; ((with_reducible refine (HA.out _).mono ?_); rintro e w1 ⟨rav, rfl, ho1, hb1⟩); have RA := Lib.hid (rowI_of_own ho1); replace HB := Lib.hid (HB.out.trans (hb1.mono HB.out.size)); clear hb1 ho1)
    | (go_at_call 20; ((with_reducible refine (HT.out _).mono ?_); rintro e w1 ⟨rbv, rfl, ho1, hb1⟩); have RB := Lib.hid (rowI_of_own ho1); replace HB := Lib.hid (HB.out.trans (hb1.mono HB.out.size)); replace RA := Lib.hid (RA.out.below hb1); clear hb1 ho1)
    | (go_at_call 20; ((with_reducible refine (HC.out _).mono ?_); rintro e w1 ⟨rcv, rfl, ho1, hb1⟩); have RC := Lib.hid (rowI_of_own ho1); replace HB := Lib.hid (HB.out.trans (hb1.mono HB.out.size)); replace RA := Lib.hid (RA.out.below hb1); replace RB := Lib.hid (RB.out.below hb1); clear hb1 ho1))
    go_ret
    exact ⟨rfl, HB.out⟩
  by_cases e4 : s.size % 4 = 0
  rotate_left
  · have HC := Lib.hid hc
    rw [err_zero e0 (by omega)] at HA
    clear hc hz f1 f2 e1 e0
    generalize (parseB s).1 = a at *
    generalize parseB t = rb at *
    generalize parseB (s ++ t) = rc at *
    obtain ⟨b, m, f⟩ := rb
    obtain ⟨c, k, g⟩ := rc
    dsimp only at HA HT HC
    have x0 : (((s.size : Int) % 4) != 0) = true := by simp; omega
    have x1 : (0 : Int) ≤ (s.size : Int) := by omega
    clear e4
    go_enter Try.func6, Try.ntmps6
    go_wp2_with (first
    | (go_at_call 9; ((with_reducible refine (shown_any _).mono ?_); rintro e w1 ⟨rfl, hb1⟩); replace HB := Lib.hid (HB.out.trans (hb1.mono HB.out.size)); clear hb1)
    | (go_at_call 20; ((with_reducible refine (HA.out _).mono ?_); rintro e w1 ⟨rav, rfl, ho1, hb1⟩); have RA := Lib.hid (rowI_of_own ho1); replace HB := Lib.hid (HB.out.trans (hb1.mono HB.out.size)); clear hb1 ho1)
    | (go_at_call 20; ((with_reducible refine (HT.out _).mono ?_); rintro e w1 ⟨rbv, rfl, ho1, hb1⟩); have RB := Lib.hid (rowI_of_own ho1); replace HB := Lib.hid (HB.out.trans (hb1.mono HB.out.size)); replace RA := Lib.hid (RA.out.below hb1); clear hb1 ho1)
    | (go_at_call 20; ((with_reducible refine (HC.out _).mono ?_); rintro e w1 ⟨rcv, rfl, ho1, hb1⟩); have RC := Lib.hid (rowI_of_own ho1); replace HB := Lib.hid (HB.out.trans (hb1.mono HB.out.size)); replace RA := Lib.hid (RA.out.below hb1); replace RB := Lib.hid (RB.out.below hb1); clear hb1 ho1))
    go_ret
    exact ⟨rfl, HB.out⟩
  rw [both_whole l1 l2 e0 e4] at hc
  rw [err_zero e0 (by omega)] at HA
  have x0 : (((s.size : Int) % 4) != 0) = false := by simp; omega
  have x1 : (0 : Int) ≤ (s.size : Int) := by omega
  by_cases ef : (parseB t).2.2 = 0
  rotate_left
  · rw [err_none ef (by omega)] at HT
    have eg : glue s.size (parseB s).1 (parseB t) = ([], s.size + (parseB t).2.1, (parseB t).2.2) := by unfold glue; rw [if_neg ef]
    rw [eg] at hc
    have hcc : ((s.size + (parseB t).2.1 : Nat) : Int) = (s.size : Int) + ((parseB t).2.1 : Int) := by omega
    have hm : (parseB t).2.1 ≤ 1000000 := by
      rw [parse_of (by omega)] at ef ⊢
      have h5 := place_le _ t.data.toList (Nat.le_refl _)
      rw [← size_list] at h5
      omega
    have HC := Lib.hid hc
    dsimp only at HC
    rw [hcc] at HC
    clear hc hz f1 f2 e1 e0 eg hcc e4
    generalize (parseB s).1 = a at *
    generalize (parseB t).2.1 = m at *
    generalize (parseB t).2.2 = f at *
    dsimp only at HA HT HC
    have x2 : ((f : Int) != 0) = true := by simp; omega
    clear ef
    go_enter Try.func6, Try.ntmps6
    go_wp2_with (first
    | (go_at_call 9; ((with_reducible refine (shown_any _).mono ?_); rintro e w1 ⟨rfl, hb1⟩); replace HB := Lib.hid (HB.out.trans (hb1.mono HB.out.size)); clear hb1)
    | (go_at_call 20; ((with_reducible refine (HA.out _).mono ?_); rintro e w1 ⟨rav, rfl, ho1, hb1⟩); have RA := Lib.hid (rowI_of_own ho1); replace HB := Lib.hid (HB.out.trans (hb1.mono HB.out.size)); clear hb1 ho1)
    | (go_at_call 20; ((with_reducible refine (HT.out _).mono ?_); rintro e w1 ⟨rbv, rfl, ho1, hb1⟩); have RB := Lib.hid (rowI_of_own ho1); replace HB := Lib.hid (HB.out.trans (hb1.mono HB.out.size)); replace RA := Lib.hid (RA.out.below hb1); clear hb1 ho1)
    | (go_at_call 20; ((with_reducible refine (HC.out _).mono ?_); rintro e w1 ⟨rcv, rfl, ho1, hb1⟩); have RC := Lib.hid (rowI_of_own ho1); replace HB := Lib.hid (HB.out.trans (hb1.mono HB.out.size)); replace RA := Lib.hid (RA.out.below hb1); replace RB := Lib.hid (RB.out.below hb1); clear hb1 ho1))
    go_ret
    exact ⟨rfl, HB.out⟩
  rw [err_zero ef (by omega)] at HT
  have eg : glue s.size (parseB s).1 (parseB t) = ((parseB s).1 ++ (parseB t).1, 0, 0) := by unfold glue; rw [if_pos ef]
  rw [eg] at hc
  have HC := Lib.hid hc
  clear hc hz e1 e0 eg e4 ef
  generalize (parseB s).1 = a at *
  generalize (parseB t).1 = b at *
  dsimp only at HA HT HC
  have hab : (a ++ b).length ≤ 100000 := by rw [List.length_append]; omega
  have HAA := Lib.hid (fun v W h => as_any a (by omega) v W h)
  have HAB := Lib.hid (fun v W h => as_any b (by omega) v W h)
  have HAC := Lib.hid (fun v W h => as_any (a ++ b) hab v W h)
  have hsm := fun v u W h k => same_any (a ++ b) (a ++ b) hab hab v u W h k
  rw [show decide (a ++ b = a ++ b) = true from decide_eq_true rfl] at hsm
  have HSM := Lib.hid hsm
  clear hsm
  obtain ⟨i0, hi0, hz0, hz1, hz2⟩ := info_parts info63
  have HI := Lib.hid hi0
  have HZ0 := Lib.hid hz0
  have HZ1 := Lib.hid hz1
  have HZ2 := Lib.hid hz2
  clear hi0 hz0 hz1 hz2
  go_enter Try.func6, Try.ntmps6
  go_wp2_with (first
    | (go_at_call 9; ((with_reducible refine (shown_any _).mono ?_); rintro e w1 ⟨rfl, hb1⟩); replace HB := Lib.hid (HB.out.trans (hb1.mono HB.out.size)); clear hb1)
    | (go_at_call 20; ((with_reducible refine (HA.out _).mono ?_); rintro e w1 ⟨rav, rfl, ho1, hb1⟩); have RA := Lib.hid (rowI_of_own ho1); replace HB := Lib.hid (HB.out.trans (hb1.mono HB.out.size)); clear hb1 ho1)
    | (go_at_call 20; ((with_reducible refine (HT.out _).mono ?_); rintro e w1 ⟨rbv, rfl, ho1, hb1⟩); have RB := Lib.hid (rowI_of_own ho1); replace HB := Lib.hid (HB.out.trans (hb1.mono HB.out.size)); replace RA := Lib.hid (RA.out.below hb1); clear hb1 ho1)
    | (go_at_call 20; ((with_reducible refine (HC.out _).mono ?_); rintro e w1 ⟨rcv, rfl, ho1, hb1⟩); have RC := Lib.hid (rowI_of_own ho1); replace HB := Lib.hid (HB.out.trans (hb1.mono HB.out.size)); replace RA := Lib.hid (RA.out.below hb1); replace RB := Lib.hid (RB.out.below hb1); clear hb1 ho1)
    | (go_at_call 13; ((with_reducible refine (HAC.out _ _ RC.out).mono ?_); rintro e wc ⟨vc, rfl, hoc, hbc⟩); have OC := Lib.hid hoc; have BC := Lib.hid (Below.refl wc.heap.size wc); have HBC := Lib.hid (HB.out.trans (hbc.mono HB.out.size)); replace RA := Lib.hid (RA.out.below hbc); replace RB := Lib.hid (RB.out.below hbc); clear hoc hbc RC HAC)
    | (go_at_call 13; ((with_reducible refine (HAA.out _ _ RA.out).mono ?_); rintro e wa ⟨va, rfl, hoa, hba⟩); have OA := Lib.hid hoa; replace BC := Lib.hid (BC.out.trans (hba.mono BC.out.size)); replace RB := Lib.hid (RB.out.below hba); clear hoa hba RA HAA)
    | (go_at_call 13; ((with_reducible refine (HAB.out _ _ RB.out).mono ?_); rintro e wb ⟨vb, rfl, hob, hbb⟩); have OB := Lib.hid hob; replace OA := Lib.hid (OA.out.later hbb); replace BC := Lib.hid (BC.out.trans (hbb.mono BC.out.size)); clear hob hbb RB HAB)
    | (at_builtin; refine wpList_append_want _ (by rfl) (.tmp 90) (.tmp 92) 29 29 rfl wc.heap.size 63 i0 (.agg #[.int .i64 0, .string ⟨#[]⟩]) 2 24 Try.underlying29 (.inr ⟨_, Try.underlying29⟩) HI.out HZ0.out HZ1.out HZ2.out rfl va a.length _ rfl OA.out vb b.length _ rfl (Fed.own OB.out (flatI_one b)) (by unfold maxLen; omega) (by omega) BC.out.size ?_; intro v' w' ho2 hg2; have OD := Lib.hid ho2; replace BC := Lib.hid (BC.out.grown hg2 BC.out.size fun k hk => (OA.out.lt k hk).1); clear ho2 hg2 OB)
    | (go_at_call 22; ((with_reducible refine (HSM.out _ _ _ (rowI_of_own (OwnG.later OC.out BC.out)) (rowI_of_own (l := a ++ b) (by rw [flatI_append]; exact OD.out))).mono ?_); rintro e w1 ⟨rfl, hb1⟩); replace BC := Lib.hid (BC.out.trans (hb1.mono BC.out.size)); clear hb1))
  go_ret
  exact ⟨rfl, HBC.out.trans (BC.out.mono HBC.out.size)⟩

set_option maxRecDepth 100000 in
theorem lifted (os : Os) (started : os.Started) (H : Type) (enc : TypeId × Value → H) :
    ReturnsInHanded {} Try.checked os 6 .any (Rows.tlvJoinsSpec.pre6 enc Try.prog Try.f6 Rows.tlvJoinsRow.domain false) (Rows.tlvJoinsSpec.post enc Try.prog Try.f6 false true false false) := by
  refine returnsInHanded_of_change_sized (C := Try.checked) own started (by kernel_rfl) Try.func6
    (ChangeSpec.witness6 (enc := enc) (C := Try.checked) false ⟨#[], #[.string ⟨#[]⟩, .string ⟨#[]⟩], []⟩ 8 (by kernel_rfl) (by kernel_rfl) (by kernel_rfl) (by kernel_rfl)) ?_
  intro W base args ds gs before hval0 hW _ hreach _
  have hval : ∀ (j : Nat) t v, Try.f6.params[j]? = some t → args[j]? = some v → Value.okWide Try.prog W .any base t v := hval0
  obtain ⟨p, q, hA0, _, _, _, _⟩ := id hW
  have hA : DataW.TrodAll enc Try.prog W 0 (fun _ => true) true Try.f6.params.toList args.toList ds p := hA0
  rw [Try.params6] at hA hval
  obtain ⟨v0, vs0, d0, ds0, p0, q0, hargs, rfl, rfl, h0, r0⟩ := trodAll_cons hA
  obtain ⟨v1, vs1, d1, ds1, p1, q1, rfl, rfl, rfl, h1, r1⟩ := trodAll_cons r0
  obtain ⟨rfl, rfl, rfl⟩ := trodAll_nil r1
  obtain rfl : args = #[v0, v1] := by cases args; simp_all
  obtain ⟨a0, rfl, rfl, rfl, w0⟩ := Go.ChangeMaps.open_string Try.underlying9 (hval 0 9 v0 rfl rfl) h0
  obtain ⟨a1, rfl, rfl, rfl, w1⟩ := Go.ChangeMaps.open_string Try.underlying9 (hval 1 9 v1 rfl rfl) h1
  refine (walk a0 a1 w0 w1 W).mono fun e W' ⟨he, hg⟩ => ?_
  subst he
  exact ⟨_, rfl, law_post laidOut Try.underlying4 (by kernel_rfl) (by kernel_rfl) rfl hW (by simp [Rows.tlvJoinsSpec]) hg⟩

theorem proved : Rows.TlvJoinsSaid :=
  OpenClaim.holds_of_wide 6 Try.f6 rfl rfl rfl rfl rfl rfl rfl ⟨rfl, rfl, rfl, rfl, rfl⟩ rfl rfl rfl rfl rfl (by kernel_rfl) Try.func6 (by kernel_rfl)
    (of_decide_eq_true (by kernel_rfl)) (by unfold Func.isWrapper; first | (rw [if_pos (by decide +kernel)]; kernel_rfl) | (rw [if_neg (by decide +kernel)]; exact ⟨rfl, rfl⟩))
    (fun os started H enc _ => lifted os started H enc)
#print axioms proved
end Go.Proofs.Ytkganhpfagnmjaa.tlvJoins
