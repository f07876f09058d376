/-
  What is built is parsed as what was handed in; what is parsed, built, is parsed as the same: any items (of at most 60, of at most 2000 bytes each; others are not asked of), any text (of at most 4500 bytes).
-/
import Derived.Test.YtkganhpfagnmjaaLift
import Derived.Test.YtkganhpfagnmjaaShown
import Derived.Test.YtkganhpfagnmjaaArgs
import Derived.Test.YtkganhpfagnmjaaConv
import Derived.Test.YtkganhpfagnmjaaParse
import Derived.Test.YtkganhpfagnmjaaBuild
import Derived.Test.YtkganhpfagnmjaaCount
namespace Go.Proofs.Ytkganhpfagnmjaa.tlvBack
open Go.ChangeShapes Go.WideShapes Go.ChangeAt Go.RowKit
set_option linter.unusedVariables false

/-- What is parsed of a text, built, has noughts behind it alone. -/
theorem there_back {s : ByteArray} (h : (parseB s).2.2 = 0) : s.size ≤ 4000 ∧ (∃ y : ByteArray, buildB (parseB s).1 = (y, 0) ∧ y.size = s.size + padN s.size ∧ y.size ≤ 4000 ∧ parseB y = ((parseB s).1, 0, 0)) ∧ ∀ x ∈ (parseB s).1, x.2.size ≤ 1000000 := by
  have hs : s.size ≤ 4000 := by
    apply Nat.le_of_not_lt
    intro hc
    unfold parseB at h
    rw [if_pos hc] at h
    exact absurd h (by decide)
  rw [parse_of hs] at h ⊢
  obtain ⟨h1, h2⟩ := parse_right _ s.data.toList (Nat.le_refl _) h
  rw [← size_list] at h2
  have hb := padN_four s.size
  have hp := padN_lt s.size
  have h3 : (rowL (parseL s.data.toList).1).length ≤ 4000 := by omega
  have h4 := build_right h1 h3
  have hy : (⟨(rowL (parseL s.data.toList).1).toArray⟩ : ByteArray).size = (rowL (parseL s.data.toList).1).length := by simp [ByteArray.size]
  have h5 := back_there (l := (parseL s.data.toList).1) (by rw [h4])
  rw [h4] at h5
  refine ⟨hs, ⟨_, h4, by rw [hy, h2], by omega, h5.1⟩, fun x hx => ?_⟩
  have := List.all_eq_true.1 h1 x hx
  unfold rightI at this
  rw [Bool.and_eq_true, decide_eq_true_eq] at this
  omega
set_option maxHeartbeats 1000000 in
set_option maxRecDepth 100000 in
theorem walk (l : List Item) (v : Value) (s : ByteArray) (hm : l.length ≤ maxLen) (hsz : s.size ≤ maxLen) (w : World) (hv : RowI w v l) :
    Calls Try.prog 5 #[v, .string s] w fun e w' => e = .returned (.bool true) ∧ Below w.heap.size w w' := by
  have HB := Lib.hid (Below.refl w.heap.size w)
  have RV := Lib.hid hv
  have HSM := Lib.hid (fun W h => small_any l hm v W h)
  clear hv
  unfold maxLen at hsz
  cases hsb : smallB l with
  | false =>
    rw [hsb] at HSM
    clear hsb
    go_enter Try.func5, Try.ntmps5
    go_wp2_with (first
    | (go_at_call 9; ((with_reducible refine (shown_any _).mono ?_); rintro e w1 ⟨rfl, hb1⟩); replace HB := Lib.hid (HB.out.trans (hb1.mono HB.out.size)); replace RV := Lib.hid (RV.out.below hb1); clear hb1)
    | (go_at_call 10; ((with_reducible refine (HSM.out _ RV.out).mono ?_); rintro e w1 ⟨rfl, rfl⟩)))
    go_ret
    exact ⟨rfl, HB.out⟩
  | true =>
    rw [hsb] at HSM
    obtain ⟨hl, hs⟩ := small_gives hsb
    clear hsb
    by_cases c0 : 4500 < s.size
    · have c0' : (4500 : Int) < (s.size : Int) := by omega
      go_enter Try.func5, Try.ntmps5
      go_wp2_with (first
    | (go_at_call 9; ((with_reducible refine (shown_any _).mono ?_); rintro e w1 ⟨rfl, hb1⟩); replace HB := Lib.hid (HB.out.trans (hb1.mono HB.out.size)); replace RV := Lib.hid (RV.out.below hb1); clear hb1)
    | (go_at_call 10; ((with_reducible refine (HSM.out _ RV.out).mono ?_); rintro e w1 ⟨rfl, rfl⟩)))
      go_ret
      exact ⟨rfl, HB.out⟩
    have c0' : ¬ (4500 : Int) < (s.size : Int) := by omega
    have hs2 : ∀ x ∈ l, x.2.size ≤ 1000000 := fun x hx => Nat.le_trans (hs x hx) (by omega)
    have H1 := Lib.hid (fun W h => build_any l (by omega) hs2 v W h)
    have HP2 := Lib.hid (fun W => parse_any s (by omega) W)
    have HAL := Lib.hid (fun u W h => as_any l (by omega) u W h)
    have hsl := fun u1 u2 W h k => same_any l l (by omega) (by omega) u1 u2 W h k
    rw [show decide (l = l) = true from decide_eq_true rfl] at hsl
    have HSL := Lib.hid hsl
    clear hsl hs hs2 c0
    by_cases e1 : (buildB l).2 = 0
    · obtain ⟨p1, p2, p3⟩ := back_there e1
      have hp1 := fun W => parse_any (buildB l).1 (by omega) W
      rw [p1] at hp1
      have HP1 := Lib.hid hp1
      rw [show buildB l = ((buildB l).1, 0) from Prod.ext rfl e1] at H1
      dsimp only at H1
      clear hp1 p1 e1
      generalize (buildB l).1 = y at *
      have x4 : (((y.size : Int) % 4) != 0) = false := by simp; omega
      have x5 : (0 : Int) ≤ (y.size : Int) := by omega
      clear p2 p3
      by_cases e2 : (parseB s).2.2 = 0
      · obtain ⟨g1, ⟨z, hz1, hz2, hz3, hz4⟩, g5⟩ := there_back e2
        have hc : (parseB s).1.length ≤ 100000 := by have := parse_count (s := s); omega
        have h3 := fun u W h => build_any (parseB s).1 hc g5 u W h
        rw [hz1] at h3
        have H3 := Lib.hid h3
        have hp3 := fun W => parse_any z (by omega) W
        rw [hz4] at hp3
        have HP3 := Lib.hid hp3
        have HAP := Lib.hid (fun u W h => as_any (parseB s).1 hc u W h)
        have hsp := fun u1 u2 W h k => same_any (parseB s).1 (parseB s).1 hc hc u1 u2 W h k
        rw [show decide ((parseB s).1 = (parseB s).1) = true from decide_eq_true rfl] at hsp
        have HSP := Lib.hid hsp
        rw [err_zero e2 g1] at HP2
        have hpd := padN_lt s.size
        have y1 : (s.size : Int) ≤ (z.size : Int) := by omega
        have y2 : (z.size : Int) ≤ (s.size : Int) + 3 := by omega
        dsimp only at HP2
        generalize (parseB s).1 = p at *
        dsimp only at H3 HP3 HAP HSP
        clear h3 hp3 hsp hz1 hz2 hz3 hz4 g5 e2 hpd
        go_enter Try.func5, Try.ntmps5
        go_wp2_with (first
    | (go_at_call 9; ((with_reducible refine (shown_any _).mono ?_); rintro e w1 ⟨rfl, hb1⟩); replace HB := Lib.hid (HB.out.trans (hb1.mono HB.out.size)); replace RV := Lib.hid (RV.out.below hb1); clear hb1)
    | (go_at_call 10; ((with_reducible refine (HSM.out _ RV.out).mono ?_); rintro e w1 ⟨rfl, rfl⟩))
    | (go_at_call 11; ((with_reducible refine (H1.out _ RV.out).mono ?_); rintro e w1 ⟨rfl, hb1⟩); replace HB := Lib.hid (HB.out.trans (hb1.mono HB.out.size)); replace RV := Lib.hid (RV.out.below hb1); clear hb1)
    | (go_at_call 20; ((with_reducible refine (HP1.out _).mono ?_); rintro e w1 ⟨rmv, rfl, ho1, hb1⟩); have RM := Lib.hid (rowI_of_own ho1); replace HB := Lib.hid (HB.out.trans (hb1.mono HB.out.size)); replace RV := Lib.hid (RV.out.below hb1); clear hb1 ho1)
    | (go_at_call 13; ((with_reducible refine (HAL.out _ _ RM.out).mono ?_); rintro e w1 ⟨rxv, rfl, ho1, hb1⟩); have RX := Lib.hid (rowI_of_own ho1); replace HB := Lib.hid (HB.out.trans (hb1.mono HB.out.size)); replace RV := Lib.hid (RV.out.below hb1); clear hb1 ho1)
    | (go_at_call 13; ((with_reducible refine (HAL.out _ _ RV.out).mono ?_); rintro e w1 ⟨ryv, rfl, ho1, hb1⟩); have RY := Lib.hid (rowI_of_own ho1); replace HB := Lib.hid (HB.out.trans (hb1.mono HB.out.size)); replace RX := Lib.hid (RX.out.below hb1); clear hb1 ho1)
    | (go_at_call 22; ((with_reducible refine (HSL.out _ _ _ RX.out RY.out).mono ?_); rintro e w1 ⟨rfl, hb1⟩); replace HB := Lib.hid (HB.out.trans (hb1.mono HB.out.size)); clear hb1 RX RY)
    | (go_at_call 20; ((with_reducible refine (HP2.out _).mono ?_); rintro e w1 ⟨rpv, rfl, ho1, hb1⟩); have RP := Lib.hid (rowI_of_own ho1); replace HB := Lib.hid (HB.out.trans (hb1.mono HB.out.size)); clear hb1 ho1)
    | (go_at_call 11; ((with_reducible refine (H3.out _ _ RP.out).mono ?_); rintro e w1 ⟨rfl, hb1⟩); replace HB := Lib.hid (HB.out.trans (hb1.mono HB.out.size)); replace RP := Lib.hid (RP.out.below hb1); clear hb1)
    | (go_at_call 20; ((with_reducible refine (HP3.out _).mono ?_); rintro e w1 ⟨rqv, rfl, ho1, hb1⟩); have RQ := Lib.hid (rowI_of_own ho1); replace HB := Lib.hid (HB.out.trans (hb1.mono HB.out.size)); replace RP := Lib.hid (RP.out.below hb1); clear hb1 ho1)
    | (go_at_call 13; ((with_reducible refine (HAP.out _ _ RP.out).mono ?_); rintro e w1 ⟨rzv, rfl, ho1, hb1⟩); have RZ := Lib.hid (rowI_of_own ho1); replace HB := Lib.hid (HB.out.trans (hb1.mono HB.out.size)); replace RQ := Lib.hid (RQ.out.below hb1); clear hb1 ho1)
    | (go_at_call 13; ((with_reducible refine (HAP.out _ _ RQ.out).mono ?_); rintro e w1 ⟨ruv, rfl, ho1, hb1⟩); have RU := Lib.hid (rowI_of_own ho1); replace HB := Lib.hid (HB.out.trans (hb1.mono HB.out.size)); replace RZ := Lib.hid (RZ.out.below hb1); clear hb1 ho1)
    | (go_at_call 22; ((with_reducible refine (HSP.out _ _ _ RZ.out RU.out).mono ?_); rintro e w1 ⟨rfl, hb1⟩); replace HB := Lib.hid (HB.out.trans (hb1.mono HB.out.size)); clear hb1))
        go_ret
        exact ⟨rfl, HB.out⟩
      · have hpe : parseB s = ([], (parseB s).2.1, (parseB s).2.2) := by
          by_cases hl4 : s.size ≤ 4000
          · exact err_none e2 hl4
          · unfold parseB
            rw [if_pos (by omega)]
        rw [hpe] at HP2
        dsimp only at HP2
        clear hpe
        generalize (parseB s).2.1 = k at *
        generalize (parseB s).2.2 = g at *
        have x6 : ((g : Int) != 0) = true := by simp; omega
        clear e2
        go_enter Try.func5, Try.ntmps5
        go_wp2_with (first
    | (go_at_call 9; ((with_reducible refine (shown_any _).mono ?_); rintro e w1 ⟨rfl, hb1⟩); replace HB := Lib.hid (HB.out.trans (hb1.mono HB.out.size)); replace RV := Lib.hid (RV.out.below hb1); clear hb1)
    | (go_at_call 10; ((with_reducible refine (HSM.out _ RV.out).mono ?_); rintro e w1 ⟨rfl, rfl⟩))
    | (go_at_call 11; ((with_reducible refine (H1.out _ RV.out).mono ?_); rintro e w1 ⟨rfl, hb1⟩); replace HB := Lib.hid (HB.out.trans (hb1.mono HB.out.size)); replace RV := Lib.hid (RV.out.below hb1); clear hb1)
    | (go_at_call 20; ((with_reducible refine (HP1.out _).mono ?_); rintro e w1 ⟨rmv, rfl, ho1, hb1⟩); have RM := Lib.hid (rowI_of_own ho1); replace HB := Lib.hid (HB.out.trans (hb1.mono HB.out.size)); replace RV := Lib.hid (RV.out.below hb1); clear hb1 ho1)
    | (go_at_call 13; ((with_reducible refine (HAL.out _ _ RM.out).mono ?_); rintro e w1 ⟨rxv, rfl, ho1, hb1⟩); have RX := Lib.hid (rowI_of_own ho1); replace HB := Lib.hid (HB.out.trans (hb1.mono HB.out.size)); replace RV := Lib.hid (RV.out.below hb1); clear hb1 ho1)
    | (go_at_call 13; ((with_reducible refine (HAL.out _ _ RV.out).mono ?_); rintro e w1 ⟨ryv, rfl, ho1, hb1⟩); have RY := Lib.hid (rowI_of_own ho1); replace HB := Lib.hid (HB.out.trans (hb1.mono HB.out.size)); replace RX := Lib.hid (RX.out.below hb1); clear hb1 ho1)
    | (go_at_call 22; ((with_reducible refine (HSL.out _ _ _ RX.out RY.out).mono ?_); rintro e w1 ⟨rfl, hb1⟩); replace HB := Lib.hid (HB.out.trans (hb1.mono HB.out.size)); clear hb1 RX RY)
    | (go_at_call 20; ((with_reducible refine (HP2.out _).mono ?_); rintro e w1 ⟨rpv, rfl, ho1, hb1⟩); obtain ⟨A1, cap1, rfl, _⟩ := OwnG.slice ho1; replace HB := Lib.hid (HB.out.trans (hb1.mono HB.out.size)); clear hb1 ho1))
        go_ret
        exact ⟨rfl, HB.out⟩
    · generalize buildB l = r at *
      obtain ⟨y, e⟩ := r
      dsimp only at H1 e1
      have x3 : ((e : Int) == 0) = false := beq_eq_false_iff_ne.2 (by omega)
      clear e1
      by_cases e2 : (parseB s).2.2 = 0
      · obtain ⟨g1, ⟨z, hz1, hz2, hz3, hz4⟩, g5⟩ := there_back e2
        have hc : (parseB s).1.length ≤ 100000 := by have := parse_count (s := s); omega
        have h3 := fun u W h => build_any (parseB s).1 hc g5 u W h
        rw [hz1] at h3
        have H3 := Lib.hid h3
        have hp3 := fun W => parse_any z (by omega) W
        rw [hz4] at hp3
        have HP3 := Lib.hid hp3
        have HAP := Lib.hid (fun u W h => as_any (parseB s).1 hc u W h)
        have hsp := fun u1 u2 W h k => same_any (parseB s).1 (parseB s).1 hc hc u1 u2 W h k
        rw [show decide ((parseB s).1 = (parseB s).1) = true from decide_eq_true rfl] at hsp
        have HSP := Lib.hid hsp
        rw [err_zero e2 g1] at HP2
        have hpd := padN_lt s.size
        have y1 : (s.size : Int) ≤ (z.size : Int) := by omega
        have y2 : (z.size : Int) ≤ (s.size : Int) + 3 := by omega
        dsimp only at HP2
        generalize (parseB s).1 = p at *
        dsimp only at H3 HP3 HAP HSP
        clear h3 hp3 hsp hz1 hz2 hz3 hz4 g5 e2 hpd
        go_enter Try.func5, Try.ntmps5
        go_wp2_with (first
    | (go_at_call 9; ((with_reducible refine (shown_any _).mono ?_); rintro e w1 ⟨rfl, hb1⟩); replace HB := Lib.hid (HB.out.trans (hb1.mono HB.out.size)); replace RV := Lib.hid (RV.out.below hb1); clear hb1)
    | (go_at_call 10; ((with_reducible refine (HSM.out _ RV.out).mono ?_); rintro e w1 ⟨rfl, rfl⟩))
    | (go_at_call 11; ((with_reducible refine (H1.out _ RV.out).mono ?_); rintro e w1 ⟨rfl, hb1⟩); replace HB := Lib.hid (HB.out.trans (hb1.mono HB.out.size)); replace RV := Lib.hid (RV.out.below hb1); clear hb1)
    | (go_at_call 20; ((with_reducible refine (HP2.out _).mono ?_); rintro e w1 ⟨rpv, rfl, ho1, hb1⟩); have RP := Lib.hid (rowI_of_own ho1); replace HB := Lib.hid (HB.out.trans (hb1.mono HB.out.size)); clear hb1 ho1)
    | (go_at_call 11; ((with_reducible refine (H3.out _ _ RP.out).mono ?_); rintro e w1 ⟨rfl, hb1⟩); replace HB := Lib.hid (HB.out.trans (hb1.mono HB.out.size)); replace RP := Lib.hid (RP.out.below hb1); clear hb1)
    | (go_at_call 20; ((with_reducible refine (HP3.out _).mono ?_); rintro e w1 ⟨rqv, rfl, ho1, hb1⟩); have RQ := Lib.hid (rowI_of_own ho1); replace HB := Lib.hid (HB.out.trans (hb1.mono HB.out.size)); replace RP := Lib.hid (RP.out.below hb1); clear hb1 ho1)
    | (go_at_call 13; ((with_reducible refine (HAP.out _ _ RP.out).mono ?_); rintro e w1 ⟨rzv, rfl, ho1, hb1⟩); have RZ := Lib.hid (rowI_of_own ho1); replace HB := Lib.hid (HB.out.trans (hb1.mono HB.out.size)); replace RQ := Lib.hid (RQ.out.below hb1); clear hb1 ho1)
    | (go_at_call 13; ((with_reducible refine (HAP.out _ _ RQ.out).mono ?_); rintro e w1 ⟨ruv, rfl, ho1, hb1⟩); have RU := Lib.hid (rowI_of_own ho1); replace HB := Lib.hid (HB.out.trans (hb1.mono HB.out.size)); replace RZ := Lib.hid (RZ.out.below hb1); clear hb1 ho1)
    | (go_at_call 22; ((with_reducible refine (HSP.out _ _ _ RZ.out RU.out).mono ?_); rintro e w1 ⟨rfl, hb1⟩); replace HB := Lib.hid (HB.out.trans (hb1.mono HB.out.size)); clear hb1))
        go_ret
        exact ⟨rfl, HB.out⟩
      · have hpe : parseB s = ([], (parseB s).2.1, (parseB s).2.2) := by
          by_cases hl4 : s.size ≤ 4000
          · exact err_none e2 hl4
          · unfold parseB
            rw [if_pos (by omega)]
        rw [hpe] at HP2
        dsimp only at HP2
        clear hpe
        generalize (parseB s).2.1 = k at *
        generalize (parseB s).2.2 = g at *
        have x6 : ((g : Int) != 0) = true := by simp; omega
        clear e2
        go_enter Try.func5, Try.ntmps5
        go_wp2_with (first
    | (go_at_call 9; ((with_reducible refine (shown_any _).mono ?_); rintro e w1 ⟨rfl, hb1⟩); replace HB := Lib.hid (HB.out.trans (hb1.mono HB.out.size)); replace RV := Lib.hid (RV.out.below hb1); clear hb1)
    | (go_at_call 10; ((with_reducible refine (HSM.out _ RV.out).mono ?_); rintro e w1 ⟨rfl, rfl⟩))
    | (go_at_call 11; ((with_reducible refine (H1.out _ RV.out).mono ?_); rintro e w1 ⟨rfl, hb1⟩); replace HB := Lib.hid (HB.out.trans (hb1.mono HB.out.size)); replace RV := Lib.hid (RV.out.below hb1); clear hb1)
    | (go_at_call 20; ((with_reducible refine (HP2.out _).mono ?_); rintro e w1 ⟨rpv, rfl, ho1, hb1⟩); obtain ⟨A1, cap1, rfl, _⟩ := OwnG.slice ho1; replace HB := Lib.hid (HB.out.trans (hb1.mono HB.out.size)); clear hb1 ho1))
        go_ret
        exact ⟨rfl, HB.out⟩

set_option maxRecDepth 100000 in
theorem lifted (os : Os) (started : os.Started) (H : Type) (enc : TypeId × Value → H) :
    ReturnsInHanded {} Try.checked os 5 .any (Rows.tlvBackSpec.pre6 enc Try.prog Try.f5 Rows.tlvBackRow.domain false) (Rows.tlvBackSpec.post enc Try.prog Try.f5 false true false false) := by
  refine returnsInHanded_of_change_sized (C := Try.checked) own started (by kernel_rfl) Try.func5
    (ChangeSpec.witness6 (enc := enc) (C := Try.checked) false ⟨#[], #[.slice none 0 0, .string ⟨#[]⟩], []⟩ 8 (by kernel_rfl) (by kernel_rfl) (by kernel_rfl) (by kernel_rfl)) ?_
  intro W base args ds gs before hval0 hW _ hreach _
  have hval : ∀ (j : Nat) t v, Try.f5.params[j]? = some t → args[j]? = some v → Value.okWide Try.prog W .any base t v := hval0
  obtain ⟨p, q, hA0, _, _, _, _⟩ := id hW
  have hA : DataW.TrodAll enc Try.prog W 0 (fun _ => true) true Try.f5.params.toList args.toList ds p := hA0
  rw [Try.params5] at hA hval
  obtain ⟨v0, vs0, d0, ds0, p0, q0, hargs, rfl, rfl, h0, r0⟩ := trodAll_cons hA
  obtain ⟨v1, vs1, d1, ds1, p1, q1, rfl, rfl, rfl, h1, r1⟩ := trodAll_cons r0
  obtain ⟨rfl, rfl, rfl⟩ := trodAll_nil r1
  obtain rfl : args = #[v0, v1] := by cases args; simp_all
  obtain ⟨l0, w0, m0, s0⟩ := items_in (hval 0 22 v0 rfl rfl) h0
  obtain ⟨a1, rfl, rfl, rfl, w1⟩ := Go.ChangeMaps.open_string Try.underlying9 (hval 1 9 v1 rfl rfl) h1
  refine (walk l0 v0 a1 m0 w1 W w0).mono fun e W' ⟨he, hg⟩ => ?_
  subst he
  exact ⟨_, rfl, law_post laidOut Try.underlying4 (by kernel_rfl) (by kernel_rfl) rfl hW (by simp [Rows.tlvBackSpec]) hg⟩

theorem proved : Rows.TlvBackSaid :=
  OpenClaim.holds_of_wide 5 Try.f5 rfl rfl rfl rfl rfl rfl rfl ⟨rfl, rfl, rfl, rfl, rfl⟩ rfl rfl rfl rfl rfl (by kernel_rfl) Try.func5 (by kernel_rfl)
    (of_decide_eq_true (by kernel_rfl)) (by unfold Func.isWrapper; first | (rw [if_pos (by decide +kernel)]; kernel_rfl) | (rw [if_neg (by decide +kernel)]; exact ⟨rfl, rfl⟩))
    (fun os started H enc _ => lifted os started H enc)
#print axioms proved
end Go.Proofs.Ytkganhpfagnmjaa.tlvBack
