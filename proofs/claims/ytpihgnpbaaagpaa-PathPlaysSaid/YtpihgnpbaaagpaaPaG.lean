/-
  Choose and Find, at both sides: contracts.
-/
import Derived.Test.YtpihgnpbaaagpaaPaB
namespace Go.Proofs.Ytpihgnpbaaagpaa
open Go.RowKit
set_option linter.unusedVariables false
set_option linter.unusedSimpArgs false
set_option maxRecDepth 100000

theorem active_fn (l : List Pa) (hl : l.length ≤ 1000) (v : Value) (pr al i : Int) (gb : Nat) (w : World) (hb0 : Bx w gb 27 #[v, .int .i64 pr, .int .i64 al]) (hv : RowP w v l) : Calls Try.prog 54 #[.int .i64 i, .pointer (some ⟨gb, 0, none⟩)] w fun e w' => e = .returned (.bool (activeB ⟨l, pr, al⟩ i)) ∧ Below w.heap.size w w' := by
  obtain ⟨A, cap, rfl, hcap, hmax, hcells⟩ := hv
  have HH := Lib.hid (fun W => there_any A l.length cap pr al i (by unfold maxLen; omega) W)
  have HA := Lib.hid hb0
  clear hb0
  cases ht : thereB l.length i with
  | false =>
    have HT := Lib.hid (show activeB ⟨l, pr, al⟩ i = false by simp [activeB, ht])
    generalize activeB ⟨l, pr, al⟩ i = q at *
    rw [ht] at HH
    clear ht hcells
    go_enter Try.func54, Try.ntmps54
    go_wp2_with (first
      | (go_at_call 55; (with_reducible refine (HH.out _).mono ?_); rintro e w1 ⟨rfl, hb⟩; have HB := Lib.hid hb; clear hb)
      | ((with_reducible refine gate9 ?_); refine ldB rfl rfl rfl HA.out Try.underlying27 rfl infoPs ?_))
    go_ret
    exact ⟨by rw [HT.out]; rfl, HB.out⟩
  | true =>
    obtain ⟨hlt, hi⟩ := thereB_lt ht
    obtain ⟨b, off, rfl, hb, hc⟩ := hcells (by omega)
    have hc0 := (hc i.toNat hlt) 1 _ rfl
    generalize hk : i.toNat = k at *
    subst hi
    have hat : atL l (k : Int) = l[k] := by unfold atL; rw [Int.toNat_natCast, List.getD_eq_getElem?_getD, List.getElem?_eq_getElem hlt]; rfl
    have HT := Lib.hid (show activeB ⟨l, pr, al⟩ (k : Int) = decide (l[k].st = 2) by simp [activeB, ht, hat])
    generalize activeB ⟨l, pr, al⟩ (k : Int) = q at *
    rw [ht] at HH
    generalize hst : l[k].st = st at *
    clear ht hc hat hk hst
    have q4 : (0 : Int) ≤ (k : Int) := by omega
    have q5 : (k : Int) < (l.length : Int) := by omega
    go_enter Try.func54, Try.ntmps54
    go_wp2_with (first
      | (go_at_call 55; (with_reducible refine (HH.out _).mono ?_); rintro e w1 ⟨rfl, hb1⟩; have HB := Lib.hid hb1; replace HA := Lib.hid (HA.out.later hb1); have hd := (hb1.cell (p := ⟨b, off + k * 14 + 1, none⟩) hb).trans hc0; clear hb1; have c0 := HA.out.cell 0 _ rfl)
      | ((with_reducible refine gate9 ?_); refine ldB rfl rfl rfl HA.out Try.underlying27 rfl infoPs ?_))
    all_goals (go_ret; exact ⟨by rw [HT.out]; rfl, HB.out⟩)
set_option maxHeartbeats 4000000 in
theorem choose_any (l : List Pa) (hl : l.length ≤ 1000) (v : Value) (pr al n : Int) (w : World) (hv : RowP w v l) : Calls Try.prog 26 #[.agg #[v, .int .i64 pr, .int .i64 al], .int .i64 n] w fun e w' => e = .returned (.int .i64 (chooseP ⟨l, pr, al⟩ n)) ∧ Below w.heap.size w w' := by
  obtain ⟨R, hR⟩ : ∃ R, chooseP ⟨l, pr, al⟩ n = R := ⟨_, rfl⟩
  rw [hR]
  have HRR := Lib.hid hR
  clear hR
  have HX := Lib.hid (fun (i : Int) (W : World) h1 h2 => active_fn l hl v pr al i w.heap.size W h1 h2)
  have HR := Lib.hid (fun (W : World) (h : Below w.heap.size w W) => hv.below h)
  obtain ⟨A, cap, rfl, hcap, hmax, _⟩ := id hv
  have HTH := Lib.hid (fun W => there_any A l.length cap pr al pr (by unfold maxLen; omega) W)
  clear hv
  have HA := Lib.hid (BS.first w 27 #[.slice A l.length cap, .int .i64 pr, .int .i64 al])
  have hl' : (l.length : Int) ≤ 1000 := by omega
  have c1 := HA.out.own.cell 1 (.int .i64 pr) rfl
  have c0 := HA.out.own.cell 0 (.slice A l.length cap) rfl
  by_cases hpn : pr = n
  · have HN1 := Lib.hid (not1_eq (p := ⟨l, pr, al⟩) hpn)
    subst hpn
    go_enter Try.func26, Try.ntmps26
    go_wp2_with fail
    go_loopw [23] (fun i wr => ∃ k : Nat, k ≤ l.length ∧ i = .int .i64 k ∧ Hid (NoneTo ⟨l, pr, al⟩ pr k) ∧ Hid (BS w w.heap.size 27 #[.slice A l.length cap, .int .i64 pr, .int .i64 al] wr))
      (fun i _ => l.length - (intOf i).toNat)
    case atStart => exact ⟨0, Nat.zero_le _, rfl, Lib.hid (noneTo_0 _ _), HA⟩
    case round =>
      clear c0 c1 HA
      obtain ⟨k, hk, rfl, HNO, HA⟩ := hrel
      have c1 := HA.out.own.cell 1 (.int .i64 pr) rfl
      have c0 := HA.out.own.cell 0 (.slice A l.length cap) rfl
      by_cases hlt : k < l.length
      · by_cases hn : (k : Int) = pr
        · have HNX := Lib.hid (noneTo_succ HNO.out (by simp [hn]))
          go_wp2_with fail
          go_roundw
          case rel => exact ⟨k + 1, by omega, by go_num, HNX, HA⟩
          case measure => simp [intOf]; omega
        · cases hac : activeB ⟨l, pr, al⟩ (k : Int) with
          | true =>
            have HG := Lib.hid (choose_first HN1.out HNO.out hlt hn hac)
            have HAC := Lib.hid hac
            clear hac
            go_wp2_with (go_at_call 54; (with_reducible refine (HX.out _ _ HA.out.own (HR.out _ HA.out.below)).mono ?_); rintro e w1 ⟨rfl, hb⟩; (try rw [HAC.out]); replace HA := Lib.hid (HA.out.later hb); clear hb; have c1 := HA.out.own.cell 1 (.int .i64 pr) rfl; have c0 := HA.out.own.cell 0 (.slice A l.length cap) rfl)
            go_ret
            exact ⟨ret_i64 (by rw [← HRR.out, HG.out]), HA.out.below⟩
          | false =>
            have HNX := Lib.hid (noneTo_succ HNO.out (by simp [hac]))
            have HAC := Lib.hid hac
            clear hac
            go_wp2_with (go_at_call 54; (with_reducible refine (HX.out _ _ HA.out.own (HR.out _ HA.out.below)).mono ?_); rintro e w1 ⟨rfl, hb⟩; (try rw [HAC.out]); replace HA := Lib.hid (HA.out.later hb); clear hb; have c1 := HA.out.own.cell 1 (.int .i64 pr) rfl; have c0 := HA.out.own.cell 0 (.slice A l.length cap) rfl)
            go_roundw
            case rel => exact ⟨k + 1, by omega, by go_num, HNX, HA⟩
            case measure => simp [intOf]; omega
      · obtain rfl : k = l.length := by omega
        have HNF := HNO
        cases ha1 : activeB ⟨l, pr, al⟩ pr with
        | true =>
          have HA1 := Lib.hid ha1
          have HA2 := Lib.hid (rfl : 0 = 0)
          clear ha1
          go_wp2_with (go_at_call 54; (with_reducible refine (HX.out _ _ HA.out.own (HR.out _ HA.out.below)).mono ?_); rintro e w1 ⟨rfl, hb⟩; (try rw [HA1.out]); replace HA := Lib.hid (HA.out.later hb); clear hb; have c1 := HA.out.own.cell 1 (.int .i64 pr) rfl; have c0 := HA.out.own.cell 0 (.slice A l.length cap) rfl)
          go_ret; exact ⟨ret_i64 (by rw [← HRR.out, choose_rest HN1.out HNF.out]; simp [HA1.out, HA2.out]), HA.out.below⟩
        | false =>
          have HA1 := Lib.hid ha1
          clear ha1
          cases ha2 : thereB l.length pr with
          | true =>
            have HA2 := Lib.hid ha2
            clear ha2
            go_wp2_with (first
    | (go_at_call 54; (with_reducible refine (HX.out _ _ HA.out.own (HR.out _ HA.out.below)).mono ?_); rintro e w1 ⟨rfl, hb⟩; (try rw [HA1.out]); replace HA := Lib.hid (HA.out.later hb); clear hb; have c1 := HA.out.own.cell 1 (.int .i64 pr) rfl; have c0 := HA.out.own.cell 0 (.slice A l.length cap) rfl)
    | (go_at_call 55; (with_reducible refine (HTH.out _).mono ?_); rintro e w1 ⟨rfl, hb⟩; (try rw [HA2.out]); replace HA := Lib.hid (HA.out.later hb); clear hb; have c1 := HA.out.own.cell 1 (.int .i64 pr) rfl; have c0 := HA.out.own.cell 0 (.slice A l.length cap) rfl)
    | ((with_reducible refine gate9 ?_); refine ldB rfl rfl rfl HA.out.own Try.underlying27 rfl infoPs ?_))
            go_ret; exact ⟨ret_i64 (by rw [← HRR.out, choose_rest HN1.out HNF.out]; simp [HA1.out, HA2.out]), HA.out.below⟩
          | false =>
            have HA2 := Lib.hid ha2
            clear ha2
            go_wp2_with (first
    | (go_at_call 54; (with_reducible refine (HX.out _ _ HA.out.own (HR.out _ HA.out.below)).mono ?_); rintro e w1 ⟨rfl, hb⟩; (try rw [HA1.out]); replace HA := Lib.hid (HA.out.later hb); clear hb; have c1 := HA.out.own.cell 1 (.int .i64 pr) rfl; have c0 := HA.out.own.cell 0 (.slice A l.length cap) rfl)
    | (go_at_call 55; (with_reducible refine (HTH.out _).mono ?_); rintro e w1 ⟨rfl, hb⟩; (try rw [HA2.out]); replace HA := Lib.hid (HA.out.later hb); clear hb; have c1 := HA.out.own.cell 1 (.int .i64 pr) rfl; have c0 := HA.out.own.cell 0 (.slice A l.length cap) rfl)
    | ((with_reducible refine gate9 ?_); refine ldB rfl rfl rfl HA.out.own Try.underlying27 rfl infoPs ?_))
            go_ret; exact ⟨ret_i64 (by rw [← HRR.out, choose_rest HN1.out HNF.out]; simp [HA1.out, HA2.out]), HA.out.below⟩
  · cases hac : activeB ⟨l, pr, al⟩ pr with
    | true =>
      have HG := Lib.hid (choose_primary (p := ⟨l, pr, al⟩) hpn hac)
      have HAC := Lib.hid hac
      clear hac
      go_enter Try.func26, Try.ntmps26
      go_wp2_with (go_at_call 54; (with_reducible refine (HX.out _ _ HA.out.own (HR.out _ HA.out.below)).mono ?_); rintro e w1 ⟨rfl, hb⟩; (try rw [HAC.out]); replace HA := Lib.hid (HA.out.later hb); clear hb; have c1 := HA.out.own.cell 1 (.int .i64 pr) rfl; have c0 := HA.out.own.cell 0 (.slice A l.length cap) rfl)
      go_ret
      exact ⟨ret_i64 (by rw [← HRR.out, HG.out]), HA.out.below⟩
    | false =>
      have HN1 := Lib.hid (not1_act (p := ⟨l, pr, al⟩) (n := n) hac)
      have HAC := Lib.hid hac
      clear hac
      go_enter Try.func26, Try.ntmps26
      go_wp2_with (go_at_call 54; (with_reducible refine (HX.out _ _ HA.out.own (HR.out _ HA.out.below)).mono ?_); rintro e w1 ⟨rfl, hb⟩; (try rw [HAC.out]); replace HA := Lib.hid (HA.out.later hb); clear hb; have c1 := HA.out.own.cell 1 (.int .i64 pr) rfl; have c0 := HA.out.own.cell 0 (.slice A l.length cap) rfl)
      go_loopw [23] (fun i wr => ∃ k : Nat, k ≤ l.length ∧ i = .int .i64 k ∧ Hid (NoneTo ⟨l, pr, al⟩ n k) ∧ Hid (BS w w.heap.size 27 #[.slice A l.length cap, .int .i64 pr, .int .i64 al] wr))
        (fun i _ => l.length - (intOf i).toNat)
      case atStart => exact ⟨0, Nat.zero_le _, rfl, Lib.hid (noneTo_0 _ _), HA⟩
      case round =>
        clear c0 c1 HA
        obtain ⟨k, hk, rfl, HNO, HA⟩ := hrel
        have c1 := HA.out.own.cell 1 (.int .i64 pr) rfl
        have c0 := HA.out.own.cell 0 (.slice A l.length cap) rfl
        by_cases hlt : k < l.length
        · by_cases hn : (k : Int) = n
          · have HNX := Lib.hid (noneTo_succ HNO.out (by simp [hn]))
            go_wp2_with fail
            go_roundw
            case rel => exact ⟨k + 1, by omega, by go_num, HNX, HA⟩
            case measure => simp [intOf]; omega
          · cases hac : activeB ⟨l, pr, al⟩ (k : Int) with
            | true =>
              have HG := Lib.hid (choose_first HN1.out HNO.out hlt hn hac)
              have HAC := Lib.hid hac
              clear hac
              go_wp2_with (go_at_call 54; (with_reducible refine (HX.out _ _ HA.out.own (HR.out _ HA.out.below)).mono ?_); rintro e w1 ⟨rfl, hb⟩; (try rw [HAC.out]); replace HA := Lib.hid (HA.out.later hb); clear hb; have c1 := HA.out.own.cell 1 (.int .i64 pr) rfl; have c0 := HA.out.own.cell 0 (.slice A l.length cap) rfl)
              go_ret
              exact ⟨ret_i64 (by rw [← HRR.out, HG.out]), HA.out.below⟩
            | false =>
              have HNX := Lib.hid (noneTo_succ HNO.out (by simp [hac]))
              have HAC := Lib.hid hac
              clear hac
              go_wp2_with (go_at_call 54; (with_reducible refine (HX.out _ _ HA.out.own (HR.out _ HA.out.below)).mono ?_); rintro e w1 ⟨rfl, hb⟩; (try rw [HAC.out]); replace HA := Lib.hid (HA.out.later hb); clear hb; have c1 := HA.out.own.cell 1 (.int .i64 pr) rfl; have c0 := HA.out.own.cell 0 (.slice A l.length cap) rfl)
              go_roundw
              case rel => exact ⟨k + 1, by omega, by go_num, HNX, HA⟩
              case measure => simp [intOf]; omega
        · obtain rfl : k = l.length := by omega
          have HNF := HNO
          cases ha1 : activeB ⟨l, pr, al⟩ n with
          | true =>
            have HA1 := Lib.hid ha1
            have HA2 := Lib.hid (rfl : 0 = 0)
            clear ha1
            go_wp2_with (go_at_call 54; (with_reducible refine (HX.out _ _ HA.out.own (HR.out _ HA.out.below)).mono ?_); rintro e w1 ⟨rfl, hb⟩; (try rw [HA1.out]); replace HA := Lib.hid (HA.out.later hb); clear hb; have c1 := HA.out.own.cell 1 (.int .i64 pr) rfl; have c0 := HA.out.own.cell 0 (.slice A l.length cap) rfl)
            go_ret; exact ⟨ret_i64 (by rw [← HRR.out, choose_rest HN1.out HNF.out]; simp [HA1.out, HA2.out]), HA.out.below⟩
          | false =>
            have HA1 := Lib.hid ha1
            clear ha1
            cases ha2 : thereB l.length pr with
            | true =>
              have HA2 := Lib.hid ha2
              clear ha2
              go_wp2_with (first
    | (go_at_call 54; (with_reducible refine (HX.out _ _ HA.out.own (HR.out _ HA.out.below)).mono ?_); rintro e w1 ⟨rfl, hb⟩; (try rw [HA1.out]); replace HA := Lib.hid (HA.out.later hb); clear hb; have c1 := HA.out.own.cell 1 (.int .i64 pr) rfl; have c0 := HA.out.own.cell 0 (.slice A l.length cap) rfl)
    | (go_at_call 55; (with_reducible refine (HTH.out _).mono ?_); rintro e w1 ⟨rfl, hb⟩; (try rw [HA2.out]); replace HA := Lib.hid (HA.out.later hb); clear hb; have c1 := HA.out.own.cell 1 (.int .i64 pr) rfl; have c0 := HA.out.own.cell 0 (.slice A l.length cap) rfl)
    | ((with_reducible refine gate9 ?_); refine ldB rfl rfl rfl HA.out.own Try.underlying27 rfl infoPs ?_))
              go_ret; exact ⟨ret_i64 (by rw [← HRR.out, choose_rest HN1.out HNF.out]; simp [HA1.out, HA2.out]), HA.out.below⟩
            | false =>
              have HA2 := Lib.hid ha2
              clear ha2
              go_wp2_with (first
    | (go_at_call 54; (with_reducible refine (HX.out _ _ HA.out.own (HR.out _ HA.out.below)).mono ?_); rintro e w1 ⟨rfl, hb⟩; (try rw [HA1.out]); replace HA := Lib.hid (HA.out.later hb); clear hb; have c1 := HA.out.own.cell 1 (.int .i64 pr) rfl; have c0 := HA.out.own.cell 0 (.slice A l.length cap) rfl)
    | (go_at_call 55; (with_reducible refine (HTH.out _).mono ?_); rintro e w1 ⟨rfl, hb⟩; (try rw [HA2.out]); replace HA := Lib.hid (HA.out.later hb); clear hb; have c1 := HA.out.own.cell 1 (.int .i64 pr) rfl; have c0 := HA.out.own.cell 0 (.slice A l.length cap) rfl)
    | ((with_reducible refine gate9 ?_); refine ldB rfl rfl rfl HA.out.own Try.underlying27 rfl infoPs ?_))
              go_ret; exact ⟨ret_i64 (by rw [← HRR.out, choose_rest HN1.out HNF.out]; simp [HA1.out, HA2.out]), HA.out.below⟩
end Go.Proofs.Ytpihgnpbaaagpaa
