/-
  Find at both sides, and the document's Choose: contracts.
-/
import Derived.Test.YtpihgnpbaaagpaaPaG
namespace Go.Proofs.Ytpihgnpbaaagpaa
open Go.RowKit
set_option linter.unusedVariables false
set_option linter.unusedSimpArgs false
set_option maxRecDepth 100000

theorem bytes_inj {a b : ByteArray} (h : a.toList = b.toList) : a = b := by
  rw [ByteArray.toList_eq, ByteArray.toList_eq] at h
  exact ByteArray.ext (Array.ext' h)
theorem bytes_ne {a b : ByteArray} (h : a ≠ b) : a.toList ≠ b.toList := fun e => h (bytes_inj e)
section
variable {P : Program} {ops : Array Oper} {rest : List Oper} {op : Oper} {a : Act} {w : World} {Q : Exit → Act → World → Prop} {b o : Nat}
/-- A struct that lies in a row is loaded. -/
theorem ldR {ty : TypeId} {x : Operand} {d : TypeDesc} {cs : Array Value} (hgd : op.guard = none) (ho : op.op = .load ty x) (hx : a.eval x = .pointer (some ⟨b, o, none⟩)) (hc : w.rangeAt b o cs.toList)
    (hu : P.underlying ty = some d) (hd : d.isRow = true) (hi : (P.info? ty).map (·.size) = some cs.size) (hK : wpList P ops Q rest (a.put op.dst (.agg cs)) w) : wpList P ops Q (op :: rest) a w :=
  wpList_load_mid hgd ty x ho b o hx cs.toList d hc hu hd (by simpa using hi) (by simpa using hK)
theorem yR {S : World → Prop} {ty : TypeId} {x : Operand} {d : TypeDesc} {cs : Array Value} (hw : Region.wanted op (yielded ops a.tmps) = true) (ho : op.op = .load ty x) (hx : a.eval x = .pointer (some ⟨b, o, none⟩)) (hS : ∀ w, S w → w.rangeAt b o cs.toList)
    (hu : P.underlying ty = some d) (hd : d.isRow = true) (hi : (P.info? ty).map (·.size) = some cs.size) : YieldsIf P ops S op (.agg cs) a := by
  have := yieldsIf_load_mid (P := P) (ops := ops) (S := S) hw ty x ho b o hx cs.toList d hS hu hd (by simpa using hi)
  simpa using this
end
theorem find_fn (x : Pa) (s : ByteArray) (ga : Nat) (w : World) (hb : Bx w ga 9 #[.string s]) : Calls Try.prog 35 #[.agg (cellsPa x), .pointer (some ⟨ga, 0, none⟩)] w fun e w' => e = .returned (.bool (decide (x.ad = s))) ∧ Below w.heap.size w w' := by
  have hne : ga ≠ w.heap.size := Nat.ne_of_lt hb.lt
  have HA := Lib.hid (BS.first w 47 (cellsPa x))
  have ca := (hb.old (.cells (cellsPa x) 47)).cell 0 (.string s) rfl
  have c0 := HA.out.own.cell 0 (.string x.ad) rfl
  clear hb
  obtain ⟨ad, st, er, tm, wn, no, be, se⟩ := x
  by_cases h : ad = s
  · subst h
    go_enter Try.func35, Try.ntmps35
    go_wp2_with fail
    go_ret
    exact ⟨ret_bool (by simp), HA.out.below⟩
  · go_enter Try.func35, Try.ntmps35
    go_wp2_with fail
    go_ret
    exact ⟨ret_bool (by simp [h, bytes_ne h]), HA.out.below⟩
set_option maxHeartbeats 2000000 in
theorem index_ad (l : List Pa) (hl : l.length ≤ 100000) (s : ByteArray) (v : Value) (ga : Nat) (w : World) (hv : RowP w v l) (hb : Bx w ga 9 #[.string s]) :
    Calls Try.prog 34 #[v, .func (.func 35) #[] #[.pointer (some ⟨ga, 0, none⟩)]] w fun e w' => e = .returned (.int .i64 (findI l s)) ∧ Below w.heap.size w w' := by
  obtain ⟨R, hR⟩ : ∃ R, findI l s = R := ⟨_, rfl⟩
  rw [hR]
  have HRR := Lib.hid hR
  clear hR
  obtain ⟨A, cap, rfl, hcap, hmax, hcells⟩ := hv
  have HC := Lib.hid hcells
  have HGA := Lib.hid hb
  have HX := Lib.hid (fun (x : Pa) (W : World) h => find_fn x s ga W h)
  have hl' : (l.length : Int) ≤ 100000 := by omega
  clear hcells hb
  go_enter Try.func34, Try.ntmps34
  go_wp2_with fail
  go_loopw [8] (fun i wr => ∃ k : Nat, k ≤ l.length ∧ i = .int .i64 k ∧ Hid (NoAd l s k) ∧ Hid (Below w.heap.size w wr))
    (fun i _ => l.length - (intOf i).toNat)
  case atStart => exact ⟨0, Nat.zero_le _, rfl, Lib.hid (noAd_0 _ _), Lib.hid (Below.refl _ _)⟩
  case round =>
    obtain ⟨k, hk, rfl, HNO, HB⟩ := hrel
    by_cases hlt : k < l.length
    · obtain ⟨b, off, rfl, hb, hc⟩ := HC.out (by omega)
      have HRG := Lib.hid (range_below (hc k hlt) hb HB.out)
      have HF := Lib.hid (fun h => noAd_succ HNO.out hlt h)
      have HS := Lib.hid (fun h => find_some HNO.out hlt h)
      have HG1 := Lib.hid (HGA.out.under HB.out HGA.out.lt)
      generalize l[k] = x at *
      clear hc
      by_cases hx : x.ad = s
      · have hD : decide (x.ad = s) = true := decide_eq_true hx
        have HX1 := Lib.hid (HX.out x wr HG1.out)
        rw [hD] at HX1
        go_wp2_with (first
          | (go_at_call 35; (with_reducible refine HX1.out.mono ?_); rintro e w1 ⟨rfl, hb1⟩; replace HB := Lib.hid (HB.out.trans (hb1.mono HB.out.size)); clear hb1)
          | ((with_reducible refine gate9 ?_); refine ldR (cs := cellsPa x) rfl rfl rfl HRG.out Try.underlying47 rfl infoPa ?_))
        go_ret
        exact ⟨ret_i64 (by rw [← HRR.out]; exact (HS.out hx).symm), HB.out⟩
      · have hD : decide (x.ad = s) = false := decide_eq_false hx
        have HX1 := Lib.hid (HX.out x wr HG1.out)
        rw [hD] at HX1
        have HN := Lib.hid (HF.out hx)
        go_wp2_with (first
          | (go_at_call 35; (with_reducible refine HX1.out.mono ?_); rintro e w1 ⟨rfl, hb1⟩; replace HB := Lib.hid (HB.out.trans (hb1.mono HB.out.size)); clear hb1)
          | ((with_reducible refine gate9 ?_); refine ldR (cs := cellsPa x) rfl rfl rfl HRG.out Try.underlying47 rfl infoPa ?_))
        go_roundw
        case rel => exact ⟨k + 1, by omega, by go_num, HN, HB⟩
        case measure => simp [intOf]; omega
    · obtain rfl : k = l.length := by omega
      have HG := Lib.hid (find_none HNO.out)
      go_wp2_with fail
      go_ret
      exact ⟨ret_i64 (by rw [← HRR.out]; exact HG.out.symm), HB.out⟩
theorem find_any (l : List Pa) (hl : l.length ≤ 100000) (v : Value) (pr al : Int) (s : ByteArray) (w : World) (hv : RowP w v l) : Calls Try.prog 14 #[.agg #[v, .int .i64 pr, .int .i64 al], .string s] w fun e w' => e = .returned (.int .i64 (findI l s)) ∧ Below w.heap.size w w' := by
  obtain ⟨W, hW, HA, HS, HB, hs⟩ := two_open w 27 9 #[v, .int .i64 pr, .int .i64 al] #[.string s]
  have HX := Lib.hid (index_ad l hl s v (w.heap.size + 1) W (hv.below HB.out) HS.out)
  obtain ⟨A, cap, rfl, _, _, _⟩ := hv
  have c0 := HA.out.cell 0 (.slice A l.length cap) rfl
  go_enter Try.func14, Try.ntmps14
  go_wp2_with (go_at_call 34; (with_reducible refine HX.out.mono ?_); rintro e w1 ⟨rfl, hb⟩; replace HB := Lib.hid (HB.out.trans (hb.mono HB.out.size)); clear hb)
  go_ret
  exact ⟨rfl, HB.out⟩
set_option maxHeartbeats 2000000 in
theorem rfind_any (l : List Pa) (hl : l.length ≤ 100000) (v : Value) (pr al : Int) (s : ByteArray) (w : World) (hv : RowP w v l) : Calls Try.prog 15 #[.agg #[v, .int .i64 pr, .int .i64 al], .string s] w fun e w' => e = .returned (.int .i64 (findI l s)) ∧ Below w.heap.size w w' := by
  obtain ⟨R, hR⟩ : ∃ R, findI l s = R := ⟨_, rfl⟩
  rw [hR]
  have HRR := Lib.hid hR
  clear hR
  obtain ⟨A, cap, rfl, hcap, hmax, hcells⟩ := hv
  have HC := Lib.hid hcells
  have hl' : (l.length : Int) ≤ 100000 := by omega
  have HA := Lib.hid (BS.first w 33 #[.slice A l.length cap, .int .i64 pr, .int .i64 al])
  clear hcells
  go_enter Try.func15, Try.ntmps15
  go_wp2_with fail
  go_loopw [5] (fun i wr => ∃ k : Nat, k ≤ l.length ∧ i = .int .i64 k ∧ Hid (NoAd l s k) ∧ Hid (BS w w.heap.size 33 #[.slice A l.length cap, .int .i64 pr, .int .i64 al] wr))
    (fun i _ => l.length - (intOf i).toNat)
  case atStart => exact ⟨0, Nat.zero_le _, rfl, Lib.hid (noAd_0 _ _), HA⟩
  case round =>
    clear HA
    obtain ⟨k, hk, rfl, HNO, HA⟩ := hrel
    by_cases hlt : k < l.length
    · obtain ⟨b, off, rfl, hb, hc⟩ := HC.out (by omega)
      have c0 := HA.out.own.cell 0 (.slice (some ⟨b, off, none⟩) l.length cap) rfl
      have hd := (HA.out.below.cell (p := ⟨b, off + k * 14, none⟩) hb).trans ((hc k hlt) 0 _ rfl)
      have HF := Lib.hid (fun h => noAd_succ HNO.out hlt h)
      have HS := Lib.hid (fun h => find_some HNO.out hlt h)
      have q4 : (0 : Int) ≤ (k : Int) := by omega
      have q5 : (k : Int) < (l.length : Int) := by omega
      generalize l[k] = x at *
      obtain ⟨ad, st, er, tm, wn, no, be, se⟩ := x
      dsimp only at HF HS
      clear hc
      by_cases hx : ad = s
      · subst hx
        go_wp2_with fail
        go_ret
        exact ⟨ret_i64 (by rw [← HRR.out]; exact (HS.out (by first | rfl | trivial)).symm), HA.out.below⟩
      · have HN := Lib.hid (HF.out hx)
        have hx2 : (ad.toList == s.toList) = false := by simpa using bytes_ne hx
        go_wp2_with fail
        go_roundw
        case rel => exact ⟨k + 1, by omega, by go_num, HN, HA⟩
        case measure => simp [intOf]; omega
    · obtain rfl : k = l.length := by omega
      have HG := Lib.hid (find_none HNO.out)
      have c0 := HA.out.own.cell 0 (.slice A l.length cap) rfl
      go_wp2_with fail
      go_ret
      exact ⟨ret_i64 (by rw [← HRR.out]; exact HG.out.symm), HA.out.below⟩
set_option maxHeartbeats 4000000 in
theorem rchoose_any (l : List Pa) (hl : l.length ≤ 1000) (v : Value) (pr al n : Int) (w : World) (hv : RowP w v l) : Calls Try.prog 27 #[.agg #[v, .int .i64 pr, .int .i64 al], .int .i64 n] w fun e w' => e = .returned (.int .i64 (chooseP ⟨l, pr, al⟩ n)) ∧ Below w.heap.size w w' := by
  obtain ⟨R, hR⟩ : ∃ R, chooseP ⟨l, pr, al⟩ n = R := ⟨_, rfl⟩
  rw [hR]
  have HRR := Lib.hid hR
  clear hR
  have HX := Lib.hid (fun (i : Int) (W : World) h => ractive_any l hl v pr al i W h)
  have HR := Lib.hid (fun (W : World) (h : Below w.heap.size w W) => hv.below h)
  obtain ⟨A, cap, rfl, hcap, hmax, _⟩ := id hv
  have HTH := Lib.hid (fun W => rthere_any A l.length cap pr al pr (by unfold maxLen; omega) W)
  clear hv
  have HA := Lib.hid (BS.first w 33 #[.slice A l.length cap, .int .i64 pr, .int .i64 al])
  have hl' : (l.length : Int) ≤ 1000 := by omega
  have c1 := HA.out.own.cell 1 (.int .i64 pr) rfl
  have c0 := HA.out.own.cell 0 (.slice A l.length cap) rfl
  cases hac : activeB ⟨l, pr, al⟩ pr with
  | false =>
    have HN1 := Lib.hid (not1_act (p := ⟨l, pr, al⟩) (n := n) hac)
    have HAC := Lib.hid hac
    clear hac
    go_enter Try.func27, Try.ntmps27
    go_wp2_with (first
    | (go_at_call 56; (with_reducible refine (HX.out _ _ (HR.out _ HA.out.below)).mono ?_); rintro e w1 ⟨rfl, hb⟩; (try rw [HAC.out]); replace HA := Lib.hid (HA.out.later hb); clear hb; have c1 := HA.out.own.cell 1 (.int .i64 pr) rfl; have c0 := HA.out.own.cell 0 (.slice A l.length cap) rfl)
    | ((with_reducible refine gate9 ?_); refine ldB rfl rfl rfl HA.out.own Try.underlying33 rfl infoRPs ?_))
    go_loopw [5] (fun i wr => ∃ k : Nat, k ≤ l.length ∧ i = .int .i64 k ∧ Hid (NoneTo ⟨l, pr, al⟩ n k) ∧ Hid (BS w w.heap.size 33 #[.slice A l.length cap, .int .i64 pr, .int .i64 al] wr))
      (fun i _ => l.length - (intOf i).toNat)
    case atStart => exact ⟨0, Nat.zero_le _, rfl, Lib.hid (noneTo_0 _ _), HA⟩
    case round =>
      clear c0 c1 HA
      obtain ⟨k, hk, rfl, HNO, HA⟩ := hrel
      have c1 := HA.out.own.cell 1 (.int .i64 pr) rfl
      have c0 := HA.out.own.cell 0 (.slice A l.length cap) rfl
      by_cases hlt : k < l.length
      · cases hac : activeB ⟨l, pr, al⟩ (k : Int) with
        | false =>
          have HNX := Lib.hid (noneTo_succ (n := n) HNO.out (by simp [hac]))
          have HAC := Lib.hid hac
          clear hac
          go_wp2_with (first
    | (go_at_call 56; (with_reducible refine (HX.out _ _ (HR.out _ HA.out.below)).mono ?_); rintro e w1 ⟨rfl, hb⟩; (try rw [HAC.out]); replace HA := Lib.hid (HA.out.later hb); clear hb; have c1 := HA.out.own.cell 1 (.int .i64 pr) rfl; have c0 := HA.out.own.cell 0 (.slice A l.length cap) rfl)
    | ((with_reducible refine gate9 ?_); refine ldB rfl rfl rfl HA.out.own Try.underlying33 rfl infoRPs ?_))
          go_roundw
          case rel => exact ⟨k + 1, by omega, by go_num, HNX, HA⟩
          case measure => simp [intOf]; omega
        | true =>
          by_cases hn : (k : Int) = n
          · have HNX := Lib.hid (noneTo_succ HNO.out (by simp [hn]))
            have hq : ((k : Int) != n) = false := by simp [hn]
            clear hn
            have HAC := Lib.hid hac
            clear hac
            go_wp2_with (first
    | (go_at_call 56; (with_reducible refine (HX.out _ _ (HR.out _ HA.out.below)).mono ?_); rintro e w1 ⟨rfl, hb⟩; (try rw [HAC.out]); replace HA := Lib.hid (HA.out.later hb); clear hb; have c1 := HA.out.own.cell 1 (.int .i64 pr) rfl; have c0 := HA.out.own.cell 0 (.slice A l.length cap) rfl)
    | ((with_reducible refine gate9 ?_); refine ldB rfl rfl rfl HA.out.own Try.underlying33 rfl infoRPs ?_))
            go_roundw
            case rel => exact ⟨k + 1, by omega, by go_num, HNX, HA⟩
            case measure => simp [intOf]; omega
          · have HG := Lib.hid (choose_first HN1.out HNO.out hlt hn hac)
            have HAC := Lib.hid hac
            clear hac
            go_wp2_with (first
    | (go_at_call 56; (with_reducible refine (HX.out _ _ (HR.out _ HA.out.below)).mono ?_); rintro e w1 ⟨rfl, hb⟩; (try rw [HAC.out]); replace HA := Lib.hid (HA.out.later hb); clear hb; have c1 := HA.out.own.cell 1 (.int .i64 pr) rfl; have c0 := HA.out.own.cell 0 (.slice A l.length cap) rfl)
    | ((with_reducible refine gate9 ?_); refine ldB rfl rfl rfl HA.out.own Try.underlying33 rfl infoRPs ?_))
            go_ret
            exact ⟨ret_i64 (by rw [← HRR.out, HG.out]), HA.out.below⟩
      · obtain rfl : k = l.length := by omega
        have HNF := HNO
        cases ha1 : activeB ⟨l, pr, al⟩ n with
        | true =>
          have HA1 := Lib.hid ha1
          have HA2 := Lib.hid (rfl : 0 = 0)
          clear ha1
          go_wp2_with (first
    | (go_at_call 56; (with_reducible refine (HX.out _ _ (HR.out _ HA.out.below)).mono ?_); rintro e w1 ⟨rfl, hb⟩; (try rw [HA1.out]); replace HA := Lib.hid (HA.out.later hb); clear hb; have c1 := HA.out.own.cell 1 (.int .i64 pr) rfl; have c0 := HA.out.own.cell 0 (.slice A l.length cap) rfl)
    | ((with_reducible refine gate9 ?_); refine ldB rfl rfl rfl HA.out.own Try.underlying33 rfl infoRPs ?_))
          go_ret; exact ⟨ret_i64 (by rw [← HRR.out, choose_rest HN1.out HNF.out]; simp [HA1.out, HA2.out]), HA.out.below⟩
        | false =>
          have HA1 := Lib.hid ha1
          clear ha1
          cases ha2 : thereB l.length pr with
          | true =>
            have HA2 := Lib.hid ha2
            clear ha2
            go_wp2_with (first
    | (go_at_call 56; (with_reducible refine (HX.out _ _ (HR.out _ HA.out.below)).mono ?_); rintro e w1 ⟨rfl, hb⟩; (try rw [HA1.out]); replace HA := Lib.hid (HA.out.later hb); clear hb; have c1 := HA.out.own.cell 1 (.int .i64 pr) rfl; have c0 := HA.out.own.cell 0 (.slice A l.length cap) rfl)
    | (go_at_call 42; (with_reducible refine (HTH.out _).mono ?_); rintro e w1 ⟨rfl, hb⟩; (try rw [HA2.out]); replace HA := Lib.hid (HA.out.later hb); clear hb; have c1 := HA.out.own.cell 1 (.int .i64 pr) rfl)
    | ((with_reducible refine gate9 ?_); refine ldB rfl rfl rfl HA.out.own Try.underlying33 rfl infoRPs ?_))
            go_ret; exact ⟨ret_i64 (by rw [← HRR.out, choose_rest HN1.out HNF.out]; simp [HA1.out, HA2.out]), HA.out.below⟩
          | false =>
            have HA2 := Lib.hid ha2
            clear ha2
            go_wp2_with (first
    | (go_at_call 56; (with_reducible refine (HX.out _ _ (HR.out _ HA.out.below)).mono ?_); rintro e w1 ⟨rfl, hb⟩; (try rw [HA1.out]); replace HA := Lib.hid (HA.out.later hb); clear hb; have c1 := HA.out.own.cell 1 (.int .i64 pr) rfl; have c0 := HA.out.own.cell 0 (.slice A l.length cap) rfl)
    | (go_at_call 42; (with_reducible refine (HTH.out _).mono ?_); rintro e w1 ⟨rfl, hb⟩; (try rw [HA2.out]); replace HA := Lib.hid (HA.out.later hb); clear hb; have c1 := HA.out.own.cell 1 (.int .i64 pr) rfl)
    | ((with_reducible refine gate9 ?_); refine ldB rfl rfl rfl HA.out.own Try.underlying33 rfl infoRPs ?_))
            go_ret; exact ⟨ret_i64 (by rw [← HRR.out, choose_rest HN1.out HNF.out]; simp [HA1.out, HA2.out]), HA.out.below⟩
  | true =>
    by_cases hpn : pr = n
    · have HN1 := Lib.hid (not1_eq (p := ⟨l, pr, al⟩) hpn)
      have HAC := Lib.hid hac
      subst hpn
      clear hac
      go_enter Try.func27, Try.ntmps27
      go_wp2_with (first
    | (go_at_call 56; (with_reducible refine (HX.out _ _ (HR.out _ HA.out.below)).mono ?_); rintro e w1 ⟨rfl, hb⟩; (try rw [HAC.out]); replace HA := Lib.hid (HA.out.later hb); clear hb; have c1 := HA.out.own.cell 1 (.int .i64 pr) rfl; have c0 := HA.out.own.cell 0 (.slice A l.length cap) rfl)
    | ((with_reducible refine gate9 ?_); refine ldB rfl rfl rfl HA.out.own Try.underlying33 rfl infoRPs ?_))
      go_loopw [5] (fun i wr => ∃ k : Nat, k ≤ l.length ∧ i = .int .i64 k ∧ Hid (NoneTo ⟨l, pr, al⟩ pr k) ∧ Hid (BS w w.heap.size 33 #[.slice A l.length cap, .int .i64 pr, .int .i64 al] wr))
        (fun i _ => l.length - (intOf i).toNat)
      case atStart => exact ⟨0, Nat.zero_le _, rfl, Lib.hid (noneTo_0 _ _), HA⟩
      case round =>
        clear c0 c1 HA
        obtain ⟨k, hk, rfl, HNO, HA⟩ := hrel
        have c1 := HA.out.own.cell 1 (.int .i64 pr) rfl
        have c0 := HA.out.own.cell 0 (.slice A l.length cap) rfl
        by_cases hlt : k < l.length
        · cases hac : activeB ⟨l, pr, al⟩ (k : Int) with
          | false =>
            have HNX := Lib.hid (noneTo_succ (n := pr) HNO.out (by simp [hac]))
            have HAC := Lib.hid hac
            clear hac
            go_wp2_with (first
    | (go_at_call 56; (with_reducible refine (HX.out _ _ (HR.out _ HA.out.below)).mono ?_); rintro e w1 ⟨rfl, hb⟩; (try rw [HAC.out]); replace HA := Lib.hid (HA.out.later hb); clear hb; have c1 := HA.out.own.cell 1 (.int .i64 pr) rfl; have c0 := HA.out.own.cell 0 (.slice A l.length cap) rfl)
    | ((with_reducible refine gate9 ?_); refine ldB rfl rfl rfl HA.out.own Try.underlying33 rfl infoRPs ?_))
            go_roundw
            case rel => exact ⟨k + 1, by omega, by go_num, HNX, HA⟩
            case measure => simp [intOf]; omega
          | true =>
            by_cases hn : (k : Int) = pr
            · have HNX := Lib.hid (noneTo_succ HNO.out (by simp [hn]))
              have hq : ((k : Int) != pr) = false := by simp [hn]
              clear hn
              have HAC := Lib.hid hac
              clear hac
              go_wp2_with (first
    | (go_at_call 56; (with_reducible refine (HX.out _ _ (HR.out _ HA.out.below)).mono ?_); rintro e w1 ⟨rfl, hb⟩; (try rw [HAC.out]); replace HA := Lib.hid (HA.out.later hb); clear hb; have c1 := HA.out.own.cell 1 (.int .i64 pr) rfl; have c0 := HA.out.own.cell 0 (.slice A l.length cap) rfl)
    | ((with_reducible refine gate9 ?_); refine ldB rfl rfl rfl HA.out.own Try.underlying33 rfl infoRPs ?_))
              go_roundw
              case rel => exact ⟨k + 1, by omega, by go_num, HNX, HA⟩
              case measure => simp [intOf]; omega
            · have HG := Lib.hid (choose_first HN1.out HNO.out hlt hn hac)
              have HAC := Lib.hid hac
              clear hac
              go_wp2_with (first
    | (go_at_call 56; (with_reducible refine (HX.out _ _ (HR.out _ HA.out.below)).mono ?_); rintro e w1 ⟨rfl, hb⟩; (try rw [HAC.out]); replace HA := Lib.hid (HA.out.later hb); clear hb; have c1 := HA.out.own.cell 1 (.int .i64 pr) rfl; have c0 := HA.out.own.cell 0 (.slice A l.length cap) rfl)
    | ((with_reducible refine gate9 ?_); refine ldB rfl rfl rfl HA.out.own Try.underlying33 rfl infoRPs ?_))
              go_ret
              exact ⟨ret_i64 (by rw [← HRR.out, HG.out]), HA.out.below⟩
        · obtain rfl : k = l.length := by omega
          have HNF := HNO
          cases ha1 : activeB ⟨l, pr, al⟩ pr with
          | true =>
            have HA1 := Lib.hid ha1
            have HA2 := Lib.hid (rfl : 0 = 0)
            clear ha1
            go_wp2_with (first
    | (go_at_call 56; (with_reducible refine (HX.out _ _ (HR.out _ HA.out.below)).mono ?_); rintro e w1 ⟨rfl, hb⟩; (try rw [HA1.out]); replace HA := Lib.hid (HA.out.later hb); clear hb; have c1 := HA.out.own.cell 1 (.int .i64 pr) rfl; have c0 := HA.out.own.cell 0 (.slice A l.length cap) rfl)
    | ((with_reducible refine gate9 ?_); refine ldB rfl rfl rfl HA.out.own Try.underlying33 rfl infoRPs ?_))
            go_ret; exact ⟨ret_i64 (by rw [← HRR.out, choose_rest HN1.out HNF.out]; simp [HA1.out, HA2.out]), HA.out.below⟩
          | false =>
            have HA1 := Lib.hid ha1
            clear ha1
            cases ha2 : thereB l.length pr with
            | true =>
              have HA2 := Lib.hid ha2
              clear ha2
              go_wp2_with (first
    | (go_at_call 56; (with_reducible refine (HX.out _ _ (HR.out _ HA.out.below)).mono ?_); rintro e w1 ⟨rfl, hb⟩; (try rw [HA1.out]); replace HA := Lib.hid (HA.out.later hb); clear hb; have c1 := HA.out.own.cell 1 (.int .i64 pr) rfl; have c0 := HA.out.own.cell 0 (.slice A l.length cap) rfl)
    | (go_at_call 42; (with_reducible refine (HTH.out _).mono ?_); rintro e w1 ⟨rfl, hb⟩; (try rw [HA2.out]); replace HA := Lib.hid (HA.out.later hb); clear hb; have c1 := HA.out.own.cell 1 (.int .i64 pr) rfl)
    | ((with_reducible refine gate9 ?_); refine ldB rfl rfl rfl HA.out.own Try.underlying33 rfl infoRPs ?_))
              go_ret; exact ⟨ret_i64 (by rw [← HRR.out, choose_rest HN1.out HNF.out]; simp [HA1.out, HA2.out]), HA.out.below⟩
            | false =>
              have HA2 := Lib.hid ha2
              clear ha2
              go_wp2_with (first
    | (go_at_call 56; (with_reducible refine (HX.out _ _ (HR.out _ HA.out.below)).mono ?_); rintro e w1 ⟨rfl, hb⟩; (try rw [HA1.out]); replace HA := Lib.hid (HA.out.later hb); clear hb; have c1 := HA.out.own.cell 1 (.int .i64 pr) rfl; have c0 := HA.out.own.cell 0 (.slice A l.length cap) rfl)
    | (go_at_call 42; (with_reducible refine (HTH.out _).mono ?_); rintro e w1 ⟨rfl, hb⟩; (try rw [HA2.out]); replace HA := Lib.hid (HA.out.later hb); clear hb; have c1 := HA.out.own.cell 1 (.int .i64 pr) rfl)
    | ((with_reducible refine gate9 ?_); refine ldB rfl rfl rfl HA.out.own Try.underlying33 rfl infoRPs ?_))
              go_ret; exact ⟨ret_i64 (by rw [← HRR.out, choose_rest HN1.out HNF.out]; simp [HA1.out, HA2.out]), HA.out.below⟩
    · have HG := Lib.hid (choose_primary (p := ⟨l, pr, al⟩) hpn hac)
      have HAC := Lib.hid hac
      clear hac
      go_enter Try.func27, Try.ntmps27
      go_wp2_with (first
    | (go_at_call 56; (with_reducible refine (HX.out _ _ (HR.out _ HA.out.below)).mono ?_); rintro e w1 ⟨rfl, hb⟩; (try rw [HAC.out]); replace HA := Lib.hid (HA.out.later hb); clear hb; have c1 := HA.out.own.cell 1 (.int .i64 pr) rfl; have c0 := HA.out.own.cell 0 (.slice A l.length cap) rfl)
    | ((with_reducible refine gate9 ?_); refine ldB rfl rfl rfl HA.out.own Try.underlying33 rfl infoRPs ?_))
      go_ret
      exact ⟨ret_i64 (by rw [← HRR.out, HG.out]), HA.out.below⟩
end Go.Proofs.Ytpihgnpbaaagpaa
