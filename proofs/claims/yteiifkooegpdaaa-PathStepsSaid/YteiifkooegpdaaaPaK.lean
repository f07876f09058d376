/-
  The document's Ack and SetPrimary: contracts.
-/
import Derived.Test.YteiifkooegpdaaaPaI
namespace Go.Proofs.Yteiifkooegpdaaa
open Go.RowKit
set_option linter.unusedVariables false
set_option linter.unusedSimpArgs false
set_option maxRecDepth 100000

set_option maxHeartbeats 40000000 in
theorem rack_any (l : List Pa) (hl : l.length ≤ 100000) (v : Value) (pr al i nonce now : Int) (w : World) (hv : RowP w v l) : Calls Try.prog 17 #[.agg #[v, .int .i64 pr, .int .i64 al], .int .i64 i, .int .u32 nonce, .int .i64 now] w fun e w' => ∃ v', e = .returned (.tuple #[.agg #[v', .int .i64 (ackP ⟨l, pr, al⟩ i nonce now).pr, .int .i64 (ackP ⟨l, pr, al⟩ i nonce now).al], .bool (ackB ⟨l, pr, al⟩ i nonce now)]) ∧ RowP w' v' (ackP ⟨l, pr, al⟩ i nonce now).l ∧ Below w.heap.size w w' := by
  obtain ⟨R, hR⟩ : ∃ R, ackP ⟨l, pr, al⟩ i nonce now = R := ⟨_, rfl⟩
  obtain ⟨rb, hrb⟩ : ∃ rb, ackB ⟨l, pr, al⟩ i nonce now = rb := ⟨_, rfl⟩
  rw [hR, hrb]
  have HRR := Lib.hid hR
  have HRB := Lib.hid hrb
  clear hR hrb
  obtain ⟨A, cap, rfl, hcap, hmax, hcells⟩ := id hv
  obtain ⟨W1, hW1, HA, HZ, HB, hs1⟩ := two_open w 33 33 #[.slice A l.length cap, .int .i64 pr, .int .i64 al] #[.slice none 0 0, .int .i64 0, .int .i64 0]
  have HV := Lib.hid (fun (W : World) (h : Below w.heap.size w W) => hv.below h)
  have HTH := Lib.hid (fun W => rthere_any A l.length cap pr al i (by unfold maxLen; omega) W)
  have hml : l.length ≤ maxLen := by unfold maxLen; omega
  cases ht : thereB l.length i with
  | false =>
    rw [ht] at HTH
    have HF : Hid (R = ⟨l, pr, al⟩) := Lib.hid (by rw [← HRR.out]; simp [ackP, ackB, ht])
    have HG : Hid (rb = false) := Lib.hid (by rw [← HRB.out]; simp [ackB, ht])
    clear hv hcells ht
    go_enter Try.func17, Try.ntmps17
    go_wp2_with (first
    | (go_at_call 42; (with_reducible refine (HTH.out _).mono ?_); rintro e w1 ⟨rfl, hb1⟩; replace HA := Lib.hid (HA.out.later hb1); replace HZ := Lib.hid (HZ.out.later hb1); replace HB := Lib.hid (HB.out.trans (hb1.mono (by omega))); clear hb1)
    | ((with_reducible refine gate9 ?_); refine ldB (ty := 33) rfl rfl rfl HA.out Try.underlying33 rfl infoRPs ?_)
    | ((with_reducible refine gate9 ?_); refine stB (ty := 33) #[.slice A l.length cap, .int .i64 pr, .int .i64 al] rfl rfl rfl rfl HZ.out infoRPs rfl (cells3_one _ _ _ _ _) ?_; intro w9 ht9 hg9; have HRW := Lib.hid (HV.out _ (below_of_grown1 HB.out hg9 HB.out.size (by omega))); replace HB := Lib.hid (below_of_grown1 HB.out hg9 HB.out.size (by omega)); replace HZ := Lib.hid ht9; clear ht9 hg9))
    exact bodyPost_ret (retRPs1 rfl rfl rfl rfl HZ.out) rfl ⟨_, by rw [HF.out, HG.out]; rfl, by rw [HF.out]; exact HRW.out, HB.out⟩
  | true =>
    rw [ht] at HTH
    obtain ⟨hlt, hi⟩ := thereB_lt ht
    obtain ⟨b, off, rfl, hb, hc⟩ := hcells (by omega)
    generalize i.toNat = k at *
    subst hi
    have HRG := Lib.hid (fun (W : World) (h : Below w.heap.size w W) => range_below (hc k hlt) hb h)
    have hat : atL l (k : Int) = l[k] := by unfold atL; rw [Int.toNat_natCast, List.getD_eq_getElem?_getD, List.getElem?_eq_getElem hlt]; rfl
    have hup : ∀ f, updL l (k : Int) f = l.set k (f l[k]) := fun f => by unfold updL; rw [Int.toNat_natCast, List.getD_eq_getElem?_getD, List.getElem?_eq_getElem hlt]; rfl
    have q4 : (0 : Int) ≤ (k : Int) := by omega
    have q5 : (k : Int) < (l.length : Int) := by omega
    clear hc hv hcells
    have hc13 := (HRG.out w (Below.refl _ _)) 13 _ rfl
    have hc11 := (HRG.out w (Below.refl _ _)) 11 _ rfl
    have hc12 := (HRG.out w (Below.refl _ _)) 12 _ rfl
    by_cases h1 : l[k].se = 1
    · by_cases h2 : l[k].no = nonce
      · by_cases h3 : l[k].be ≤ now
        · skip
          have HF : Hid (R = ⟨l.set k (ackF now l[k]), pr, 0⟩) := Lib.hid (by rw [← HRR.out]; simp [ackP, ackB, ht, hat, hup, ansB, h1, h2, h3])
          have HG : Hid (rb = true) := Lib.hid (by rw [← HRB.out]; simp [ackB, ht, hat, ansB, h1, h2, h3])
          clear HRR HRB ht
          generalize hx9 : l[k] = x9 at *
          clear hx9 hat hup
          obtain ⟨ad, st, er, tm, wn, no, be, se⟩ := x9
          dsimp only at h1 h2 h3
          subst h1
          subst h2
          obtain ⟨D, hD⟩ : ∃ D, wrap64 (now - be) = D := ⟨_, rfl⟩
          have HM := Lib.hid (fun W => rsample_any tm D W)
          have HY := Lib.hid (show ackF now (⟨ad, st, er, tm, wn, no, be, 1⟩ : Pa) = heardF ⟨ad, upSt st, er, sampleT tm D, wn, no, be, 0⟩ by rw [← hD]; rfl)
          generalize sampleT tm D = tm9 at *
          generalize ackF now (⟨ad, st, er, tm, wn, no, be, 1⟩ : Pa) = y9 at *
          by_cases h9 : st = 1
          · subst h9
            rw [show upSt 1 = 2 from rfl] at HY
            have HGD := Lib.hid (fun (W : World) (v : Value) (h : RowP W v (l.set k (⟨ad, 2, er, tm9, wn, no, be, 0⟩ : Pa))) => show Calls Try.prog 25 #[.agg #[v, .int .i64 pr, .int .i64 al], .int .i64 (k : Int)] W (fun e w' => ∃ v', e = .returned (.agg #[v', .int .i64 pr, .int .i64 0]) ∧ RowP w' v' (l.set k (heardF ⟨ad, 2, er, tm9, wn, no, be, 0⟩)) ∧ Below W.heap.size W w' ∧ Fresh W.heap.size v') from by
              have h1 : thereB (l.set k (⟨ad, 2, er, tm9, wn, no, be, 0⟩ : Pa)).length (k : Int) = true := thereB_nat (by rw [List.length_set]; exact hlt)
              have h2 : goodP ⟨l.set k (⟨ad, 2, er, tm9, wn, no, be, 0⟩ : Pa), pr, al⟩ (k : Int) = ⟨l.set k (heardF ⟨ad, 2, er, tm9, wn, no, be, 0⟩), pr, 0⟩ := by
                simp only [goodP, h1, if_true, updL, Int.toNat_natCast, List.getD_eq_getElem?_getD, List.getElem?_set_self hlt, Option.getD_some, List.set_set]
              have h3 := rgoodP_any (l.set k (⟨ad, 2, er, tm9, wn, no, be, 0⟩ : Pa)) (by rw [List.length_set]; exact hl) v pr al (k : Int) W h
              rw [h2] at h3
              exact h3.mono fun e w' ⟨v', he, hr, hb, hf⟩ => ⟨v', he, hr, hb, hf h1⟩)
            go_enter Try.func17, Try.ntmps17
            go_wp2_with (first
    | (go_at_call 42; (with_reducible refine (HTH.out _).mono ?_); rintro e w1 ⟨rfl, hb1⟩; replace HA := Lib.hid (HA.out.later hb1); replace HZ := Lib.hid (HZ.out.later hb1); replace HB := Lib.hid (HB.out.trans (hb1.mono (by omega))); have c13 := (HB.out.cell (p := ⟨b, off + k * 14 + 13, none⟩) hb).trans hc13; have c11 := (HB.out.cell (p := ⟨b, off + k * 14 + 11, none⟩) hb).trans hc11; have c12 := (HB.out.cell (p := ⟨b, off + k * 14 + 12, none⟩) hb).trans hc12; have c0 := HA.out.cell 0 (.slice (some ⟨b, off, none⟩) l.length cap) rfl; obtain ⟨W3, hW3, HX0, HB3, hs3⟩ := one_open w1 76 #[.string ⟨#[]⟩, .int .i64 0, .int .i64 0, .int .i64 0, .int .i64 0, .int .i64 0, .int .i64 0, .bool false, .int .i64 0, .int .i64 0, .int .i64 0, .int .u32 0, .int .i64 0, .int .i64 0]; have hwA : w.heap.size ≠ w1.heap.size := Nat.ne_of_lt HA.out.lt; have hwZ : w.heap.size + 1 ≠ w1.heap.size := Nat.ne_of_lt HZ.out.lt; have hwC : w.heap.size ≤ w1.heap.size := HB.out.size; have hwB : w.heap.size ≤ W3.heap.size := (by omega); clear hb1)
    | (go_at_call 43; (with_reducible refine (HM.out _).mono ?_); rintro e w5 ⟨rfl, hb1⟩; replace HA := Lib.hid (HA.out.later hb1); replace HZ := Lib.hid (HZ.out.later hb1); replace HP := Lib.hid (HP.out.later hb1); replace HB := Lib.hid (HB.out.trans (hb1.mono HB.out.size)); clear hb1)
    | (go_at_call 25; have hz7 := HZ.out.lt; (with_reducible refine (HGD.out _ _ HR6.out).mono ?_); rintro e w8 ⟨v8, rfl, hr8, hb1, hf8⟩; replace HA := Lib.hid (HA.out.later hb1); replace HZ := Lib.hid (HZ.out.later hb1); clear HR6 HF6 HO6; have HR6 := Lib.hid hr8; have HF6 : Hid (Fresh (w.heap.size + 2) v8) := Lib.hid (hf8.less hz7); have HO6 := Lib.hid (rowP_one hr8); replace HB := Lib.hid (HB.out.trans (hb1.mono HB.out.size)); clear hb1 hr8 hf8 hz7)
    | (go_at_call 44; have hz6 := HZ.out.lt; (with_reducible refine (rwith_any l hl _ pr al k hlt ⟨ad, 2, er, tm9, wn, no, be, 0⟩ _ (HV.out _ HB.out)).mono ?_); rintro e w6 ⟨v6, rfl, hr6, hb1, hf6⟩; replace HA := Lib.hid (HA.out.later hb1); replace HZ := Lib.hid (HZ.out.later hb1); have HR6 := Lib.hid hr6; have HF6 : Hid (Fresh (w.heap.size + 2) v6) := Lib.hid (hf6.less hz6); have HO6 := Lib.hid (rowP_one hr6); replace HB := Lib.hid (HB.out.trans (hb1.mono HB.out.size)); clear hb1 hr6 hf6 hz6 HP)
    | ((with_reducible refine gate9 ?_); refine ldR (ty := 76) (cs := cellsPa (⟨ad, 1, er, tm, wn, no, be, 1⟩ : Pa)) rfl rfl rfl (HRG.out _ HB.out) Try.underlying76 rfl infoRPa ?_)
    | ((with_reducible refine gate9 ?_); refine stB (ty := 76) (cellsPa (⟨ad, 1, er, tm, wn, no, be, 1⟩ : Pa)) rfl rfl rfl rfl HX0.out infoRPa rfl (cellsPa_one _) ?_; intro w4 ht hg; clear c0; replace HA := Lib.hid ((HA.out.later HB3.out).kept hg hwA); replace HZ := Lib.hid ((HZ.out.later HB3.out).kept hg hwZ); replace HB := Lib.hid (below_of_grown1 (HB.out.trans (HB3.out.mono HB.out.size)) hg hwB hwC); have HP := Lib.hid (Pin.first (o := 0) ht (pa_part (⟨ad, 1, er, tm, wn, no, be, 1⟩ : Pa))); clear ht hg HX0 HB3 hW3; clear c11 c12 c13; have cb : World.cell? _ ⟨w1.heap.size, 12, none⟩ = some (.int .i64 be) := HP.out.cell 12 _ rfl)
    | ((with_reducible refine gate9 ?_); refine ldPp (ty := 71) (o := 0) 3 (cellsT tm) rfl rfl rfl HP.out (tm_part (⟨ad, 1, er, tm, wn, no, be, 1⟩ : Pa)) Try.underlying71 rfl infoRTm ?_)
    | ((with_reducible refine gate9 ?_); refine stPp (ty := 71) (xs' := cellsPa (⟨ad, 1, er, tm9, wn, no, be, 1⟩ : Pa)) (o := 0) 3 (cellsT tm9) rfl rfl rfl rfl HP.out (by show 3 + 5 ≤ 14; decide) infoRTm (cellsT_one _) rfl ?_; intro w4 ht hg; replace HA := Lib.hid (HA.out.kept hg hwA); replace HZ := Lib.hid (HZ.out.kept hg hwZ); replace HB := Lib.hid (below_of_grown1 HB.out hg HB.out.size hwC); replace HP := Lib.hid ht; clear ht hg; clear cb)
    | ((with_reducible refine gate9 ?_); refine stPf (ty := 3) (xs' := cellsPa (⟨ad, 1, er, tm9, wn, no, be, 0⟩ : Pa)) (o := 0) 13 (.int .i64 0) rfl rfl rfl rfl HP.out (by show 13 < 14; decide) infoI rfl rfl ?_; intro w4 ht hg; replace HA := Lib.hid (HA.out.kept hg hwA); replace HZ := Lib.hid (HZ.out.kept hg hwZ); replace HB := Lib.hid (below_of_grown1 HB.out hg HB.out.size hwC); replace HP := Lib.hid ht; clear ht hg; have c1 : World.cell? _ ⟨w1.heap.size, 1, none⟩ = some (.int .i64 1) := HP.out.cell 1 _ rfl)
    | ((with_reducible refine gate9 ?_); refine stPf (ty := 3) (xs' := cellsPa (⟨ad, 2, er, tm9, wn, no, be, 0⟩ : Pa)) (o := 0) 1 (.int .i64 2) rfl rfl rfl rfl HP.out (by show 1 < 14; decide) infoI rfl rfl ?_; intro w4 ht hg; replace HA := Lib.hid (HA.out.kept hg hwA); replace HZ := Lib.hid (HZ.out.kept hg hwZ); replace HB := Lib.hid (below_of_grown1 HB.out hg HB.out.size hwC); replace HP := Lib.hid ht; clear ht hg; clear c1)
    | ((with_reducible refine gate9 ?_); refine ldPp (ty := 76) (o := 0) 0 (cellsPa (⟨ad, 2, er, tm9, wn, no, be, 0⟩ : Pa)) rfl rfl rfl HP.out (pa_part (⟨ad, 2, er, tm9, wn, no, be, 0⟩ : Pa)) Try.underlying76 rfl infoRPa ?_)
    | ((with_reducible refine gate9 ?_); refine ldB (ty := 33) rfl rfl rfl HA.out Try.underlying33 rfl infoRPs ?_)
    | ((with_reducible refine gate9 ?_); refine stB (ty := 33) #[v8, .int .i64 pr, .int .i64 0] rfl rfl rfl rfl HZ.out infoRPs rfl (cells3v HO6.out _ _) ?_; intro w9 ht9 hg9; have HRW := Lib.hid (HR6.out.stays HF6.out hg9 (by omega)); replace HB := Lib.hid (below_of_grown1 HB.out hg9 HB.out.size (by omega)); replace HZ := Lib.hid ht9; clear ht9 hg9))
            exact bodyPost_ret (retRPs1 rfl rfl rfl rfl HZ.out) rfl ⟨_, by rw [HF.out, HG.out]; rfl, by rw [HF.out, HY.out]; exact HRW.out, HB.out⟩
          · rw [show upSt st = st from if_neg h9] at HY
            have HGD := Lib.hid (fun (W : World) (v : Value) (h : RowP W v (l.set k (⟨ad, st, er, tm9, wn, no, be, 0⟩ : Pa))) => show Calls Try.prog 25 #[.agg #[v, .int .i64 pr, .int .i64 al], .int .i64 (k : Int)] W (fun e w' => ∃ v', e = .returned (.agg #[v', .int .i64 pr, .int .i64 0]) ∧ RowP w' v' (l.set k (heardF ⟨ad, st, er, tm9, wn, no, be, 0⟩)) ∧ Below W.heap.size W w' ∧ Fresh W.heap.size v') from by
              have h1 : thereB (l.set k (⟨ad, st, er, tm9, wn, no, be, 0⟩ : Pa)).length (k : Int) = true := thereB_nat (by rw [List.length_set]; exact hlt)
              have h2 : goodP ⟨l.set k (⟨ad, st, er, tm9, wn, no, be, 0⟩ : Pa), pr, al⟩ (k : Int) = ⟨l.set k (heardF ⟨ad, st, er, tm9, wn, no, be, 0⟩), pr, 0⟩ := by
                simp only [goodP, h1, if_true, updL, Int.toNat_natCast, List.getD_eq_getElem?_getD, List.getElem?_set_self hlt, Option.getD_some, List.set_set]
              have h3 := rgoodP_any (l.set k (⟨ad, st, er, tm9, wn, no, be, 0⟩ : Pa)) (by rw [List.length_set]; exact hl) v pr al (k : Int) W h
              rw [h2] at h3
              exact h3.mono fun e w' ⟨v', he, hr, hb, hf⟩ => ⟨v', he, hr, hb, hf h1⟩)
            go_enter Try.func17, Try.ntmps17
            go_wp2_with (first
    | (go_at_call 42; (with_reducible refine (HTH.out _).mono ?_); rintro e w1 ⟨rfl, hb1⟩; replace HA := Lib.hid (HA.out.later hb1); replace HZ := Lib.hid (HZ.out.later hb1); replace HB := Lib.hid (HB.out.trans (hb1.mono (by omega))); have c13 := (HB.out.cell (p := ⟨b, off + k * 14 + 13, none⟩) hb).trans hc13; have c11 := (HB.out.cell (p := ⟨b, off + k * 14 + 11, none⟩) hb).trans hc11; have c12 := (HB.out.cell (p := ⟨b, off + k * 14 + 12, none⟩) hb).trans hc12; have c0 := HA.out.cell 0 (.slice (some ⟨b, off, none⟩) l.length cap) rfl; obtain ⟨W3, hW3, HX0, HB3, hs3⟩ := one_open w1 76 #[.string ⟨#[]⟩, .int .i64 0, .int .i64 0, .int .i64 0, .int .i64 0, .int .i64 0, .int .i64 0, .bool false, .int .i64 0, .int .i64 0, .int .i64 0, .int .u32 0, .int .i64 0, .int .i64 0]; have hwA : w.heap.size ≠ w1.heap.size := Nat.ne_of_lt HA.out.lt; have hwZ : w.heap.size + 1 ≠ w1.heap.size := Nat.ne_of_lt HZ.out.lt; have hwC : w.heap.size ≤ w1.heap.size := HB.out.size; have hwB : w.heap.size ≤ W3.heap.size := (by omega); clear hb1)
    | (go_at_call 43; (with_reducible refine (HM.out _).mono ?_); rintro e w5 ⟨rfl, hb1⟩; replace HA := Lib.hid (HA.out.later hb1); replace HZ := Lib.hid (HZ.out.later hb1); replace HP := Lib.hid (HP.out.later hb1); replace HB := Lib.hid (HB.out.trans (hb1.mono HB.out.size)); clear hb1)
    | (go_at_call 25; have hz7 := HZ.out.lt; (with_reducible refine (HGD.out _ _ HR6.out).mono ?_); rintro e w8 ⟨v8, rfl, hr8, hb1, hf8⟩; replace HA := Lib.hid (HA.out.later hb1); replace HZ := Lib.hid (HZ.out.later hb1); clear HR6 HF6 HO6; have HR6 := Lib.hid hr8; have HF6 : Hid (Fresh (w.heap.size + 2) v8) := Lib.hid (hf8.less hz7); have HO6 := Lib.hid (rowP_one hr8); replace HB := Lib.hid (HB.out.trans (hb1.mono HB.out.size)); clear hb1 hr8 hf8 hz7)
    | (go_at_call 44; have hz6 := HZ.out.lt; (with_reducible refine (rwith_any l hl _ pr al k hlt ⟨ad, st, er, tm9, wn, no, be, 0⟩ _ (HV.out _ HB.out)).mono ?_); rintro e w6 ⟨v6, rfl, hr6, hb1, hf6⟩; replace HA := Lib.hid (HA.out.later hb1); replace HZ := Lib.hid (HZ.out.later hb1); have HR6 := Lib.hid hr6; have HF6 : Hid (Fresh (w.heap.size + 2) v6) := Lib.hid (hf6.less hz6); have HO6 := Lib.hid (rowP_one hr6); replace HB := Lib.hid (HB.out.trans (hb1.mono HB.out.size)); clear hb1 hr6 hf6 hz6 HP)
    | ((with_reducible refine gate9 ?_); refine ldR (ty := 76) (cs := cellsPa (⟨ad, st, er, tm, wn, no, be, 1⟩ : Pa)) rfl rfl rfl (HRG.out _ HB.out) Try.underlying76 rfl infoRPa ?_)
    | ((with_reducible refine gate9 ?_); refine stB (ty := 76) (cellsPa (⟨ad, st, er, tm, wn, no, be, 1⟩ : Pa)) rfl rfl rfl rfl HX0.out infoRPa rfl (cellsPa_one _) ?_; intro w4 ht hg; clear c0; replace HA := Lib.hid ((HA.out.later HB3.out).kept hg hwA); replace HZ := Lib.hid ((HZ.out.later HB3.out).kept hg hwZ); replace HB := Lib.hid (below_of_grown1 (HB.out.trans (HB3.out.mono HB.out.size)) hg hwB hwC); have HP := Lib.hid (Pin.first (o := 0) ht (pa_part (⟨ad, st, er, tm, wn, no, be, 1⟩ : Pa))); clear ht hg HX0 HB3 hW3; clear c11 c12 c13; have cb : World.cell? _ ⟨w1.heap.size, 12, none⟩ = some (.int .i64 be) := HP.out.cell 12 _ rfl)
    | ((with_reducible refine gate9 ?_); refine ldPp (ty := 71) (o := 0) 3 (cellsT tm) rfl rfl rfl HP.out (tm_part (⟨ad, st, er, tm, wn, no, be, 1⟩ : Pa)) Try.underlying71 rfl infoRTm ?_)
    | ((with_reducible refine gate9 ?_); refine stPp (ty := 71) (xs' := cellsPa (⟨ad, st, er, tm9, wn, no, be, 1⟩ : Pa)) (o := 0) 3 (cellsT tm9) rfl rfl rfl rfl HP.out (by show 3 + 5 ≤ 14; decide) infoRTm (cellsT_one _) rfl ?_; intro w4 ht hg; replace HA := Lib.hid (HA.out.kept hg hwA); replace HZ := Lib.hid (HZ.out.kept hg hwZ); replace HB := Lib.hid (below_of_grown1 HB.out hg HB.out.size hwC); replace HP := Lib.hid ht; clear ht hg; clear cb)
    | ((with_reducible refine gate9 ?_); refine stPf (ty := 3) (xs' := cellsPa (⟨ad, st, er, tm9, wn, no, be, 0⟩ : Pa)) (o := 0) 13 (.int .i64 0) rfl rfl rfl rfl HP.out (by show 13 < 14; decide) infoI rfl rfl ?_; intro w4 ht hg; replace HA := Lib.hid (HA.out.kept hg hwA); replace HZ := Lib.hid (HZ.out.kept hg hwZ); replace HB := Lib.hid (below_of_grown1 HB.out hg HB.out.size hwC); replace HP := Lib.hid ht; clear ht hg; have c1 : World.cell? _ ⟨w1.heap.size, 1, none⟩ = some (.int .i64 st) := HP.out.cell 1 _ rfl)
    | ((with_reducible refine gate9 ?_); refine ldPp (ty := 76) (o := 0) 0 (cellsPa (⟨ad, st, er, tm9, wn, no, be, 0⟩ : Pa)) rfl rfl rfl HP.out (pa_part (⟨ad, st, er, tm9, wn, no, be, 0⟩ : Pa)) Try.underlying76 rfl infoRPa ?_)
    | ((with_reducible refine gate9 ?_); refine ldB (ty := 33) rfl rfl rfl HA.out Try.underlying33 rfl infoRPs ?_)
    | ((with_reducible refine gate9 ?_); refine stB (ty := 33) #[v8, .int .i64 pr, .int .i64 0] rfl rfl rfl rfl HZ.out infoRPs rfl (cells3v HO6.out _ _) ?_; intro w9 ht9 hg9; have HRW := Lib.hid (HR6.out.stays HF6.out hg9 (by omega)); replace HB := Lib.hid (below_of_grown1 HB.out hg9 HB.out.size (by omega)); replace HZ := Lib.hid ht9; clear ht9 hg9))
            exact bodyPost_ret (retRPs1 rfl rfl rfl rfl HZ.out) rfl ⟨_, by rw [HF.out, HG.out]; rfl, by rw [HF.out, HY.out]; exact HRW.out, HB.out⟩
        · skip
          have HF : Hid (R = ⟨l, pr, al⟩) := Lib.hid (by rw [← HRR.out]; simp [ackP, ackB, ht, hat, ansB, h3])
          have HG : Hid (rb = false) := Lib.hid (by rw [← HRB.out]; simp [ackB, ht, hat, ansB, h3])
          clear HRR HRB hup hat HRG
          generalize l[k] = x9 at *
          go_enter Try.func17, Try.ntmps17
          go_wp2_with (first
    | (go_at_call 42; (with_reducible refine (HTH.out _).mono ?_); rintro e w1 ⟨rfl, hb1⟩; replace HA := Lib.hid (HA.out.later hb1); replace HZ := Lib.hid (HZ.out.later hb1); replace HB := Lib.hid (HB.out.trans (hb1.mono (by omega))); have c13 := (HB.out.cell (p := ⟨b, off + k * 14 + 13, none⟩) hb).trans hc13; have c11 := (HB.out.cell (p := ⟨b, off + k * 14 + 11, none⟩) hb).trans hc11; have c12 := (HB.out.cell (p := ⟨b, off + k * 14 + 12, none⟩) hb).trans hc12; have c0 := HA.out.cell 0 (.slice (some ⟨b, off, none⟩) l.length cap) rfl; clear hb1)
    | ((with_reducible refine gate9 ?_); refine ldB (ty := 33) rfl rfl rfl HA.out Try.underlying33 rfl infoRPs ?_)
    | ((with_reducible refine gate9 ?_); refine stB (ty := 33) #[.slice (some ⟨b, off, none⟩) l.length cap, .int .i64 pr, .int .i64 al] rfl rfl rfl rfl HZ.out infoRPs rfl (cells3_one _ _ _ _ _) ?_; intro w9 ht9 hg9; have HRW := Lib.hid (HV.out _ (below_of_grown1 HB.out hg9 HB.out.size (by omega))); replace HB := Lib.hid (below_of_grown1 HB.out hg9 HB.out.size (by omega)); replace HZ := Lib.hid ht9; clear ht9 hg9))
          exact bodyPost_ret (retRPs1 rfl rfl rfl rfl HZ.out) rfl ⟨_, by rw [HF.out, HG.out]; rfl, by rw [HF.out]; exact HRW.out, HB.out⟩
      · skip
        have HF : Hid (R = ⟨l, pr, al⟩) := Lib.hid (by rw [← HRR.out]; simp [ackP, ackB, ht, hat, ansB, h2])
        have HG : Hid (rb = false) := Lib.hid (by rw [← HRB.out]; simp [ackB, ht, hat, ansB, h2])
        clear HRR HRB hup hat HRG
        generalize l[k] = x9 at *
        go_enter Try.func17, Try.ntmps17
        go_wp2_with (first
    | (go_at_call 42; (with_reducible refine (HTH.out _).mono ?_); rintro e w1 ⟨rfl, hb1⟩; replace HA := Lib.hid (HA.out.later hb1); replace HZ := Lib.hid (HZ.out.later hb1); replace HB := Lib.hid (HB.out.trans (hb1.mono (by omega))); have c13 := (HB.out.cell (p := ⟨b, off + k * 14 + 13, none⟩) hb).trans hc13; have c11 := (HB.out.cell (p := ⟨b, off + k * 14 + 11, none⟩) hb).trans hc11; have c12 := (HB.out.cell (p := ⟨b, off + k * 14 + 12, none⟩) hb).trans hc12; have c0 := HA.out.cell 0 (.slice (some ⟨b, off, none⟩) l.length cap) rfl; clear hb1)
    | ((with_reducible refine gate9 ?_); refine ldB (ty := 33) rfl rfl rfl HA.out Try.underlying33 rfl infoRPs ?_)
    | ((with_reducible refine gate9 ?_); refine stB (ty := 33) #[.slice (some ⟨b, off, none⟩) l.length cap, .int .i64 pr, .int .i64 al] rfl rfl rfl rfl HZ.out infoRPs rfl (cells3_one _ _ _ _ _) ?_; intro w9 ht9 hg9; have HRW := Lib.hid (HV.out _ (below_of_grown1 HB.out hg9 HB.out.size (by omega))); replace HB := Lib.hid (below_of_grown1 HB.out hg9 HB.out.size (by omega)); replace HZ := Lib.hid ht9; clear ht9 hg9))
        exact bodyPost_ret (retRPs1 rfl rfl rfl rfl HZ.out) rfl ⟨_, by rw [HF.out, HG.out]; rfl, by rw [HF.out]; exact HRW.out, HB.out⟩
    · skip
      have HF : Hid (R = ⟨l, pr, al⟩) := Lib.hid (by rw [← HRR.out]; simp [ackP, ackB, ht, hat, ansB, h1])
      have HG : Hid (rb = false) := Lib.hid (by rw [← HRB.out]; simp [ackB, ht, hat, ansB, h1])
      clear HRR HRB hup hat HRG
      generalize l[k] = x9 at *
      go_enter Try.func17, Try.ntmps17
      go_wp2_with (first
    | (go_at_call 42; (with_reducible refine (HTH.out _).mono ?_); rintro e w1 ⟨rfl, hb1⟩; replace HA := Lib.hid (HA.out.later hb1); replace HZ := Lib.hid (HZ.out.later hb1); replace HB := Lib.hid (HB.out.trans (hb1.mono (by omega))); have c13 := (HB.out.cell (p := ⟨b, off + k * 14 + 13, none⟩) hb).trans hc13; have c11 := (HB.out.cell (p := ⟨b, off + k * 14 + 11, none⟩) hb).trans hc11; have c12 := (HB.out.cell (p := ⟨b, off + k * 14 + 12, none⟩) hb).trans hc12; have c0 := HA.out.cell 0 (.slice (some ⟨b, off, none⟩) l.length cap) rfl; clear hb1)
    | ((with_reducible refine gate9 ?_); refine ldB (ty := 33) rfl rfl rfl HA.out Try.underlying33 rfl infoRPs ?_)
    | ((with_reducible refine gate9 ?_); refine stB (ty := 33) #[.slice (some ⟨b, off, none⟩) l.length cap, .int .i64 pr, .int .i64 al] rfl rfl rfl rfl HZ.out infoRPs rfl (cells3_one _ _ _ _ _) ?_; intro w9 ht9 hg9; have HRW := Lib.hid (HV.out _ (below_of_grown1 HB.out hg9 HB.out.size (by omega))); replace HB := Lib.hid (below_of_grown1 HB.out hg9 HB.out.size (by omega)); replace HZ := Lib.hid ht9; clear ht9 hg9))
      exact bodyPost_ret (retRPs1 rfl rfl rfl rfl HZ.out) rfl ⟨_, by rw [HF.out, HG.out]; rfl, by rw [HF.out]; exact HRW.out, HB.out⟩
set_option maxHeartbeats 40000000 in
theorem rprim_any (l : List Pa) (hl : l.length ≤ 100000) (v : Value) (pr al i : Int) (w : World) (hv : RowP w v l) : Calls Try.prog 21 #[.agg #[v, .int .i64 pr, .int .i64 al], .int .i64 i] w fun e w' => ∃ v', e = .returned (.tuple #[.agg #[v', .int .i64 (primP ⟨l, pr, al⟩ i).pr, .int .i64 (primP ⟨l, pr, al⟩ i).al], .int .i64 (primE ⟨l, pr, al⟩ i)]) ∧ RowP w' v' (primP ⟨l, pr, al⟩ i).l ∧ Below w.heap.size w w' := by
  obtain ⟨R, hR⟩ : ∃ R, primP ⟨l, pr, al⟩ i = R := ⟨_, rfl⟩
  obtain ⟨rb, hrb⟩ : ∃ rb, primE ⟨l, pr, al⟩ i = rb := ⟨_, rfl⟩
  rw [hR, hrb]
  have HRR := Lib.hid hR
  have HRB := Lib.hid hrb
  clear hR hrb
  obtain ⟨A, cap, rfl, hcap, hmax, hcells⟩ := id hv
  obtain ⟨W1, hW1, HA, HZ, HB, hs1⟩ := two_open w 33 33 #[.slice A l.length cap, .int .i64 pr, .int .i64 al] #[.slice none 0 0, .int .i64 0, .int .i64 0]
  have HV := Lib.hid (fun (W : World) (h : Below w.heap.size w W) => hv.below h)
  have HTH := Lib.hid (fun W => rthere_any A l.length cap pr al i (by unfold maxLen; omega) W)
  have hml : l.length ≤ maxLen := by unfold maxLen; omega
  cases ht : thereB l.length i with
  | false =>
    rw [ht] at HTH
    have HF : Hid (R = zeroPs) := Lib.hid (by rw [← HRR.out]; simp [primP, primE, ht])
    have HG : Hid (rb = 8) := Lib.hid (by rw [← HRB.out]; simp [primE, ht])
    clear hv hcells ht
    go_enter Try.func21, Try.ntmps21
    go_wp2_with (first
    | (go_at_call 42; (with_reducible refine (HTH.out _).mono ?_); rintro e w1 ⟨rfl, hb1⟩; replace HA := Lib.hid (HA.out.later hb1); replace HZ := Lib.hid (HZ.out.later hb1); replace HB := Lib.hid (HB.out.trans (hb1.mono (by omega))); clear hb1)
    | ((with_reducible refine gate9 ?_); refine ldB (ty := 33) rfl rfl rfl HA.out Try.underlying33 rfl infoRPs ?_)
    | ((with_reducible refine gate9 ?_); refine stB (ty := 33) #[.slice none 0 0, .int .i64 0, .int .i64 0] rfl rfl rfl rfl HZ.out infoRPs rfl (cells3_one _ _ _ _ _) ?_; intro w9 ht9 hg9; have HRW := Lib.hid (RowP.nil w9); replace HB := Lib.hid (below_of_grown1 HB.out hg9 HB.out.size (by omega)); replace HZ := Lib.hid ht9; clear ht9 hg9))
    exact bodyPost_ret (retRPs1 rfl rfl rfl rfl HZ.out) rfl ⟨_, by rw [HF.out, HG.out]; rfl, by rw [HF.out]; exact HRW.out, HB.out⟩
  | true =>
    rw [ht] at HTH
    obtain ⟨hlt, hi⟩ := thereB_lt ht
    obtain ⟨b, off, rfl, hb, hc⟩ := hcells (by omega)
    generalize i.toNat = k at *
    subst hi
    have HRG := Lib.hid (fun (W : World) (h : Below w.heap.size w W) => range_below (hc k hlt) hb h)
    have hat : atL l (k : Int) = l[k] := by unfold atL; rw [Int.toNat_natCast, List.getD_eq_getElem?_getD, List.getElem?_eq_getElem hlt]; rfl
    have hup : ∀ f, updL l (k : Int) f = l.set k (f l[k]) := fun f => by unfold updL; rw [Int.toNat_natCast, List.getD_eq_getElem?_getD, List.getElem?_eq_getElem hlt]; rfl
    have q4 : (0 : Int) ≤ (k : Int) := by omega
    have q5 : (k : Int) < (l.length : Int) := by omega
    clear hc hv hcells
    have hc1 := (HRG.out w (Below.refl _ _)) 1 _ rfl
    by_cases h1 : l[k].st = 1
    · have HF : Hid (R = zeroPs) := Lib.hid (by rw [← HRR.out]; simp [primP, primE, ht, hat, h1])
      have HG : Hid (rb = 11) := Lib.hid (by rw [← HRB.out]; simp [primE, ht, hat, h1])
      clear HRR HRB hup hat HRG ht
      generalize l[k] = x9 at *
      go_enter Try.func21, Try.ntmps21
      go_wp2_with (first
    | (go_at_call 42; (with_reducible refine (HTH.out _).mono ?_); rintro e w1 ⟨rfl, hb1⟩; replace HA := Lib.hid (HA.out.later hb1); replace HZ := Lib.hid (HZ.out.later hb1); replace HB := Lib.hid (HB.out.trans (hb1.mono (by omega))); have c0 := HA.out.cell 0 (.slice (some ⟨b, off, none⟩) l.length cap) rfl; have c1 := (HB.out.cell (p := ⟨b, off + k * 14 + 1, none⟩) hb).trans hc1; clear hb1)
    | ((with_reducible refine gate9 ?_); refine ldB (ty := 33) rfl rfl rfl HA.out Try.underlying33 rfl infoRPs ?_)
    | ((with_reducible refine gate9 ?_); refine stB (ty := 33) #[.slice none 0 0, .int .i64 0, .int .i64 0] rfl rfl rfl rfl HZ.out infoRPs rfl (cells3_one _ _ _ _ _) ?_; intro w9 ht9 hg9; have HRW := Lib.hid (RowP.nil w9); replace HB := Lib.hid (below_of_grown1 HB.out hg9 HB.out.size (by omega)); replace HZ := Lib.hid ht9; clear ht9 hg9))
      exact bodyPost_ret (retRPs1 rfl rfl rfl rfl HZ.out) rfl ⟨_, by rw [HF.out, HG.out]; rfl, by rw [HF.out]; exact HRW.out, HB.out⟩
    · have HF : Hid (R = ⟨l, (k : Int), al⟩) := Lib.hid (by rw [← HRR.out]; simp [primP, primE, ht, hat, h1])
      have HG : Hid (rb = 0) := Lib.hid (by rw [← HRB.out]; simp [primE, ht, hat, h1])
      clear HRR HRB hup hat HRG ht
      generalize l[k] = x9 at *
      go_enter Try.func21, Try.ntmps21
      go_wp2_with (first
    | (go_at_call 42; (with_reducible refine (HTH.out _).mono ?_); rintro e w1 ⟨rfl, hb1⟩; replace HA := Lib.hid (HA.out.later hb1); replace HZ := Lib.hid (HZ.out.later hb1); replace HB := Lib.hid (HB.out.trans (hb1.mono (by omega))); have c0 := HA.out.cell 0 (.slice (some ⟨b, off, none⟩) l.length cap) rfl; have c1 := (HB.out.cell (p := ⟨b, off + k * 14 + 1, none⟩) hb).trans hc1; clear hb1)
    | ((with_reducible refine gate9 ?_); refine stF (.int .i64 (k : Int)) rfl rfl rfl rfl HA.out (by show 1 < 3; decide) infoI rfl ?_; intro w7 ht7 hg7; clear c0 c1; replace HZ := Lib.hid (HZ.out.kept hg7 (by omega)); replace HB := Lib.hid (below_of_grown1 HB.out hg7 HB.out.size (Nat.le_refl _)); replace HA : Hid (Bx w7 w.heap.size 33 #[.slice (some ⟨b, off, none⟩) l.length cap, .int .i64 (k : Int), .int .i64 al]) := Lib.hid ht7; clear ht7 hg7)
    | ((with_reducible refine gate9 ?_); refine ldB (ty := 33) rfl rfl rfl HA.out Try.underlying33 rfl infoRPs ?_)
    | ((with_reducible refine gate9 ?_); refine stB (ty := 33) #[.slice (some ⟨b, off, none⟩) l.length cap, .int .i64 (k : Int), .int .i64 al] rfl rfl rfl rfl HZ.out infoRPs rfl (cells3_one _ _ _ _ _) ?_; intro w9 ht9 hg9; have HRW := Lib.hid (HV.out _ (below_of_grown1 HB.out hg9 HB.out.size (by omega))); replace HB := Lib.hid (below_of_grown1 HB.out hg9 HB.out.size (by omega)); replace HZ := Lib.hid ht9; clear ht9 hg9))
      exact bodyPost_ret (retRPs1 rfl rfl rfl rfl HZ.out) rfl ⟨_, by rw [HF.out, HG.out]; rfl, by rw [HF.out]; exact HRW.out, HB.out⟩
end Go.Proofs.Yteiifkooegpdaaa
