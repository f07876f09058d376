/-
  Package path: Beat, Ack, Fail, Good, SetPrimary: contracts.
-/
import Derived.Test.YtpihgnpbaaagpaaPaE
namespace Go.Proofs.Ytpihgnpbaaagpaa
open Go.RowKit
set_option linter.unusedVariables false
set_option linter.unusedSimpArgs false
set_option maxRecDepth 100000

set_option maxHeartbeats 4000000 in
theorem beat_any (l : List Pa) (hl : l.length ≤ 100000) (v : Value) (pr al i nonce now : Int) (w : World) (hv : RowP w v l) : Calls Try.prog 22 #[.agg #[v, .int .i64 pr, .int .i64 al], .int .i64 i, .int .u32 nonce, .int .i64 now] w fun e w' => ∃ v', e = .returned (.agg #[v', .int .i64 (beatP ⟨l, pr, al⟩ i nonce now).pr, .int .i64 (beatP ⟨l, pr, al⟩ i nonce now).al]) ∧ RowP w' v' (beatP ⟨l, pr, al⟩ i nonce now).l ∧ Below w.heap.size w w' ∧ Fresh w.heap.size v' := by
  obtain ⟨R, hR⟩ : ∃ R, beatP ⟨l, pr, al⟩ i nonce now = R := ⟨_, rfl⟩
  skip
  rw [hR]
  have HRR := Lib.hid hR
  skip
  clear hR 
  have HC := Lib.hid (fun W h => copied_any l hl v pr al W h)
  obtain ⟨A, cap, rfl, hcap, hmax, _⟩ := id hv
  obtain ⟨W1, hW1, HA1, HX0, HX1, HZ1, HB1, hs1⟩ := four_open w 27 41 3 27 #[.slice A l.length cap, .int .i64 pr, .int .i64 al] (#[.int .u32 nonce]) (#[.int .i64 now]) #[.slice none 0 0, .int .i64 0, .int .i64 0]
  have HR := Lib.hid (hv.below HB1.out)
  clear hv
  go_enter Try.func22, Try.ntmps22
  go_wp2_with ((with_reducible refine gate9 ?_); refine ldB rfl rfl rfl HA1.out Try.underlying27 rfl infoPs ?_)
  refine (HC.out _ HR.out).mono ?_
  rintro e w2 ⟨v1, rfl, hown, hb⟩
  have hws := hb.size
  have hml : l.length ≤ maxLen := by unfold maxLen; omega
  clear HC HR hW1
  obtain ⟨W3, hW3, HQ, HB2, hs3⟩ := one_open w2 27 #[.slice none 0 0, .int .i64 0, .int .i64 0]
  cases ht : thereB l.length i with
  | false =>
    have HF : Hid (R = ⟨l, pr, al⟩) := Lib.hid (by rw [← HRR.out]; simp [beatP, ht])
    skip
    clear HRR 
    obtain ⟨A1, cap1, rfl, _, hc1⟩ := own_form2 hown
    have HO := Lib.hid hown
    have HFR := Lib.hid ((fresh_own hown).less (show w.heap.size ≤ W1.heap.size by omega))
    have HB0 := Lib.hid hb
    have HCN := Lib.hid (fun (f : Value) (W : World) => chg_not f A1 l.length cap1 pr al i hml ht W)
    clear hown hb ht
    have hlt : w2.heap.size < w2.heap.size + 1 := by omega
    go_wp2_with (first
    | (go_at_call 37; (with_reducible refine (HCN.out _ _).mono ?_); rintro e w5 ⟨rfl, hb⟩; replace HQ := Lib.hid (HQ.out.later hb); replace HB2 := Lib.hid (HB2.out.trans (hb.mono HB2.out.size)); clear hb; have HZ := Lib.hid ((HZ1.out.later HB0.out).later HB2.out); have HO2 := Lib.hid (ownP_below HO.out HB2.out); have HB := Lib.hid ((HB1.out.trans (HB0.out.mono (by omega))).trans (HB2.out.mono (by omega))))
    | ((with_reducible refine gate9 ?_); refine stB #[.slice A1 l.length cap1, .int .i64 pr, .int .i64 al] rfl rfl rfl rfl HQ.out infoPs rfl (cells3_one _ _ _ _ _) ?_; intro w4 ht hg; replace HB2 := Lib.hid (below_of_grown1 HB2.out hg HB2.out.size (Nat.le_refl _)); replace HQ := Lib.hid ht; clear ht hg)
    | ((with_reducible refine gate9 ?_); refine ldB rfl rfl rfl HQ.out Try.underlying27 rfl infoPs ?_)
    | ((with_reducible refine gate9 ?_); refine stB #[.slice A1 l.length cap1, .int .i64 pr, .int .i64 al] rfl rfl rfl rfl HZ.out infoPs rfl (cells3_one _ _ _ _ _) ?_; intro w9 ht9 hg9; replace HB := Lib.hid (below_of_grown1 HB.out hg9 HB.out.size (by omega)); have HRW := Lib.hid (rowP_of_own (ownP_keep HO2.out hg9 (show w.heap.size + 1 + 1 + 1 < W1.heap.size by omega))); replace HZ := Lib.hid ht9; clear ht9 hg9))
    exact bodyPost_ret (retPs rfl rfl rfl HZ.out) rfl ⟨_, by rw [HF.out], by rw [HF.out]; exact HRW.out, HB.out, HFR.out⟩
  | true =>
    obtain ⟨hlt, hi⟩ := thereB_lt ht
    generalize i.toNat = k at *
    subst hi
    obtain ⟨g, cap1, cur, rfl, hgB, hbx, hnc, hcm, hcur⟩ := own_bx hown (by omega)
    have hgl := hbx.lt
    have HFR : Hid (Fresh w.heap.size (.slice (some ⟨g, 0, none⟩) l.length cap1)) := Lib.hid (fresh_some (by omega))
    have hp0 := pinRow hbx rfl hlt hcur
    have hat : atL l (k : Int) = l[k] := by unfold atL; rw [Int.toNat_natCast, List.getD_eq_getElem?_getD, List.getElem?_eq_getElem hlt]; rfl
    have hup : ∀ f, updL l (k : Int) f = l.set k (f l[k]) := fun f => by unfold updL; rw [Int.toNat_natCast, List.getD_eq_getElem?_getD, List.getElem?_eq_getElem hlt]; rfl
    have hq9 : g ≠ w2.heap.size := by omega
    have hq8 : g ≠ w2.heap.size + 1 := by omega
    have hq7 : g ≠ w.heap.size + 1 + 1 + 1 := by omega
    have HF : Hid (R = ⟨l.set k (beatF nonce now l[k]), pr, al⟩) := Lib.hid (by rw [← HRR.out]; simp [beatP, ht, hup])
    skip
    clear HRR 
    have HO := Lib.hid hp0
    have HB0 := Lib.hid hb
    have HCUR := Lib.hid hcur
    have HCH := Lib.hid (fun (W : World) => chg_Beat g l.length cap1 k pr al hlt hml (.pointer (some ⟨w.heap.size + 1, 0, none⟩)) (.pointer (some ⟨w.heap.size + 1 + 1, 0, none⟩)) (fun W => Pin g 47 cur (k * 14) (cellsPa (l[k])) W ∧ Bx W w2.heap.size 27 #[.slice (some ⟨g, 0, none⟩) l.length cap1, .int .i64 pr, .int .i64 al] ∧ Below W1.heap.size W1 W) (fun W => Pin g 47 cur (k * 14) (cellsPa (beatF nonce now l[k])) W ∧ Bx W w2.heap.size 27 #[.slice (some ⟨g, 0, none⟩) l.length cap1, .int .i64 pr, .int .i64 al] ∧ Below W1.heap.size W1 W)
      (fun W W' h hb => ⟨h.1.later hb, h.2.1.later hb, h.2.2.trans (hb.mono h.2.2.size)⟩)
      (fun W h => (beat_fn l[k] nonce now g (w.heap.size + 1) (w.heap.size + 1 + 1) (k * 14) cur (by omega) (by omega) W h.1 (HX0.out.under h.2.2 (by omega)) (HX1.out.under h.2.2 (by omega))).mono fun e W' h9 => ⟨h9.1, h9.2.1, h.2.1.tw h9.2.2 (by simp; omega), below_tw h.2.2 h9.2.2 h.2.2.size (by simp; omega)⟩) W)
    clear hown hb ht hbx hp0 hup hat hcur
    go_wp2_with (first
    | (go_at_call 37; (with_reducible refine (HCH.out _ ⟨HO.out.later HB2.out, HQ.out, HB0.out.trans (HB2.out.mono hws)⟩).mono ?_); rintro e w5 ⟨rfl, h1, h2, h4⟩; clear HO HB2; have HP := Lib.hid h1; replace HQ := Lib.hid h2; have HZ := Lib.hid (HZ1.out.later h4); have HB := Lib.hid (HB1.out.trans (h4.mono (by omega))); clear h1 h2 h4)
    | ((with_reducible refine gate9 ?_); refine stB #[.slice (some ⟨g, 0, none⟩) l.length cap1, .int .i64 pr, .int .i64 al] rfl rfl rfl rfl HQ.out infoPs rfl (cells3_one _ _ _ _ _) ?_; intro w4 ht hg; replace HB2 := Lib.hid (below_of_grown1 HB2.out hg HB2.out.size (Nat.le_refl _)); replace HQ := Lib.hid ht; clear ht hg)
    | ((with_reducible refine gate9 ?_); refine ldB rfl rfl rfl HQ.out Try.underlying27 rfl infoPs ?_)
    | ((with_reducible refine gate9 ?_); refine stB #[.slice (some ⟨g, 0, none⟩) l.length cap1, .int .i64 pr, .int .i64 al] rfl rfl rfl rfl HZ.out infoPs rfl (cells3_one _ _ _ _ _) ?_; intro w9 ht9 hg9; replace HB := Lib.hid (below_of_grown1 HB.out hg9 HB.out.size (by omega)); have HRW := Lib.hid ((HP.out.kept hg9 hq7).row rfl hnc hcm HCUR.out hlt); replace HZ := Lib.hid ht9; clear ht9 hg9))
    exact bodyPost_ret (retPs rfl rfl rfl HZ.out) rfl ⟨_, by rw [HF.out], by rw [HF.out]; exact HRW.out, HB.out, HFR.out⟩
set_option maxHeartbeats 4000000 in
theorem good_path (l : List Pa) (hl : l.length ≤ 100000) (v : Value) (pr al i : Int) (w : World) (hv : RowP w v l) : Calls Try.prog 24 #[.agg #[v, .int .i64 pr, .int .i64 al], .int .i64 i] w fun e w' => ∃ v', e = .returned (.agg #[v', .int .i64 (goodP ⟨l, pr, al⟩ i).pr, .int .i64 (goodP ⟨l, pr, al⟩ i).al]) ∧ RowP w' v' (goodP ⟨l, pr, al⟩ i).l ∧ Below w.heap.size w w' ∧ Fresh w.heap.size v' := by
  obtain ⟨R, hR⟩ : ∃ R, goodP ⟨l, pr, al⟩ i = R := ⟨_, rfl⟩
  skip
  rw [hR]
  have HRR := Lib.hid hR
  skip
  clear hR 
  have HC := Lib.hid (fun W h => copied_any l hl v pr al W h)
  obtain ⟨A, cap, rfl, hcap, hmax, _⟩ := id hv
  obtain ⟨W1, hW1, HA1, HZ1, HB1, hs1⟩ := two_open w 27 27 #[.slice A l.length cap, .int .i64 pr, .int .i64 al] #[.slice none 0 0, .int .i64 0, .int .i64 0]
  have HR := Lib.hid (hv.below HB1.out)
  clear hv
  go_enter Try.func24, Try.ntmps24
  go_wp2_with ((with_reducible refine gate9 ?_); refine ldB rfl rfl rfl HA1.out Try.underlying27 rfl infoPs ?_)
  refine (HC.out _ HR.out).mono ?_
  rintro e w2 ⟨v1, rfl, hown, hb⟩
  have hws := hb.size
  have hml : l.length ≤ maxLen := by unfold maxLen; omega
  clear HC HR hW1
  obtain ⟨W3, hW3, HQ, HB2, hs3⟩ := one_open w2 27 #[.slice none 0 0, .int .i64 0, .int .i64 0]
  cases ht : thereB l.length i with
  | false =>
    have HF : Hid (R = ⟨l, pr, al⟩) := Lib.hid (by rw [← HRR.out]; simp [goodP, ht])
    skip
    clear HRR 
    obtain ⟨A1, cap1, rfl, _, hc1⟩ := own_form2 hown
    have HO := Lib.hid hown
    have HFR := Lib.hid ((fresh_own hown).less (show w.heap.size ≤ W1.heap.size by omega))
    have HB0 := Lib.hid hb
    have HCN := Lib.hid (fun (f : Value) (W : World) => chg_not f A1 l.length cap1 pr al i hml ht W)
    clear hown hb ht
    have hlt : w2.heap.size < w2.heap.size + 1 := by omega
    go_wp2_with (first
    | (go_at_call 37; (with_reducible refine (HCN.out _ _).mono ?_); rintro e w5 ⟨rfl, hb⟩; replace HQ := Lib.hid (HQ.out.later hb); replace HB2 := Lib.hid (HB2.out.trans (hb.mono HB2.out.size)); clear hb; have HZ := Lib.hid ((HZ1.out.later HB0.out).later HB2.out); have HO2 := Lib.hid (ownP_below HO.out HB2.out); have HB := Lib.hid ((HB1.out.trans (HB0.out.mono (by omega))).trans (HB2.out.mono (by omega))))
    | ((with_reducible refine gate9 ?_); refine stB #[.slice A1 l.length cap1, .int .i64 pr, .int .i64 al] rfl rfl rfl rfl HQ.out infoPs rfl (cells3_one _ _ _ _ _) ?_; intro w4 ht hg; replace HB2 := Lib.hid (below_of_grown1 HB2.out hg HB2.out.size (Nat.le_refl _)); replace HQ := Lib.hid ht; clear ht hg)
    | ((with_reducible refine gate9 ?_); refine ldB rfl rfl rfl HQ.out Try.underlying27 rfl infoPs ?_)
    | ((with_reducible refine gate9 ?_); refine stB #[.slice A1 l.length cap1, .int .i64 pr, .int .i64 al] rfl rfl rfl rfl HZ.out infoPs rfl (cells3_one _ _ _ _ _) ?_; intro w9 ht9 hg9; replace HB := Lib.hid (below_of_grown1 HB.out hg9 HB.out.size (by omega)); have HRW := Lib.hid (rowP_of_own (ownP_keep HO2.out hg9 (show w.heap.size + 1 < W1.heap.size by omega))); replace HZ := Lib.hid ht9; clear ht9 hg9))
    exact bodyPost_ret (retPs rfl rfl rfl HZ.out) rfl ⟨_, by rw [HF.out], by rw [HF.out]; exact HRW.out, HB.out, HFR.out⟩
  | true =>
    obtain ⟨hlt, hi⟩ := thereB_lt ht
    generalize i.toNat = k at *
    subst hi
    obtain ⟨g, cap1, cur, rfl, hgB, hbx, hnc, hcm, hcur⟩ := own_bx hown (by omega)
    have hgl := hbx.lt
    have HFR : Hid (Fresh w.heap.size (.slice (some ⟨g, 0, none⟩) l.length cap1)) := Lib.hid (fresh_some (by omega))
    have hp0 := pinRow hbx rfl hlt hcur
    have hat : atL l (k : Int) = l[k] := by unfold atL; rw [Int.toNat_natCast, List.getD_eq_getElem?_getD, List.getElem?_eq_getElem hlt]; rfl
    have hup : ∀ f, updL l (k : Int) f = l.set k (f l[k]) := fun f => by unfold updL; rw [Int.toNat_natCast, List.getD_eq_getElem?_getD, List.getElem?_eq_getElem hlt]; rfl
    have hq9 : g ≠ w2.heap.size := by omega
    have hq8 : g ≠ w2.heap.size + 1 := by omega
    have hq7 : g ≠ w.heap.size + 1 := by omega
    have HF : Hid (R = ⟨l.set k (heardF l[k]), pr, 0⟩) := Lib.hid (by rw [← HRR.out]; simp [goodP, ht, hup])
    skip
    clear HRR 
    have HO := Lib.hid hp0
    have HB0 := Lib.hid hb
    have HCUR := Lib.hid hcur
    have HCH := Lib.hid (fun (W : World) => chg_Good g l.length cap1 k pr al hlt hml (.pointer (some ⟨w2.heap.size, 0, none⟩)) (fun W => Pin g 47 cur (k * 14) (cellsPa (l[k])) W ∧ Bx W w2.heap.size 27 #[.slice (some ⟨g, 0, none⟩) l.length cap1, .int .i64 pr, .int .i64 al] ∧ Below W1.heap.size W1 W) (fun W => Pin g 47 cur (k * 14) (cellsPa (heardF l[k])) W ∧ Bx W w2.heap.size 27 #[.slice (some ⟨g, 0, none⟩) l.length cap1, .int .i64 pr, .int .i64 0] ∧ Below W1.heap.size W1 W)
      (fun W W' h hb => ⟨h.1.later hb, h.2.1.later hb, h.2.2.trans (hb.mono h.2.2.size)⟩)
      (fun W h => (good_fn l[k] _ pr al g w2.heap.size (k * 14) cur hq9 W h.1 h.2.1).mono fun e W' h9 => ⟨h9.1, h9.2.1, h9.2.2.1, below_tw h.2.2 h9.2.2.2 h.2.2.size (by simp; omega)⟩) W)
    clear hown hb ht hbx hp0 hup hat hcur
    go_wp2_with (first
    | (go_at_call 37; (with_reducible refine (HCH.out _ ⟨HO.out.later HB2.out, HQ.out, HB0.out.trans (HB2.out.mono hws)⟩).mono ?_); rintro e w5 ⟨rfl, h1, h2, h4⟩; clear HO HB2; have HP := Lib.hid h1; replace HQ := Lib.hid h2; have HZ := Lib.hid (HZ1.out.later h4); have HB := Lib.hid (HB1.out.trans (h4.mono (by omega))); clear h1 h2 h4)
    | ((with_reducible refine gate9 ?_); refine stB #[.slice (some ⟨g, 0, none⟩) l.length cap1, .int .i64 pr, .int .i64 al] rfl rfl rfl rfl HQ.out infoPs rfl (cells3_one _ _ _ _ _) ?_; intro w4 ht hg; replace HB2 := Lib.hid (below_of_grown1 HB2.out hg HB2.out.size (Nat.le_refl _)); replace HQ := Lib.hid ht; clear ht hg)
    | ((with_reducible refine gate9 ?_); refine ldB rfl rfl rfl HQ.out Try.underlying27 rfl infoPs ?_)
    | ((with_reducible refine gate9 ?_); refine stB #[.slice (some ⟨g, 0, none⟩) l.length cap1, .int .i64 pr, .int .i64 0] rfl rfl rfl rfl HZ.out infoPs rfl (cells3_one _ _ _ _ _) ?_; intro w9 ht9 hg9; replace HB := Lib.hid (below_of_grown1 HB.out hg9 HB.out.size (by omega)); have HRW := Lib.hid ((HP.out.kept hg9 hq7).row rfl hnc hcm HCUR.out hlt); replace HZ := Lib.hid ht9; clear ht9 hg9))
    exact bodyPost_ret (retPs rfl rfl rfl HZ.out) rfl ⟨_, by rw [HF.out], by rw [HF.out]; exact HRW.out, HB.out, HFR.out⟩
set_option maxHeartbeats 4000000 in
theorem ack_any (l : List Pa) (hl : l.length ≤ 100000) (v : Value) (pr al i nonce now : Int) (w : World) (hv : RowP w v l) : Calls Try.prog 16 #[.agg #[v, .int .i64 pr, .int .i64 al], .int .i64 i, .int .u32 nonce, .int .i64 now] w fun e w' => ∃ v', e = .returned (.tuple #[.agg #[v', .int .i64 (ackP ⟨l, pr, al⟩ i nonce now).pr, .int .i64 (ackP ⟨l, pr, al⟩ i nonce now).al], .bool (ackB ⟨l, pr, al⟩ i nonce now)]) ∧ RowP w' v' (ackP ⟨l, pr, al⟩ i nonce now).l ∧ Below w.heap.size w w' ∧ Fresh w.heap.size v' := by
  obtain ⟨R, hR⟩ : ∃ R, ackP ⟨l, pr, al⟩ i nonce now = R := ⟨_, rfl⟩
  obtain ⟨rb, hrb⟩ : ∃ rb, ackB ⟨l, pr, al⟩ i nonce now = rb := ⟨_, rfl⟩
  rw [hR, hrb]
  have HRR := Lib.hid hR
  have HRB := Lib.hid hrb
  clear hR hrb
  have HC := Lib.hid (fun W h => copied_any l hl v pr al W h)
  obtain ⟨A, cap, rfl, hcap, hmax, _⟩ := id hv
  obtain ⟨W1, hW1, HA1, HX0, HX1, HZ1, HB1, hs1⟩ := four_open w 27 41 3 27 #[.slice A l.length cap, .int .i64 pr, .int .i64 al] (#[.int .u32 nonce]) (#[.int .i64 now]) #[.slice none 0 0, .int .i64 0, .int .i64 0]
  have HR := Lib.hid (hv.below HB1.out)
  clear hv
  go_enter Try.func16, Try.ntmps16
  go_wp2_with ((with_reducible refine gate9 ?_); refine ldB rfl rfl rfl HA1.out Try.underlying27 rfl infoPs ?_)
  refine (HC.out _ HR.out).mono ?_
  rintro e w2 ⟨v1, rfl, hown, hb⟩
  have hws := hb.size
  have hml : l.length ≤ maxLen := by unfold maxLen; omega
  clear HC HR hW1
  obtain ⟨W3, hW3, HQ, HE, HB2, hs3⟩ := two_open w2 27 4 #[.slice none 0 0, .int .i64 0, .int .i64 0] (#[.bool false])
  cases ht : thereB l.length i with
  | false =>
    have HF : Hid (R = ⟨l, pr, al⟩) := Lib.hid (by rw [← HRR.out]; simp [ackP, ackB, ht])
    have HG : Hid (rb = false) := Lib.hid (by rw [← HRB.out]; simp [ackP, ackB, ht])
    clear HRR HRB
    obtain ⟨A1, cap1, rfl, _, hc1⟩ := own_form2 hown
    have HO := Lib.hid hown
    have HFR := Lib.hid ((fresh_own hown).less (show w.heap.size ≤ W1.heap.size by omega))
    have HB0 := Lib.hid hb
    have HCN := Lib.hid (fun (f : Value) (W : World) => chg_not f A1 l.length cap1 pr al i hml ht W)
    clear hown hb ht
    have hlt : w2.heap.size < w2.heap.size + 1 := by omega
    go_wp2_with (first
    | (go_at_call 37; (with_reducible refine (HCN.out _ _).mono ?_); rintro e w5 ⟨rfl, hb⟩; replace HQ := Lib.hid (HQ.out.later hb); replace HE := Lib.hid (HE.out.later hb); replace HB2 := Lib.hid (HB2.out.trans (hb.mono HB2.out.size)); clear hb; have HZ := Lib.hid ((HZ1.out.later HB0.out).later HB2.out); have HO2 := Lib.hid (ownP_below HO.out HB2.out); have HB := Lib.hid ((HB1.out.trans (HB0.out.mono (by omega))).trans (HB2.out.mono (by omega))); have ce := HE.out.cell 0 _ rfl)
    | ((with_reducible refine gate9 ?_); refine stB #[.slice A1 l.length cap1, .int .i64 pr, .int .i64 al] rfl rfl rfl rfl HQ.out infoPs rfl (cells3_one _ _ _ _ _) ?_; intro w4 ht hg; replace HE := Lib.hid (HE.out.kept hg (by omega)); replace HB2 := Lib.hid (below_of_grown1 HB2.out hg HB2.out.size (Nat.le_refl _)); replace HQ := Lib.hid ht; clear ht hg)
    | ((with_reducible refine gate9 ?_); refine stF (.bool false) rfl rfl rfl rfl HE.out (by show 0 < 1; decide) infoB rfl ?_; intro w4 ht hg; replace HQ := Lib.hid (HQ.out.kept hg (by omega)); replace HB2 := Lib.hid (below_of_grown1 HB2.out hg HB2.out.size (by omega)); replace HE : Hid (Bx w4 (w2.heap.size + 1) 4 (#[.bool false])) := Lib.hid ht; clear ht hg)
    | ((with_reducible refine gate9 ?_); refine ldB rfl rfl rfl HQ.out Try.underlying27 rfl infoPs ?_))
    clear ce
    refine wp_region_noPanic ?_
    refine wp_region_waits (S := fun V => Bx V w2.heap.size 27 #[.slice A1 l.length cap1, .int .i64 pr, .int .i64 al] ∧ Bx V (w2.heap.size + 1) 4 (#[.bool false])) [] (by kernel_rfl) ⟨HQ.out, HE.out⟩ (fun hHeld => ?_)
    clear HQ HE
    refine wpAnyW_take (i := 0) (v := _) (by simp only [List.getElem?_toArray, List.getElem?_cons_zero]; rfl) (by kernel_rfl) (by kernel_rfl) (by kernel_rfl) (by kernel_rfl) (by kernel_rfl) (fun _ _ _ h => h) (yB (by rfl) rfl rfl (fun V h => h.1) Try.underlying27 rfl infoPs) (by assumption) ?_
    try simp only [Act.put, List.setIfInBounds_toArray, List.set_cons_zero, List.set_cons_succ]
    refine wpAnyW_take (i := 1) (v := ?_) (by simp only [List.getElem?_toArray, List.getElem?_cons_succ, List.getElem?_cons_zero]; rfl) (by kernel_rfl) (by kernel_rfl) (by kernel_rfl) (by kernel_rfl) (by kernel_rfl) (fun _ _ _ h => h) (Or.inl ⟨by rfl, ?_⟩) (by assumption) ?_
    rotate_left 1
    · (intro w' hSw; have hq : w'.cell? ⟨w2.heap.size + 1, 0, none⟩ = some (.bool false) := hSw.2.cell 0 _ rfl; go_simp; try with_reducible rfl)
    try simp only [Act.put, List.setIfInBounds_toArray, List.set_cons_zero, List.set_cons_succ]
    refine wpAnyW_held (i := 2) (by kernel_rfl) (by simp only [List.getElem?_toArray, List.getElem?_cons_succ, List.getElem?_cons_zero]; rfl) (fun K hK => ?_)
    rw [if_pos (by rfl)]
    refine wpB #[.slice A1 l.length cap1, .int .i64 pr, .int .i64 al] rfl rfl rfl HZ.out infoPs rfl (cells3_one _ _ _ _ _) ?_
    intro w9 ht9 hg9'
    have hg9 : World.grownBy _ w9 (some (w.heap.size + 1 + 1 + 1)) := hg9'
    replace HB := Lib.hid (below_of_grown1 (below_drawn HB.out) hg9 HB.out.size (by omega))
    have hS := And.intro (hHeld.1.kept hg9 (by omega)) (hHeld.2.kept hg9 (by omega))
    have HRW := Lib.hid (rowP_of_own (ownP_keep (show (World.drew _).ownsRow _ _ _ _ _ _ from HO2.out) hg9 (show w.heap.size + 1 + 1 + 1 < W1.heap.size by omega)))
    replace HZ := Lib.hid ht9
    clear ht9 hg9 hg9' hHeld
    refine hK.out _ _ hS (fun hHeld => ?_)
    clear hK K hS
    try simp only [Act.put, List.setIfInBounds_toArray, List.set_cons_zero, List.set_cons_succ]
    refine wpAnyW_held (i := 3) (by kernel_rfl) (by simp only [List.getElem?_toArray, List.getElem?_cons_succ, List.getElem?_cons_zero]; rfl) (fun K hK => ?_)
    rw [if_pos (by rfl)]
    go_simp
    refine hK.out _ _ hHeld (fun hHeld => ?_)
    clear hK K
    try simp only [Act.put, List.setIfInBounds_toArray, List.set_cons_zero, List.set_cons_succ]
    refine wpAnyW_done (by kernel_rfl) ?_ _
    refine NoPanic.normal ?_
    go_wp2_with fail
    exact bodyPost_ret (retPs1 rfl rfl rfl rfl HZ.out) rfl ⟨_, by rw [HF.out, HG.out]; rfl, by rw [HF.out]; exact HRW.out, HB.out, HFR.out⟩
  | true =>
    obtain ⟨hlt, hi⟩ := thereB_lt ht
    generalize i.toNat = k at *
    subst hi
    obtain ⟨g, cap1, cur, rfl, hgB, hbx, hnc, hcm, hcur⟩ := own_bx hown (by omega)
    have hgl := hbx.lt
    have HFR : Hid (Fresh w.heap.size (.slice (some ⟨g, 0, none⟩) l.length cap1)) := Lib.hid (fresh_some (by omega))
    have hp0 := pinRow hbx rfl hlt hcur
    have hat : atL l (k : Int) = l[k] := by unfold atL; rw [Int.toNat_natCast, List.getD_eq_getElem?_getD, List.getElem?_eq_getElem hlt]; rfl
    have hup : ∀ f, updL l (k : Int) f = l.set k (f l[k]) := fun f => by unfold updL; rw [Int.toNat_natCast, List.getD_eq_getElem?_getD, List.getElem?_eq_getElem hlt]; rfl
    have hq9 : g ≠ w2.heap.size := by omega
    have hq8 : g ≠ w2.heap.size + 1 := by omega
    have hq7 : g ≠ w.heap.size + 1 + 1 + 1 := by omega
    cases hx : ansB l[k] nonce now with
    | false =>
      have HF : Hid (R = ⟨l, pr, al⟩) := Lib.hid (by rw [← HRR.out]; simp [ackP, ackB, ht, hat, hx])
      have HG : Hid (rb = false) := Lib.hid (by rw [← HRB.out]; simp [ackP, ackB, ht, hat, hx])
      clear HRR HRB
      have HO := Lib.hid hp0
      have HB0 := Lib.hid hb
      have HCUR := Lib.hid hcur
      have HCH := Lib.hid (fun (W : World) => chg_Ack g l.length cap1 k pr al hlt hml (.pointer (some ⟨w.heap.size + 1, 0, none⟩)) (.pointer (some ⟨w.heap.size + 1 + 1, 0, none⟩)) (.pointer (some ⟨(w2.heap.size + 1), 0, none⟩)) (.pointer (some ⟨w2.heap.size, 0, none⟩)) (fun W => Pin g 47 cur (k * 14) (cellsPa (l[k])) W ∧ Bx W w2.heap.size 27 #[.slice (some ⟨g, 0, none⟩) l.length cap1, .int .i64 pr, .int .i64 al] ∧ Bx W (w2.heap.size + 1) 4 (#[.bool false]) ∧ Below W1.heap.size W1 W) (fun W => Pin g 47 cur (k * 14) (cellsPa (l[k])) W ∧ Bx W w2.heap.size 27 #[.slice (some ⟨g, 0, none⟩) l.length cap1, .int .i64 pr, .int .i64 al] ∧ Bx W (w2.heap.size + 1) 4 (#[.bool false]) ∧ Below W1.heap.size W1 W)
        (fun W W' h hb => ⟨h.1.later hb, h.2.1.later hb, h.2.2.1.later hb, h.2.2.2.trans (hb.mono h.2.2.2.size)⟩)
        (fun W h => (ack_not l[k] nonce now _ pr al false g (w.heap.size + 1) (w.heap.size + 1 + 1) (w2.heap.size + 1) w2.heap.size (k * 14) cur hq9 hq8 (by omega) (by omega) (by omega) (by omega) (by omega) (by omega) (by omega) W h.1 (HX0.out.under h.2.2.2 (by omega)) (HX1.out.under h.2.2.2 (by omega)) h.2.2.1 h.2.1 hx).mono fun e W' h9 => ⟨h9.1, h9.2.1, h9.2.2.1, h9.2.2.2.1, below_tw h.2.2.2 h9.2.2.2.2 h.2.2.2.size (by simp; omega)⟩) W)
      clear hown hb ht hbx hp0 hup hat hcur
      go_wp2_with (first
    | (go_at_call 37; (with_reducible refine (HCH.out _ ⟨HO.out.later HB2.out, HQ.out, HE.out, HB0.out.trans (HB2.out.mono hws)⟩).mono ?_); rintro e w5 ⟨rfl, h1, h2, h3, h4⟩; clear HO HB2; have HP := Lib.hid h1; replace HQ := Lib.hid h2; replace HE := Lib.hid h3; have HZ := Lib.hid (HZ1.out.later h4); have HB := Lib.hid (HB1.out.trans (h4.mono (by omega))); clear h1 h2 h3 h4; have ce := HE.out.cell 0 _ rfl)
    | ((with_reducible refine gate9 ?_); refine stB #[.slice (some ⟨g, 0, none⟩) l.length cap1, .int .i64 pr, .int .i64 al] rfl rfl rfl rfl HQ.out infoPs rfl (cells3_one _ _ _ _ _) ?_; intro w4 ht hg; replace HE := Lib.hid (HE.out.kept hg (by omega)); replace HB2 := Lib.hid (below_of_grown1 HB2.out hg HB2.out.size (Nat.le_refl _)); replace HQ := Lib.hid ht; clear ht hg)
    | ((with_reducible refine gate9 ?_); refine stF (.bool false) rfl rfl rfl rfl HE.out (by show 0 < 1; decide) infoB rfl ?_; intro w4 ht hg; replace HQ := Lib.hid (HQ.out.kept hg (by omega)); replace HB2 := Lib.hid (below_of_grown1 HB2.out hg HB2.out.size (by omega)); replace HE : Hid (Bx w4 (w2.heap.size + 1) 4 (#[.bool false])) := Lib.hid ht; clear ht hg)
    | ((with_reducible refine gate9 ?_); refine ldB rfl rfl rfl HQ.out Try.underlying27 rfl infoPs ?_))
      clear ce
      refine wp_region_noPanic ?_
      refine wp_region_waits (S := fun V => Bx V w2.heap.size 27 #[.slice (some ⟨g, 0, none⟩) l.length cap1, .int .i64 pr, .int .i64 al] ∧ Bx V (w2.heap.size + 1) 4 (#[.bool false])) [] (by kernel_rfl) ⟨HQ.out, HE.out⟩ (fun hHeld => ?_)
      clear HQ HE
      refine wpAnyW_take (i := 0) (v := _) (by simp only [List.getElem?_toArray, List.getElem?_cons_zero]; rfl) (by kernel_rfl) (by kernel_rfl) (by kernel_rfl) (by kernel_rfl) (by kernel_rfl) (fun _ _ _ h => h) (yB (by rfl) rfl rfl (fun V h => h.1) Try.underlying27 rfl infoPs) (by assumption) ?_
      try simp only [Act.put, List.setIfInBounds_toArray, List.set_cons_zero, List.set_cons_succ]
      refine wpAnyW_take (i := 1) (v := ?_) (by simp only [List.getElem?_toArray, List.getElem?_cons_succ, List.getElem?_cons_zero]; rfl) (by kernel_rfl) (by kernel_rfl) (by kernel_rfl) (by kernel_rfl) (by kernel_rfl) (fun _ _ _ h => h) (Or.inl ⟨by rfl, ?_⟩) (by assumption) ?_
      rotate_left 1
      · (intro w' hSw; have hq : w'.cell? ⟨w2.heap.size + 1, 0, none⟩ = some (.bool false) := hSw.2.cell 0 _ rfl; go_simp; try with_reducible rfl)
      try simp only [Act.put, List.setIfInBounds_toArray, List.set_cons_zero, List.set_cons_succ]
      refine wpAnyW_held (i := 2) (by kernel_rfl) (by simp only [List.getElem?_toArray, List.getElem?_cons_succ, List.getElem?_cons_zero]; rfl) (fun K hK => ?_)
      rw [if_pos (by rfl)]
      refine wpB #[.slice (some ⟨g, 0, none⟩) l.length cap1, .int .i64 pr, .int .i64 al] rfl rfl rfl HZ.out infoPs rfl (cells3_one _ _ _ _ _) ?_
      intro w9 ht9 hg9'
      have hg9 : World.grownBy _ w9 (some (w.heap.size + 1 + 1 + 1)) := hg9'
      replace HB := Lib.hid (below_of_grown1 (below_drawn HB.out) hg9 HB.out.size (by omega))
      have hS := And.intro (hHeld.1.kept hg9 (by omega)) (hHeld.2.kept hg9 (by omega))
      have HRW := Lib.hid ((by have h := ((show Pin _ _ _ _ _ (World.drew _) from HP.out).kept hg9 hq7).row rfl hnc hcm HCUR.out hlt; rw [List.set_getElem_self] at h; exact h))
      replace HZ := Lib.hid ht9
      clear ht9 hg9 hg9' hHeld
      refine hK.out _ _ hS (fun hHeld => ?_)
      clear hK K hS
      try simp only [Act.put, List.setIfInBounds_toArray, List.set_cons_zero, List.set_cons_succ]
      refine wpAnyW_held (i := 3) (by kernel_rfl) (by simp only [List.getElem?_toArray, List.getElem?_cons_succ, List.getElem?_cons_zero]; rfl) (fun K hK => ?_)
      rw [if_pos (by rfl)]
      go_simp
      refine hK.out _ _ hHeld (fun hHeld => ?_)
      clear hK K
      try simp only [Act.put, List.setIfInBounds_toArray, List.set_cons_zero, List.set_cons_succ]
      refine wpAnyW_done (by kernel_rfl) ?_ _
      refine NoPanic.normal ?_
      go_wp2_with fail
      exact bodyPost_ret (retPs1 rfl rfl rfl rfl HZ.out) rfl ⟨_, by rw [HF.out, HG.out]; rfl, by rw [HF.out]; exact HRW.out, HB.out, HFR.out⟩
    | true =>
      have HF : Hid (R = ⟨l.set k (ackF now l[k]), pr, 0⟩) := Lib.hid (by rw [← HRR.out]; simp [ackP, ackB, ht, hat, hx, hup])
      have HG : Hid (rb = true) := Lib.hid (by rw [← HRB.out]; simp [ackP, ackB, ht, hat, hx, hup])
      clear HRR HRB
      have HO := Lib.hid hp0
      have HB0 := Lib.hid hb
      have HCUR := Lib.hid hcur
      have HCH := Lib.hid (fun (W : World) => chg_Ack g l.length cap1 k pr al hlt hml (.pointer (some ⟨w.heap.size + 1, 0, none⟩)) (.pointer (some ⟨w.heap.size + 1 + 1, 0, none⟩)) (.pointer (some ⟨(w2.heap.size + 1), 0, none⟩)) (.pointer (some ⟨w2.heap.size, 0, none⟩)) (fun W => Pin g 47 cur (k * 14) (cellsPa (l[k])) W ∧ Bx W w2.heap.size 27 #[.slice (some ⟨g, 0, none⟩) l.length cap1, .int .i64 pr, .int .i64 al] ∧ Bx W (w2.heap.size + 1) 4 (#[.bool false]) ∧ Below W1.heap.size W1 W) (fun W => Pin g 47 cur (k * 14) (cellsPa (ackF now l[k])) W ∧ Bx W w2.heap.size 27 #[.slice (some ⟨g, 0, none⟩) l.length cap1, .int .i64 pr, .int .i64 0] ∧ Bx W (w2.heap.size + 1) 4 (#[.bool true]) ∧ Below W1.heap.size W1 W)
        (fun W W' h hb => ⟨h.1.later hb, h.2.1.later hb, h.2.2.1.later hb, h.2.2.2.trans (hb.mono h.2.2.2.size)⟩)
        (fun W h => (ack_yes l[k] nonce now _ pr al false g (w.heap.size + 1) (w.heap.size + 1 + 1) (w2.heap.size + 1) w2.heap.size (k * 14) cur hq9 hq8 (by omega) (by omega) (by omega) (by omega) (by omega) (by omega) (by omega) W h.1 (HX0.out.under h.2.2.2 (by omega)) (HX1.out.under h.2.2.2 (by omega)) h.2.2.1 h.2.1 hx).mono fun e W' h9 => ⟨h9.1, h9.2.1, h9.2.2.1, h9.2.2.2.1, below_tw h.2.2.2 h9.2.2.2.2 h.2.2.2.size (by simp; omega)⟩) W)
      clear hown hb ht hbx hp0 hup hat hcur
      go_wp2_with (first
    | (go_at_call 37; (with_reducible refine (HCH.out _ ⟨HO.out.later HB2.out, HQ.out, HE.out, HB0.out.trans (HB2.out.mono hws)⟩).mono ?_); rintro e w5 ⟨rfl, h1, h2, h3, h4⟩; clear HO HB2; have HP := Lib.hid h1; replace HQ := Lib.hid h2; replace HE := Lib.hid h3; have HZ := Lib.hid (HZ1.out.later h4); have HB := Lib.hid (HB1.out.trans (h4.mono (by omega))); clear h1 h2 h3 h4; have ce := HE.out.cell 0 _ rfl)
    | ((with_reducible refine gate9 ?_); refine stB #[.slice (some ⟨g, 0, none⟩) l.length cap1, .int .i64 pr, .int .i64 al] rfl rfl rfl rfl HQ.out infoPs rfl (cells3_one _ _ _ _ _) ?_; intro w4 ht hg; replace HE := Lib.hid (HE.out.kept hg (by omega)); replace HB2 := Lib.hid (below_of_grown1 HB2.out hg HB2.out.size (Nat.le_refl _)); replace HQ := Lib.hid ht; clear ht hg)
    | ((with_reducible refine gate9 ?_); refine stF (.bool false) rfl rfl rfl rfl HE.out (by show 0 < 1; decide) infoB rfl ?_; intro w4 ht hg; replace HQ := Lib.hid (HQ.out.kept hg (by omega)); replace HB2 := Lib.hid (below_of_grown1 HB2.out hg HB2.out.size (by omega)); replace HE : Hid (Bx w4 (w2.heap.size + 1) 4 (#[.bool false])) := Lib.hid ht; clear ht hg)
    | ((with_reducible refine gate9 ?_); refine ldB rfl rfl rfl HQ.out Try.underlying27 rfl infoPs ?_))
      clear ce
      refine wp_region_noPanic ?_
      refine wp_region_waits (S := fun V => Bx V w2.heap.size 27 #[.slice (some ⟨g, 0, none⟩) l.length cap1, .int .i64 pr, .int .i64 0] ∧ Bx V (w2.heap.size + 1) 4 (#[.bool true])) [] (by kernel_rfl) ⟨HQ.out, HE.out⟩ (fun hHeld => ?_)
      clear HQ HE
      refine wpAnyW_take (i := 0) (v := _) (by simp only [List.getElem?_toArray, List.getElem?_cons_zero]; rfl) (by kernel_rfl) (by kernel_rfl) (by kernel_rfl) (by kernel_rfl) (by kernel_rfl) (fun _ _ _ h => h) (yB (by rfl) rfl rfl (fun V h => h.1) Try.underlying27 rfl infoPs) (by assumption) ?_
      try simp only [Act.put, List.setIfInBounds_toArray, List.set_cons_zero, List.set_cons_succ]
      refine wpAnyW_take (i := 1) (v := ?_) (by simp only [List.getElem?_toArray, List.getElem?_cons_succ, List.getElem?_cons_zero]; rfl) (by kernel_rfl) (by kernel_rfl) (by kernel_rfl) (by kernel_rfl) (by kernel_rfl) (fun _ _ _ h => h) (Or.inl ⟨by rfl, ?_⟩) (by assumption) ?_
      rotate_left 1
      · (intro w' hSw; have hq : w'.cell? ⟨w2.heap.size + 1, 0, none⟩ = some (.bool true) := hSw.2.cell 0 _ rfl; go_simp; try with_reducible rfl)
      try simp only [Act.put, List.setIfInBounds_toArray, List.set_cons_zero, List.set_cons_succ]
      refine wpAnyW_held (i := 2) (by kernel_rfl) (by simp only [List.getElem?_toArray, List.getElem?_cons_succ, List.getElem?_cons_zero]; rfl) (fun K hK => ?_)
      rw [if_pos (by rfl)]
      refine wpB #[.slice (some ⟨g, 0, none⟩) l.length cap1, .int .i64 pr, .int .i64 0] rfl rfl rfl HZ.out infoPs rfl (cells3_one _ _ _ _ _) ?_
      intro w9 ht9 hg9'
      have hg9 : World.grownBy _ w9 (some (w.heap.size + 1 + 1 + 1)) := hg9'
      replace HB := Lib.hid (below_of_grown1 (below_drawn HB.out) hg9 HB.out.size (by omega))
      have hS := And.intro (hHeld.1.kept hg9 (by omega)) (hHeld.2.kept hg9 (by omega))
      have HRW := Lib.hid (((show Pin _ _ _ _ _ (World.drew _) from HP.out).kept hg9 hq7).row rfl hnc hcm HCUR.out hlt)
      replace HZ := Lib.hid ht9
      clear ht9 hg9 hg9' hHeld
      refine hK.out _ _ hS (fun hHeld => ?_)
      clear hK K hS
      try simp only [Act.put, List.setIfInBounds_toArray, List.set_cons_zero, List.set_cons_succ]
      refine wpAnyW_held (i := 3) (by kernel_rfl) (by simp only [List.getElem?_toArray, List.getElem?_cons_succ, List.getElem?_cons_zero]; rfl) (fun K hK => ?_)
      rw [if_pos (by rfl)]
      go_simp
      refine hK.out _ _ hHeld (fun hHeld => ?_)
      clear hK K
      try simp only [Act.put, List.setIfInBounds_toArray, List.set_cons_zero, List.set_cons_succ]
      refine wpAnyW_done (by kernel_rfl) ?_ _
      refine NoPanic.normal ?_
      go_wp2_with fail
      exact bodyPost_ret (retPs1 rfl rfl rfl rfl HZ.out) rfl ⟨_, by rw [HF.out, HG.out]; rfl, by rw [HF.out]; exact HRW.out, HB.out, HFR.out⟩
set_option maxHeartbeats 4000000 in
theorem fail_any (l : List Pa) (hl : l.length ≤ 100000) (v : Value) (pr al i : Int) (hwf : ∀ x ∈ l, WfT x.tm) (w : World) (hv : RowP w v l) : Calls Try.prog 18 #[.agg #[v, .int .i64 pr, .int .i64 al], .int .i64 i] w fun e w' => ∃ v', e = .returned (.tuple #[.agg #[v', .int .i64 (failP ⟨l, pr, al⟩ i).pr, .int .i64 (failP ⟨l, pr, al⟩ i).al], .bool (failB ⟨l, pr, al⟩ i)]) ∧ RowP w' v' (failP ⟨l, pr, al⟩ i).l ∧ Below w.heap.size w w' ∧ Fresh w.heap.size v' := by
  obtain ⟨R, hR⟩ : ∃ R, failP ⟨l, pr, al⟩ i = R := ⟨_, rfl⟩
  obtain ⟨rb, hrb⟩ : ∃ rb, failB ⟨l, pr, al⟩ i = rb := ⟨_, rfl⟩
  rw [hR, hrb]
  have HRR := Lib.hid hR
  have HRB := Lib.hid hrb
  clear hR hrb
  have HC := Lib.hid (fun W h => copied_any l hl v pr al W h)
  obtain ⟨A, cap, rfl, hcap, hmax, _⟩ := id hv
  obtain ⟨W1, hW1, HA1, HZ1, HB1, hs1⟩ := two_open w 27 27 #[.slice A l.length cap, .int .i64 pr, .int .i64 al] #[.slice none 0 0, .int .i64 0, .int .i64 0]
  have HR := Lib.hid (hv.below HB1.out)
  clear hv
  go_enter Try.func18, Try.ntmps18
  go_wp2_with ((with_reducible refine gate9 ?_); refine ldB rfl rfl rfl HA1.out Try.underlying27 rfl infoPs ?_)
  refine (HC.out _ HR.out).mono ?_
  rintro e w2 ⟨v1, rfl, hown, hb⟩
  have hws := hb.size
  have hml : l.length ≤ maxLen := by unfold maxLen; omega
  clear HC HR hW1
  obtain ⟨W3, hW3, HQ, HE, HB2, hs3⟩ := two_open w2 27 4 #[.slice none 0 0, .int .i64 0, .int .i64 0] (#[.bool false])
  cases ht : thereB l.length i with
  | false =>
    have HF : Hid (R = ⟨l, pr, al⟩) := Lib.hid (by rw [← HRR.out]; simp [failP, failB, ht])
    have HG : Hid (rb = false) := Lib.hid (by rw [← HRB.out]; simp [failP, failB, ht])
    clear HRR HRB
    obtain ⟨A1, cap1, rfl, _, hc1⟩ := own_form2 hown
    have HO := Lib.hid hown
    have HFR := Lib.hid ((fresh_own hown).less (show w.heap.size ≤ W1.heap.size by omega))
    have HB0 := Lib.hid hb
    have HCN := Lib.hid (fun (f : Value) (W : World) => chg_not f A1 l.length cap1 pr al i hml ht W)
    clear hown hb ht
    have hlt : w2.heap.size < w2.heap.size + 1 := by omega
    go_wp2_with (first
    | (go_at_call 37; (with_reducible refine (HCN.out _ _).mono ?_); rintro e w5 ⟨rfl, hb⟩; replace HQ := Lib.hid (HQ.out.later hb); replace HE := Lib.hid (HE.out.later hb); replace HB2 := Lib.hid (HB2.out.trans (hb.mono HB2.out.size)); clear hb; have HZ := Lib.hid ((HZ1.out.later HB0.out).later HB2.out); have HO2 := Lib.hid (ownP_below HO.out HB2.out); have HB := Lib.hid ((HB1.out.trans (HB0.out.mono (by omega))).trans (HB2.out.mono (by omega))); have ce := HE.out.cell 0 _ rfl)
    | ((with_reducible refine gate9 ?_); refine stB #[.slice A1 l.length cap1, .int .i64 pr, .int .i64 al] rfl rfl rfl rfl HQ.out infoPs rfl (cells3_one _ _ _ _ _) ?_; intro w4 ht hg; replace HE := Lib.hid (HE.out.kept hg (by omega)); replace HB2 := Lib.hid (below_of_grown1 HB2.out hg HB2.out.size (Nat.le_refl _)); replace HQ := Lib.hid ht; clear ht hg)
    | ((with_reducible refine gate9 ?_); refine stF (.bool false) rfl rfl rfl rfl HE.out (by show 0 < 1; decide) infoB rfl ?_; intro w4 ht hg; replace HQ := Lib.hid (HQ.out.kept hg (by omega)); replace HB2 := Lib.hid (below_of_grown1 HB2.out hg HB2.out.size (by omega)); replace HE : Hid (Bx w4 (w2.heap.size + 1) 4 (#[.bool false])) := Lib.hid ht; clear ht hg)
    | ((with_reducible refine gate9 ?_); refine ldB rfl rfl rfl HQ.out Try.underlying27 rfl infoPs ?_))
    clear ce
    refine wp_region_noPanic ?_
    refine wp_region_waits (S := fun V => Bx V w2.heap.size 27 #[.slice A1 l.length cap1, .int .i64 pr, .int .i64 al] ∧ Bx V (w2.heap.size + 1) 4 (#[.bool false])) [] (by kernel_rfl) ⟨HQ.out, HE.out⟩ (fun hHeld => ?_)
    clear HQ HE
    refine wpAnyW_take (i := 0) (v := _) (by simp only [List.getElem?_toArray, List.getElem?_cons_zero]; rfl) (by kernel_rfl) (by kernel_rfl) (by kernel_rfl) (by kernel_rfl) (by kernel_rfl) (fun _ _ _ h => h) (yB (by rfl) rfl rfl (fun V h => h.1) Try.underlying27 rfl infoPs) (by assumption) ?_
    try simp only [Act.put, List.setIfInBounds_toArray, List.set_cons_zero, List.set_cons_succ]
    refine wpAnyW_take (i := 1) (v := ?_) (by simp only [List.getElem?_toArray, List.getElem?_cons_succ, List.getElem?_cons_zero]; rfl) (by kernel_rfl) (by kernel_rfl) (by kernel_rfl) (by kernel_rfl) (by kernel_rfl) (fun _ _ _ h => h) (Or.inl ⟨by rfl, ?_⟩) (by assumption) ?_
    rotate_left 1
    · (intro w' hSw; have hq : w'.cell? ⟨w2.heap.size + 1, 0, none⟩ = some (.bool false) := hSw.2.cell 0 _ rfl; go_simp; try with_reducible rfl)
    try simp only [Act.put, List.setIfInBounds_toArray, List.set_cons_zero, List.set_cons_succ]
    refine wpAnyW_held (i := 2) (by kernel_rfl) (by simp only [List.getElem?_toArray, List.getElem?_cons_succ, List.getElem?_cons_zero]; rfl) (fun K hK => ?_)
    rw [if_pos (by rfl)]
    refine wpB #[.slice A1 l.length cap1, .int .i64 pr, .int .i64 al] rfl rfl rfl HZ.out infoPs rfl (cells3_one _ _ _ _ _) ?_
    intro w9 ht9 hg9'
    have hg9 : World.grownBy _ w9 (some (w.heap.size + 1)) := hg9'
    replace HB := Lib.hid (below_of_grown1 (below_drawn HB.out) hg9 HB.out.size (by omega))
    have hS := And.intro (hHeld.1.kept hg9 (by omega)) (hHeld.2.kept hg9 (by omega))
    have HRW := Lib.hid (rowP_of_own (ownP_keep (show (World.drew _).ownsRow _ _ _ _ _ _ from HO2.out) hg9 (show w.heap.size + 1 < W1.heap.size by omega)))
    replace HZ := Lib.hid ht9
    clear ht9 hg9 hg9' hHeld
    refine hK.out _ _ hS (fun hHeld => ?_)
    clear hK K hS
    try simp only [Act.put, List.setIfInBounds_toArray, List.set_cons_zero, List.set_cons_succ]
    refine wpAnyW_held (i := 3) (by kernel_rfl) (by simp only [List.getElem?_toArray, List.getElem?_cons_succ, List.getElem?_cons_zero]; rfl) (fun K hK => ?_)
    rw [if_pos (by rfl)]
    go_simp
    refine hK.out _ _ hHeld (fun hHeld => ?_)
    clear hK K
    try simp only [Act.put, List.setIfInBounds_toArray, List.set_cons_zero, List.set_cons_succ]
    refine wpAnyW_done (by kernel_rfl) ?_ _
    refine NoPanic.normal ?_
    go_wp2_with fail
    exact bodyPost_ret (retPs1 rfl rfl rfl rfl HZ.out) rfl ⟨_, by rw [HF.out, HG.out]; rfl, by rw [HF.out]; exact HRW.out, HB.out, HFR.out⟩
  | true =>
    obtain ⟨hlt, hi⟩ := thereB_lt ht
    generalize i.toNat = k at *
    subst hi
    obtain ⟨g, cap1, cur, rfl, hgB, hbx, hnc, hcm, hcur⟩ := own_bx hown (by omega)
    have hgl := hbx.lt
    have HFR : Hid (Fresh w.heap.size (.slice (some ⟨g, 0, none⟩) l.length cap1)) := Lib.hid (fresh_some (by omega))
    have hp0 := pinRow hbx rfl hlt hcur
    have hat : atL l (k : Int) = l[k] := by unfold atL; rw [Int.toNat_natCast, List.getD_eq_getElem?_getD, List.getElem?_eq_getElem hlt]; rfl
    have hup : ∀ f, updL l (k : Int) f = l.set k (f l[k]) := fun f => by unfold updL; rw [Int.toNat_natCast, List.getD_eq_getElem?_getD, List.getElem?_eq_getElem hlt]; rfl
    have hq9 : g ≠ w2.heap.size := by omega
    have hq8 : g ≠ w2.heap.size + 1 := by omega
    have hq7 : g ≠ w.heap.size + 1 := by omega
    have HF : Hid (R = ⟨l.set k (failF l[k]), pr, (wrap64 (al + 1))⟩) := Lib.hid (by rw [← HRR.out]; simp [failP, failB, ht, hup])
    have HG : Hid (rb = (decide (10 < wrap64 (al + 1)))) := Lib.hid (by rw [← HRB.out]; simp [failP, failB, ht, hup])
    clear HRR HRB
    have HO := Lib.hid hp0
    have HB0 := Lib.hid hb
    have HCUR := Lib.hid hcur
    have HCH := Lib.hid (fun (W : World) => chg_Fail g l.length cap1 k pr al hlt hml (.pointer (some ⟨w2.heap.size, 0, none⟩)) (.pointer (some ⟨(w2.heap.size + 1), 0, none⟩)) (fun W => Pin g 47 cur (k * 14) (cellsPa (l[k])) W ∧ Bx W w2.heap.size 27 #[.slice (some ⟨g, 0, none⟩) l.length cap1, .int .i64 pr, .int .i64 al] ∧ Bx W (w2.heap.size + 1) 4 (#[.bool false]) ∧ Below W1.heap.size W1 W) (fun W => Pin g 47 cur (k * 14) (cellsPa (failF l[k])) W ∧ Bx W w2.heap.size 27 #[.slice (some ⟨g, 0, none⟩) l.length cap1, .int .i64 pr, .int .i64 (wrap64 (al + 1))] ∧ Bx W (w2.heap.size + 1) 4 (#[.bool (decide (10 < wrap64 (al + 1)))]) ∧ Below W1.heap.size W1 W)
      (fun W W' h hb => ⟨h.1.later hb, h.2.1.later hb, h.2.2.1.later hb, h.2.2.2.trans (hb.mono h.2.2.2.size)⟩)
      (fun W h => (fail_fn l[k] (hwf _ (List.getElem_mem hlt)) _ pr al false g (w2.heap.size + 1) w2.heap.size (k * 14) cur hq9 hq8 (by omega) W h.1 h.2.2.1 h.2.1).mono fun e W' h9 => ⟨h9.1, h9.2.1, h9.2.2.1, h9.2.2.2.1, below_tw h.2.2.2 h9.2.2.2.2 h.2.2.2.size (by simp; omega)⟩) W)
    clear hown hb ht hbx hp0 hup hat hcur
    go_wp2_with (first
    | (go_at_call 37; (with_reducible refine (HCH.out _ ⟨HO.out.later HB2.out, HQ.out, HE.out, HB0.out.trans (HB2.out.mono hws)⟩).mono ?_); rintro e w5 ⟨rfl, h1, h2, h3, h4⟩; clear HO HB2; have HP := Lib.hid h1; replace HQ := Lib.hid h2; replace HE := Lib.hid h3; have HZ := Lib.hid (HZ1.out.later h4); have HB := Lib.hid (HB1.out.trans (h4.mono (by omega))); clear h1 h2 h3 h4; have ce := HE.out.cell 0 _ rfl)
    | ((with_reducible refine gate9 ?_); refine stB #[.slice (some ⟨g, 0, none⟩) l.length cap1, .int .i64 pr, .int .i64 al] rfl rfl rfl rfl HQ.out infoPs rfl (cells3_one _ _ _ _ _) ?_; intro w4 ht hg; replace HE := Lib.hid (HE.out.kept hg (by omega)); replace HB2 := Lib.hid (below_of_grown1 HB2.out hg HB2.out.size (Nat.le_refl _)); replace HQ := Lib.hid ht; clear ht hg)
    | ((with_reducible refine gate9 ?_); refine stF (.bool false) rfl rfl rfl rfl HE.out (by show 0 < 1; decide) infoB rfl ?_; intro w4 ht hg; replace HQ := Lib.hid (HQ.out.kept hg (by omega)); replace HB2 := Lib.hid (below_of_grown1 HB2.out hg HB2.out.size (by omega)); replace HE : Hid (Bx w4 (w2.heap.size + 1) 4 (#[.bool false])) := Lib.hid ht; clear ht hg)
    | ((with_reducible refine gate9 ?_); refine ldB rfl rfl rfl HQ.out Try.underlying27 rfl infoPs ?_))
    clear ce
    refine wp_region_noPanic ?_
    refine wp_region_waits (S := fun V => Bx V w2.heap.size 27 #[.slice (some ⟨g, 0, none⟩) l.length cap1, .int .i64 pr, .int .i64 (wrap64 (al + 1))] ∧ Bx V (w2.heap.size + 1) 4 (#[.bool (decide (10 < wrap64 (al + 1)))])) [] (by kernel_rfl) ⟨HQ.out, HE.out⟩ (fun hHeld => ?_)
    clear HQ HE
    refine wpAnyW_take (i := 0) (v := _) (by simp only [List.getElem?_toArray, List.getElem?_cons_zero]; rfl) (by kernel_rfl) (by kernel_rfl) (by kernel_rfl) (by kernel_rfl) (by kernel_rfl) (fun _ _ _ h => h) (yB (by rfl) rfl rfl (fun V h => h.1) Try.underlying27 rfl infoPs) (by assumption) ?_
    try simp only [Act.put, List.setIfInBounds_toArray, List.set_cons_zero, List.set_cons_succ]
    refine wpAnyW_take (i := 1) (v := ?_) (by simp only [List.getElem?_toArray, List.getElem?_cons_succ, List.getElem?_cons_zero]; rfl) (by kernel_rfl) (by kernel_rfl) (by kernel_rfl) (by kernel_rfl) (by kernel_rfl) (fun _ _ _ h => h) (Or.inl ⟨by rfl, ?_⟩) (by assumption) ?_
    rotate_left 1
    · (intro w' hSw; have hq : w'.cell? ⟨w2.heap.size + 1, 0, none⟩ = some (.bool (decide (10 < wrap64 (al + 1)))) := hSw.2.cell 0 _ rfl; go_simp; try with_reducible rfl)
    try simp only [Act.put, List.setIfInBounds_toArray, List.set_cons_zero, List.set_cons_succ]
    refine wpAnyW_held (i := 2) (by kernel_rfl) (by simp only [List.getElem?_toArray, List.getElem?_cons_succ, List.getElem?_cons_zero]; rfl) (fun K hK => ?_)
    rw [if_pos (by rfl)]
    refine wpB #[.slice (some ⟨g, 0, none⟩) l.length cap1, .int .i64 pr, .int .i64 (wrap64 (al + 1))] rfl rfl rfl HZ.out infoPs rfl (cells3_one _ _ _ _ _) ?_
    intro w9 ht9 hg9'
    have hg9 : World.grownBy _ w9 (some (w.heap.size + 1)) := hg9'
    replace HB := Lib.hid (below_of_grown1 (below_drawn HB.out) hg9 HB.out.size (by omega))
    have hS := And.intro (hHeld.1.kept hg9 (by omega)) (hHeld.2.kept hg9 (by omega))
    have HRW := Lib.hid (((show Pin _ _ _ _ _ (World.drew _) from HP.out).kept hg9 hq7).row rfl hnc hcm HCUR.out hlt)
    replace HZ := Lib.hid ht9
    clear ht9 hg9 hg9' hHeld
    refine hK.out _ _ hS (fun hHeld => ?_)
    clear hK K hS
    try simp only [Act.put, List.setIfInBounds_toArray, List.set_cons_zero, List.set_cons_succ]
    refine wpAnyW_held (i := 3) (by kernel_rfl) (by simp only [List.getElem?_toArray, List.getElem?_cons_succ, List.getElem?_cons_zero]; rfl) (fun K hK => ?_)
    rw [if_pos (by rfl)]
    go_simp
    refine hK.out _ _ hHeld (fun hHeld => ?_)
    clear hK K
    try simp only [Act.put, List.setIfInBounds_toArray, List.set_cons_zero, List.set_cons_succ]
    refine wpAnyW_done (by kernel_rfl) ?_ _
    refine NoPanic.normal ?_
    go_wp2_with fail
    exact bodyPost_ret (retPs1 rfl rfl rfl rfl HZ.out) rfl ⟨_, by rw [HF.out, HG.out]; rfl, by rw [HF.out]; exact HRW.out, HB.out, HFR.out⟩
set_option maxHeartbeats 4000000 in
theorem prim_any (l : List Pa) (hl : l.length ≤ 100000) (v : Value) (pr al i : Int) (w : World) (hv : RowP w v l) : Calls Try.prog 20 #[.agg #[v, .int .i64 pr, .int .i64 al], .int .i64 i] w fun e w' => ∃ v', e = .returned (.tuple #[.agg #[v', .int .i64 (primP ⟨l, pr, al⟩ i).pr, .int .i64 (primP ⟨l, pr, al⟩ i).al], .int .i64 (primE ⟨l, pr, al⟩ i)]) ∧ RowP w' v' (primP ⟨l, pr, al⟩ i).l ∧ Below w.heap.size w w' ∧ Fresh w.heap.size v' := by
  obtain ⟨R, hR⟩ : ∃ R, primP ⟨l, pr, al⟩ i = R := ⟨_, rfl⟩
  obtain ⟨rb, hrb⟩ : ∃ rb, primE ⟨l, pr, al⟩ i = rb := ⟨_, rfl⟩
  rw [hR, hrb]
  have HRR := Lib.hid hR
  have HRB := Lib.hid hrb
  clear hR hrb
  have HC := Lib.hid (fun W h => copied_any l hl v pr al W h)
  obtain ⟨A, cap, rfl, hcap, hmax, _⟩ := id hv
  obtain ⟨W1, hW1, HA1, HX0, HZ1, HB1, hs1⟩ := three_open w 27 3 27 #[.slice A l.length cap, .int .i64 pr, .int .i64 al] #[.int .i64 i] #[.slice none 0 0, .int .i64 0, .int .i64 0]
  have HR := Lib.hid (hv.below HB1.out)
  clear hv
  go_enter Try.func20, Try.ntmps20
  go_wp2_with ((with_reducible refine gate9 ?_); refine ldB rfl rfl rfl HA1.out Try.underlying27 rfl infoPs ?_)
  refine (HC.out _ HR.out).mono ?_
  rintro e w2 ⟨v1, rfl, hown, hb⟩
  have hws := hb.size
  have hml : l.length ≤ maxLen := by unfold maxLen; omega
  clear HC HR hW1
  obtain ⟨W3, hW3, HQ, HE, HB2, hs3⟩ := two_open w2 27 28 #[.slice none 0 0, .int .i64 0, .int .i64 0] #[.int .i64 0]
  cases ht : thereB l.length i with
  | false =>
    have HF : Hid (R = zeroPs) := Lib.hid (by rw [← HRR.out]; simp [primP, primE, ht])
    have HG : Hid (rb = 8) := Lib.hid (by rw [← HRB.out]; simp [primE, ht])
    clear HRR HRB
    obtain ⟨A1, cap1, rfl, _, hc1⟩ := own_form2 hown
    have HB0 := Lib.hid hb
    have HCN := Lib.hid (fun (f : Value) (W : World) => chg_not f A1 l.length cap1 pr al i hml ht W)
    clear hown hb ht
    have hlt : w2.heap.size < w2.heap.size + 1 := by omega
    go_wp2_with (first
    | (go_at_call 37; (with_reducible refine (HCN.out _ _).mono ?_); rintro e w5 ⟨rfl, hb⟩; clear ci; replace HQ := Lib.hid (HQ.out.later hb); replace HE := Lib.hid (HE.out.later hb); replace HB2 := Lib.hid (HB2.out.trans (hb.mono HB2.out.size)); clear hb; have HZ := Lib.hid ((HZ1.out.later HB0.out).later HB2.out); have HB := Lib.hid ((HB1.out.trans (HB0.out.mono (by omega))).trans (HB2.out.mono (by omega))); have ce := HE.out.cell 0 (.int .i64 8) rfl)
    | ((with_reducible refine gate9 ?_); refine stB #[.slice A1 l.length cap1, .int .i64 pr, .int .i64 al] rfl rfl rfl rfl HQ.out infoPs rfl (cells3_one _ _ _ _ _) ?_; intro w4 ht hg; replace HE := Lib.hid (HE.out.kept hg (by omega)); replace HB2 := Lib.hid (below_of_grown1 HB2.out hg HB2.out.size (Nat.le_refl _)); replace HQ := Lib.hid ht; clear ht hg; have ci := (HX0.out.later HB0.out).later HB2.out; replace ci := ci.cell 0 (.int .i64 i) rfl)
    | ((with_reducible refine gate9 ?_); refine stF (.int .i64 8) rfl rfl rfl rfl HE.out (by show 0 < 1; decide) infoE rfl ?_; intro w4 ht hg; clear ci; replace HQ := Lib.hid (HQ.out.kept hg (by omega)); replace HB2 := Lib.hid (below_of_grown1 HB2.out hg HB2.out.size (by omega)); replace HE : Hid (Bx w4 (w2.heap.size + 1) 28 #[.int .i64 8]) := Lib.hid ht; clear ht hg; have ci := (HX0.out.later HB0.out).later HB2.out; replace ci := ci.cell 0 (.int .i64 i) rfl)
    | ((with_reducible refine gate9 ?_); refine ldB rfl rfl rfl HQ.out Try.underlying27 rfl infoPs ?_))
    clear ce
    refine wp_region_noPanic ?_
    refine wp_region_waits (S := fun V => Bx V (w2.heap.size + 1) 28 #[.int .i64 8]) [] (by kernel_rfl) HE.out (fun hHeld => ?_)
    clear HQ HE
    refine wpAnyW_take (i := 0) (v := ?_) (by simp only [List.getElem?_toArray, List.getElem?_cons_zero]; rfl) (by kernel_rfl) (by kernel_rfl) (by kernel_rfl) (by kernel_rfl) (by kernel_rfl) (fun _ _ _ h => h) (Or.inl ⟨by rfl, ?_⟩) (by assumption) ?_
    rotate_left 1
    · (intro w' hSw; go_simp; try with_reducible rfl)
    try simp only [Act.put, List.setIfInBounds_toArray, List.set_cons_zero, List.set_cons_succ]
    refine wpAnyW_take (i := 1) (v := ?_) (by simp only [List.getElem?_toArray, List.getElem?_cons_succ, List.getElem?_cons_zero]; rfl) (by kernel_rfl) (by kernel_rfl) (by kernel_rfl) (by kernel_rfl) (by kernel_rfl) (fun _ _ _ h => h) (Or.inl ⟨by rfl, ?_⟩) (by assumption) ?_
    rotate_left 1
    · (intro w' hSw; have hq : w'.cell? ⟨w2.heap.size + 1, 0, none⟩ = some (.int .i64 8) := hSw.cell 0 _ rfl; go_simp; try with_reducible rfl)
    try simp only [Act.put, List.setIfInBounds_toArray, List.set_cons_zero, List.set_cons_succ]
    refine wpAnyW_held (i := 2) (by kernel_rfl) (by simp only [List.getElem?_toArray, List.getElem?_cons_succ, List.getElem?_cons_zero]; rfl) (fun K hK => ?_)
    rw [if_pos (by rfl)]
    refine wpB #[.slice none 0 0, .int .i64 0, .int .i64 0] rfl rfl rfl HZ.out infoPs rfl (cells3_one _ _ _ _ _) ?_
    intro w9 ht9 hg9'
    have hg9 : World.grownBy _ w9 (some (w.heap.size + 1 + 1)) := hg9'
    replace HB := Lib.hid (below_of_grown1 (below_drawn HB.out) hg9 HB.out.size (by omega))
    have hS := hHeld.kept hg9 (by omega)
    replace HZ := Lib.hid ht9
    clear ht9 hg9 hg9' hHeld
    refine hK.out _ _ hS (fun hHeld => ?_)
    clear hK K hS
    try simp only [Act.put, List.setIfInBounds_toArray, List.set_cons_zero, List.set_cons_succ]
    refine wpAnyW_held (i := 3) (by kernel_rfl) (by simp only [List.getElem?_toArray, List.getElem?_cons_succ, List.getElem?_cons_zero]; rfl) (fun K hK => ?_)
    rw [if_pos (by rfl)]
    go_simp
    refine hK.out _ _ hHeld (fun hHeld => ?_)
    clear hK K
    try simp only [Act.put, List.setIfInBounds_toArray, List.set_cons_zero, List.set_cons_succ]
    refine wpAnyW_done (by kernel_rfl) ?_ _
    refine NoPanic.normal ?_
    go_wp2_with fail
    exact bodyPost_ret (retPs1 rfl rfl rfl rfl HZ.out) rfl ⟨_, by rw [HF.out, HG.out]; rfl, by rw [HF.out]; exact RowP.nil _, HB.out, fresh_none _ _ _⟩
  | true =>
    obtain ⟨hlt, hi⟩ := thereB_lt ht
    generalize i.toNat = k at *
    subst hi
    obtain ⟨g, cap1, cur, rfl, hgB, hbx, hnc, hcm, hcur⟩ := own_bx hown (by omega)
    have hgl := hbx.lt
    have HFR : Hid (Fresh w.heap.size (.slice (some ⟨g, 0, none⟩) l.length cap1)) := Lib.hid (fresh_some (by omega))
    have hp0 := pinRow hbx rfl hlt hcur
    have hat : atL l (k : Int) = l[k] := by unfold atL; rw [Int.toNat_natCast, List.getD_eq_getElem?_getD, List.getElem?_eq_getElem hlt]; rfl
    have hq9 : g ≠ w2.heap.size := by omega
    have hq8 : g ≠ w2.heap.size + 1 := by omega
    have hq7 : g ≠ w.heap.size + 1 + 1 := by omega
    by_cases h1 : l[k].st = 1
    · skip
      have HF : Hid (R = zeroPs) := Lib.hid (by rw [← HRR.out]; simp [primP, primE, ht, hat, h1])
      have HG : Hid (rb = 11) := Lib.hid (by rw [← HRB.out]; simp [primE, ht, hat, h1])
      clear HRR HRB
      have HO := Lib.hid hp0
      have HB0 := Lib.hid hb
      have HCUR := Lib.hid hcur
      have HCH := Lib.hid (fun (W : World) => chg_SetPrimary g l.length cap1 k pr al hlt hml (.pointer (some ⟨w.heap.size + 1, 0, none⟩)) (.pointer (some ⟨w2.heap.size, 0, none⟩)) (.pointer (some ⟨(w2.heap.size + 1), 0, none⟩)) (fun W => Pin g 47 cur (k * 14) (cellsPa l[k]) W ∧ Bx W w2.heap.size 27 #[.slice (some ⟨g, 0, none⟩) l.length cap1, .int .i64 pr, .int .i64 al] ∧ Bx W (w2.heap.size + 1) 28 #[.int .i64 8] ∧ Below W1.heap.size W1 W) (fun W => Pin g 47 cur (k * 14) (cellsPa l[k]) W ∧ Bx W w2.heap.size 27 #[.slice (some ⟨g, 0, none⟩) l.length cap1, .int .i64 (k : Int), .int .i64 al] ∧ Bx W (w2.heap.size + 1) 28 #[.int .i64 11] ∧ Below W1.heap.size W1 W)
        (fun W W' h hb => ⟨h.1.later hb, h.2.1.later hb, h.2.2.1.later hb, h.2.2.2.trans (hb.mono h.2.2.2.size)⟩)
        (fun W h => (prim_fn l[k] _ (k : Int) pr al 8 g (w.heap.size + 1) w2.heap.size (w2.heap.size + 1) (k * 14) cur hq9 hq8 (by omega) W h.1 (HX0.out.under h.2.2.2 (by omega)) h.2.1 h.2.2.1).mono fun e W' h9 => ⟨h9.1, h9.2.1, h9.2.2.1, (by have h5 := h9.2.2.2.1; rw [if_pos h1] at h5; exact h5), below_tw h.2.2.2 h9.2.2.2.2 h.2.2.2.size (by simp; omega)⟩) W)
      clear hown hb ht hbx hp0 hat hcur h1
      go_wp2_with (first
    | (go_at_call 37; (with_reducible refine (HCH.out _ ⟨HO.out.later HB2.out, HQ.out, HE.out, HB0.out.trans (HB2.out.mono hws)⟩).mono ?_); rintro e w5 ⟨rfl, h1, h2, h3, h4⟩; clear HO HB2 ci; have HP := Lib.hid h1; replace HQ := Lib.hid h2; replace HE := Lib.hid h3; have HZ := Lib.hid (HZ1.out.later h4); have HB := Lib.hid (HB1.out.trans (h4.mono (by omega))); clear h1 h2 h3 h4; have ce := HE.out.cell 0 (.int .i64 11) rfl)
    | ((with_reducible refine gate9 ?_); refine stB #[.slice (some ⟨g, 0, none⟩) l.length cap1, .int .i64 pr, .int .i64 al] rfl rfl rfl rfl HQ.out infoPs rfl (cells3_one _ _ _ _ _) ?_; intro w4 ht hg; replace HE := Lib.hid (HE.out.kept hg (by omega)); replace HB2 := Lib.hid (below_of_grown1 HB2.out hg HB2.out.size (Nat.le_refl _)); replace HQ := Lib.hid ht; clear ht hg; have ci := (HX0.out.later HB0.out).later HB2.out; replace ci := ci.cell 0 (.int .i64 k) rfl)
    | ((with_reducible refine gate9 ?_); refine stF (.int .i64 8) rfl rfl rfl rfl HE.out (by show 0 < 1; decide) infoE rfl ?_; intro w4 ht hg; clear ci; replace HQ := Lib.hid (HQ.out.kept hg (by omega)); replace HB2 := Lib.hid (below_of_grown1 HB2.out hg HB2.out.size (by omega)); replace HE : Hid (Bx w4 (w2.heap.size + 1) 28 #[.int .i64 8]) := Lib.hid ht; clear ht hg; have ci := (HX0.out.later HB0.out).later HB2.out; replace ci := ci.cell 0 (.int .i64 k) rfl)
    | ((with_reducible refine gate9 ?_); refine ldB rfl rfl rfl HQ.out Try.underlying27 rfl infoPs ?_))
      clear ce
      refine wp_region_noPanic ?_
      refine wp_region_waits (S := fun V => Bx V (w2.heap.size + 1) 28 #[.int .i64 11]) [] (by kernel_rfl) HE.out (fun hHeld => ?_)
      clear HQ HE
      refine wpAnyW_take (i := 0) (v := ?_) (by simp only [List.getElem?_toArray, List.getElem?_cons_zero]; rfl) (by kernel_rfl) (by kernel_rfl) (by kernel_rfl) (by kernel_rfl) (by kernel_rfl) (fun _ _ _ h => h) (Or.inl ⟨by rfl, ?_⟩) (by assumption) ?_
      rotate_left 1
      · (intro w' hSw; go_simp; try with_reducible rfl)
      try simp only [Act.put, List.setIfInBounds_toArray, List.set_cons_zero, List.set_cons_succ]
      refine wpAnyW_take (i := 1) (v := ?_) (by simp only [List.getElem?_toArray, List.getElem?_cons_succ, List.getElem?_cons_zero]; rfl) (by kernel_rfl) (by kernel_rfl) (by kernel_rfl) (by kernel_rfl) (by kernel_rfl) (fun _ _ _ h => h) (Or.inl ⟨by rfl, ?_⟩) (by assumption) ?_
      rotate_left 1
      · (intro w' hSw; have hq : w'.cell? ⟨w2.heap.size + 1, 0, none⟩ = some (.int .i64 11) := hSw.cell 0 _ rfl; go_simp; try with_reducible rfl)
      try simp only [Act.put, List.setIfInBounds_toArray, List.set_cons_zero, List.set_cons_succ]
      refine wpAnyW_held (i := 2) (by kernel_rfl) (by simp only [List.getElem?_toArray, List.getElem?_cons_succ, List.getElem?_cons_zero]; rfl) (fun K hK => ?_)
      rw [if_pos (by rfl)]
      refine wpB #[.slice none 0 0, .int .i64 0, .int .i64 0] rfl rfl rfl HZ.out infoPs rfl (cells3_one _ _ _ _ _) ?_
      intro w9 ht9 hg9'
      have hg9 : World.grownBy _ w9 (some (w.heap.size + 1 + 1)) := hg9'
      replace HB := Lib.hid (below_of_grown1 (below_drawn HB.out) hg9 HB.out.size (by omega))
      have hS := hHeld.kept hg9 (by omega)
      replace HZ := Lib.hid ht9
      clear ht9 hg9 hg9' hHeld
      refine hK.out _ _ hS (fun hHeld => ?_)
      clear hK K hS
      try simp only [Act.put, List.setIfInBounds_toArray, List.set_cons_zero, List.set_cons_succ]
      refine wpAnyW_held (i := 3) (by kernel_rfl) (by simp only [List.getElem?_toArray, List.getElem?_cons_succ, List.getElem?_cons_zero]; rfl) (fun K hK => ?_)
      rw [if_pos (by rfl)]
      go_simp
      refine hK.out _ _ hHeld (fun hHeld => ?_)
      clear hK K
      try simp only [Act.put, List.setIfInBounds_toArray, List.set_cons_zero, List.set_cons_succ]
      refine wpAnyW_done (by kernel_rfl) ?_ _
      refine NoPanic.normal ?_
      go_wp2_with fail
      exact bodyPost_ret (retPs1 rfl rfl rfl rfl HZ.out) rfl ⟨_, by rw [HF.out, HG.out]; rfl, by rw [HF.out]; exact RowP.nil _, HB.out, fresh_none _ _ _⟩
    · skip
      have HF : Hid (R = ⟨l, (k : Int), al⟩) := Lib.hid (by rw [← HRR.out]; simp [primP, primE, ht, hat, h1])
      have HG : Hid (rb = 0) := Lib.hid (by rw [← HRB.out]; simp [primE, ht, hat, h1])
      clear HRR HRB
      have HO := Lib.hid hp0
      have HB0 := Lib.hid hb
      have HCUR := Lib.hid hcur
      have HCH := Lib.hid (fun (W : World) => chg_SetPrimary g l.length cap1 k pr al hlt hml (.pointer (some ⟨w.heap.size + 1, 0, none⟩)) (.pointer (some ⟨w2.heap.size, 0, none⟩)) (.pointer (some ⟨(w2.heap.size + 1), 0, none⟩)) (fun W => Pin g 47 cur (k * 14) (cellsPa l[k]) W ∧ Bx W w2.heap.size 27 #[.slice (some ⟨g, 0, none⟩) l.length cap1, .int .i64 pr, .int .i64 al] ∧ Bx W (w2.heap.size + 1) 28 #[.int .i64 8] ∧ Below W1.heap.size W1 W) (fun W => Pin g 47 cur (k * 14) (cellsPa l[k]) W ∧ Bx W w2.heap.size 27 #[.slice (some ⟨g, 0, none⟩) l.length cap1, .int .i64 (k : Int), .int .i64 al] ∧ Bx W (w2.heap.size + 1) 28 #[.int .i64 0] ∧ Below W1.heap.size W1 W)
        (fun W W' h hb => ⟨h.1.later hb, h.2.1.later hb, h.2.2.1.later hb, h.2.2.2.trans (hb.mono h.2.2.2.size)⟩)
        (fun W h => (prim_fn l[k] _ (k : Int) pr al 8 g (w.heap.size + 1) w2.heap.size (w2.heap.size + 1) (k * 14) cur hq9 hq8 (by omega) W h.1 (HX0.out.under h.2.2.2 (by omega)) h.2.1 h.2.2.1).mono fun e W' h9 => ⟨h9.1, h9.2.1, h9.2.2.1, (by have h5 := h9.2.2.2.1; rw [if_neg h1] at h5; exact h5), below_tw h.2.2.2 h9.2.2.2.2 h.2.2.2.size (by simp; omega)⟩) W)
      clear hown hb ht hbx hp0 hat hcur h1
      go_wp2_with (first
    | (go_at_call 37; (with_reducible refine (HCH.out _ ⟨HO.out.later HB2.out, HQ.out, HE.out, HB0.out.trans (HB2.out.mono hws)⟩).mono ?_); rintro e w5 ⟨rfl, h1, h2, h3, h4⟩; clear HO HB2 ci; have HP := Lib.hid h1; replace HQ := Lib.hid h2; replace HE := Lib.hid h3; have HZ := Lib.hid (HZ1.out.later h4); have HB := Lib.hid (HB1.out.trans (h4.mono (by omega))); clear h1 h2 h3 h4; have ce := HE.out.cell 0 (.int .i64 0) rfl)
    | ((with_reducible refine gate9 ?_); refine stB #[.slice (some ⟨g, 0, none⟩) l.length cap1, .int .i64 pr, .int .i64 al] rfl rfl rfl rfl HQ.out infoPs rfl (cells3_one _ _ _ _ _) ?_; intro w4 ht hg; replace HE := Lib.hid (HE.out.kept hg (by omega)); replace HB2 := Lib.hid (below_of_grown1 HB2.out hg HB2.out.size (Nat.le_refl _)); replace HQ := Lib.hid ht; clear ht hg; have ci := (HX0.out.later HB0.out).later HB2.out; replace ci := ci.cell 0 (.int .i64 k) rfl)
    | ((with_reducible refine gate9 ?_); refine stF (.int .i64 8) rfl rfl rfl rfl HE.out (by show 0 < 1; decide) infoE rfl ?_; intro w4 ht hg; clear ci; replace HQ := Lib.hid (HQ.out.kept hg (by omega)); replace HB2 := Lib.hid (below_of_grown1 HB2.out hg HB2.out.size (by omega)); replace HE : Hid (Bx w4 (w2.heap.size + 1) 28 #[.int .i64 8]) := Lib.hid ht; clear ht hg; have ci := (HX0.out.later HB0.out).later HB2.out; replace ci := ci.cell 0 (.int .i64 k) rfl)
    | ((with_reducible refine gate9 ?_); refine ldB rfl rfl rfl HQ.out Try.underlying27 rfl infoPs ?_)
    | ((with_reducible refine gate9 ?_); refine stB #[.slice (some ⟨g, 0, none⟩) l.length cap1, .int .i64 (k : Int), .int .i64 al] rfl rfl rfl rfl HZ.out infoPs rfl (cells3_one _ _ _ _ _) ?_; intro w9 ht9 hg9; replace HB := Lib.hid (below_of_grown1 HB.out hg9 HB.out.size (by omega)); have HRW := Lib.hid ((by have h := (HP.out.kept hg9 hq7).row rfl hnc hcm HCUR.out hlt; rw [List.set_getElem_self] at h; exact h)); replace HZ := Lib.hid ht9; clear ht9 hg9))
      exact bodyPost_ret (retPs1 rfl rfl rfl rfl HZ.out) rfl ⟨_, by rw [HF.out, HG.out]; rfl, by rw [HF.out]; exact HRW.out, HB.out, HFR.out⟩
end Go.Proofs.Ytpihgnpbaaagpaa
