/-
  The document's with, Beat, Good, Fail, Ack, SetPrimary: contracts.
-/
import Derived.Test.YteiifkooegpdaaaPaF
import Derived.Test.YteiifkooegpdaaaPaH
import Derived.Test.YteiifkooegpdaaaRfA
import Derived.Test.YteiifkooegpdaaaRfB
namespace Go.Proofs.Yteiifkooegpdaaa
open Go.RowKit
set_option linter.unusedVariables false
set_option linter.unusedSimpArgs false
set_option maxRecDepth 100000

theorem infoRPaZ : (Try.prog.info? 76).map (fun i => (i.zero, i.size, i.bytes)) = some (some (.agg (cellsPa zeroPa)), 14, 120) := by kernel_rfl
theorem put_all (x y : Pa) : putA (cellsPa y) 0 (cellsPa x).toList = cellsPa x := by kernel_rfl
theorem pinRow' {T : TypeId} {w : World} {g n k : Nat} {l : List Pa} {cur : Array Value} (hb : Bx w g T cur) (hl : l.length = n) (hk : k < l.length) (hc : ∀ j, j < n * 14 → cur[j]? = (flatP l)[j]?) : Pin g T cur (k * 14) (cellsPa l[k]) w :=
  Pin.first hb fun j hj => by
    have hj' : j < 14 := hj
    rw [hc _ (by omega), flatP_at l k j hk hj']
    simp
set_option maxHeartbeats 2000000 in
theorem rwith_any (l : List Pa) (hl : l.length ≤ 100000) (v : Value) (pr al : Int) (k : Nat) (hk : k < l.length) (x : Pa) (w : World) (hv : RowP w v l) :
    Calls Try.prog 44 #[.agg #[v, .int .i64 pr, .int .i64 al], .int .i64 (k : Int), .agg (cellsPa x)] w fun e w' => ∃ v', e = .returned (.agg #[v', .int .i64 pr, .int .i64 al]) ∧ RowP w' v' (l.set k x) ∧ Below w.heap.size w w' ∧ Fresh w.heap.size v' := by
  obtain ⟨A, cap, rfl, hcap, hmax, hcells⟩ := id hv
  obtain ⟨b, off, rfl, hb, hc⟩ := hcells (by omega)
  obtain ⟨W1, hW1, HA, HX, HZ, HB, hs1⟩ := three_open w 33 76 33 #[.slice (some ⟨b, off, none⟩) l.length cap, .int .i64 pr, .int .i64 al] (cellsPa x) #[.slice none 0 0, .int .i64 0, .int .i64 0]
  obtain ⟨i0, hi0, hz0, hz1, hz2⟩ := info_parts infoRPaZ
  have HI := Lib.hid hi0
  have HZ0 := Lib.hid hz0
  have HZ1 := Lib.hid hz1
  have HZ2 := Lib.hid hz2
  have HF := Lib.hid (fedP ((hv.below HB.out).below ((Below.refl W1.heap.size W1).alloc (Nat.le_refl _) (.cells #[] 76))))
  have HO := Lib.hid (World.ownsRow_lit W1 (base := W1.heap.size) (e := 76) (size := 14) #[] 0 (Nat.le_refl _) (Nat.zero_le _) rfl)
  have HL := Lib.hid (flatP_length l)
  have H1 := Lib.hid (flatP_one l)
  have hml : l.length ≤ maxLen := by unfold maxLen; omega
  have hs2 : w.heap.size + 3 ≤ W1.heap.size := by omega
  clear hs1
  have c0 := (HA.out.old (.cells #[] 76)).cell 0 (.slice (some ⟨b, off, none⟩) l.length cap) rfl
  clear hcells hc hi0 hz0 hz1 hz2 hv
  go_enter Try.func44, Try.ntmps44
  go_wp2_with (at_builtin; refine wpList_append_own _ rfl _ _ 31 rfl W1.heap.size 76 i0 _ 14 120 Try.underlying31 HI.out HZ0.out HZ1.out HZ2.out rfl (by decide) _ 0 [] rfl HO.out ⟨b, off, none⟩ l.length cap _ rfl HL.out HF.out H1.out ?c3 ?c4 ?c5 ?_)
  case c4 => omega
  intro v1 w2 hown hgrow _
  have hbw := ((Below.refl W1.heap.size W1).alloc (Nat.le_refl _) (.cells #[] 76)).grown hgrow (by rw [World.size_alloc]; omega) (fun k hk => by cases hk; exact Nat.le_refl _)
  have hown' : w2.ownsRow W1.heap.size 76 14 v1 l.length (flatP l) := by simpa using hown
  obtain ⟨g, cap1, cur, rfl, hgB, hbx, hnc, hcm, hcur⟩ := own_bx hown' (by omega)
  have HP := Lib.hid (pinRow' hbx rfl hk hcur)
  have HCUR := Lib.hid hcur
  replace HA := Lib.hid (HA.out.later hbw)
  replace HX := Lib.hid (HX.out.later hbw)
  replace HZ := Lib.hid (HZ.out.later hbw)
  replace HB := Lib.hid (HB.out.trans (hbw.mono (by omega)))
  clear hown hown' hgrow hbw hbx hcur c0 HF HO HL H1 HI HZ0 HZ1 HZ2 hW1
  have q4 : (0 : Int) ≤ (k : Int) := by omega
  have q5 : (k : Int) < (l.length : Int) := by omega
  go_wp2_with (first
    | ((with_reducible refine gate9 ?_); refine ldB rfl rfl rfl HX.out Try.underlying76 rfl infoRPa ?_)
    | ((with_reducible refine gate9 ?_); refine stPp (xs' := cellsPa x) (o := k * 14) 0 (cellsPa x) rfl rfl rfl rfl HP.out (by show 0 + 14 ≤ 14; decide) infoRPa (cellsPa_one _) (put_all _ _) ?_; intro w3 ht hg; replace HA := Lib.hid (HA.out.kept hg (by omega)); replace HZ := Lib.hid (HZ.out.kept hg (by omega)); replace HB := Lib.hid (below_of_grown1 HB.out hg HB.out.size (by omega)); replace HP := Lib.hid ht; clear ht hg)
    | ((with_reducible refine gate9 ?_); refine stF (.slice (some ⟨g, 0, none⟩) l.length cap1) rfl rfl rfl rfl HA.out (by show 0 < 3; decide) infoRSl rfl ?_; intro w4 ht hg; replace HP := Lib.hid (HP.out.kept hg (by omega)); replace HZ := Lib.hid (HZ.out.kept hg (by omega)); replace HB := Lib.hid (below_of_grown1 HB.out hg HB.out.size (by omega)); replace HA : Hid (Bx w4 w.heap.size 33 #[.slice (some ⟨g, 0, none⟩) l.length cap1, .int .i64 pr, .int .i64 al]) := Lib.hid ht; clear ht hg)
    | ((with_reducible refine gate9 ?_); refine ldB rfl rfl rfl HA.out Try.underlying33 rfl infoRPs ?_)
    | ((with_reducible refine gate9 ?_); refine stB #[.slice (some ⟨g, 0, none⟩) l.length cap1, .int .i64 pr, .int .i64 al] rfl rfl rfl rfl HZ.out infoRPs rfl (cells3_one _ _ _ _ _) ?_; intro w5 ht hg; replace HP := Lib.hid (HP.out.kept hg (by omega)); replace HB := Lib.hid (below_of_grown1 HB.out hg HB.out.size (by omega)); replace HZ := Lib.hid ht; clear ht hg))
  exact bodyPost_ret (retRPs rfl rfl rfl HZ.out) rfl ⟨_, rfl, HP.out.row rfl hnc hcm HCUR.out hk, HB.out, fresh_some (by omega)⟩
theorem rowP_one {w : World} {v : Value} {l : List Pa} (h : RowP w v l) : v.oneCell' = true := by
  obtain ⟨A, cap, rfl, _⟩ := h
  rfl
theorem cells3v {v : Value} (h : v.oneCell' = true) (pr al : Int) : (#[v, .int .i64 pr, .int .i64 al] : Array Value).all (·.oneCell') = true := by cases v <;> first | (cases h; done) | simp [Value.oneCell']
set_option maxHeartbeats 4000000 in
theorem rbeat_any (l : List Pa) (hl : l.length ≤ 100000) (v : Value) (pr al i nonce now : Int) (w : World) (hv : RowP w v l) : Calls Try.prog 23 #[.agg #[v, .int .i64 pr, .int .i64 al], .int .i64 i, .int .u32 nonce, .int .i64 now] w fun e w' => ∃ v', e = .returned (.agg #[v', .int .i64 (beatP ⟨l, pr, al⟩ i nonce now).pr, .int .i64 (beatP ⟨l, pr, al⟩ i nonce now).al]) ∧ RowP w' v' (beatP ⟨l, pr, al⟩ i nonce now).l ∧ Below w.heap.size w w' := by
  obtain ⟨R, hR⟩ : ∃ R, beatP ⟨l, pr, al⟩ i nonce now = R := ⟨_, rfl⟩
  skip
  rw [hR]
  have HRR := Lib.hid hR
  skip
  clear hR 
  obtain ⟨A, cap, rfl, hcap, hmax, hcells⟩ := id hv
  obtain ⟨W1, hW1, HA, HZ, HB, hs1⟩ := two_open w 33 33 #[.slice A l.length cap, .int .i64 pr, .int .i64 al] #[.slice none 0 0, .int .i64 0, .int .i64 0]
  have HV := Lib.hid (fun (W : World) (h : Below w.heap.size w W) => hv.below h)
  have HTH := Lib.hid (fun W => rthere_any A l.length cap pr al i (by unfold maxLen; omega) W)
  have hml : l.length ≤ maxLen := by unfold maxLen; omega
  cases ht : thereB l.length i with
  | false =>
    rw [ht] at HTH
    have HF : Hid (R = ⟨l, pr, al⟩) := Lib.hid (by rw [← HRR.out]; simp [beatP, ht])
    skip
    clear hv hcells ht
    go_enter Try.func23, Try.ntmps23
    go_wp2_with (first
    | (go_at_call 42; (with_reducible refine (HTH.out _).mono ?_); rintro e w1 ⟨rfl, hb1⟩; replace HA := Lib.hid (HA.out.later hb1); replace HZ := Lib.hid (HZ.out.later hb1); replace HB := Lib.hid (HB.out.trans (hb1.mono (by omega))); clear hb1)
    | ((with_reducible refine gate9 ?_); refine ldB rfl rfl rfl HA.out Try.underlying33 rfl infoRPs ?_)
    | ((with_reducible refine gate9 ?_); refine stB #[.slice A l.length cap, .int .i64 pr, .int .i64 al] rfl rfl rfl rfl HZ.out infoRPs rfl (cells3_one _ _ _ _ _) ?_; intro w9 ht9 hg9; have HRW := Lib.hid (HV.out _ (below_of_grown1 HB.out hg9 HB.out.size (by omega))); replace HB := Lib.hid (below_of_grown1 HB.out hg9 HB.out.size (by omega)); replace HZ := Lib.hid ht9; clear ht9 hg9))
    exact bodyPost_ret (retRPs rfl rfl rfl HZ.out) rfl ⟨_, by rw [HF.out], by rw [HF.out]; exact HRW.out, HB.out⟩
  | true =>
    rw [ht] at HTH
    obtain ⟨hlt, hi⟩ := thereB_lt ht
    obtain ⟨b, off, rfl, hb, hc⟩ := hcells (by omega)
    generalize i.toNat = k at *
    subst hi
    have HRG := Lib.hid (fun (W : World) (h : Below w.heap.size w W) => range_below (hc k hlt) hb h)
    have hat : atL l (k : Int) = l[k] := by unfold atL; rw [Int.toNat_natCast, List.getD_eq_getElem?_getD, List.getElem?_eq_getElem hlt]; rfl
    have hup : ∀ f, updL l (k : Int) f = l.set k (f l[k]) := fun f => by unfold updL; rw [Int.toNat_natCast, List.getD_eq_getElem?_getD, List.getElem?_eq_getElem hlt]; rfl
    have q4 : (0 : Int) ≤ (k : Int) := by omega
    have q5 : (k : Int) < (l.length : Int) := by omega
    clear hc hv hcells
    have HF : Hid (R = ⟨l.set k (beatF nonce now l[k]), pr, al⟩) := Lib.hid (by rw [← HRR.out]; simp [beatP, ht, hup])
    clear ht HRR
    generalize hx9 : l[k] = x9 at *
    clear hx9 hat hup
    obtain ⟨ad, st, er, tm, wn, no, be, se⟩ := x9
    have HY := Lib.hid (show beatF nonce now (⟨ad, st, er, tm, wn, no, be, se⟩ : Pa) = ⟨ad, st, er, tm, wn, nonce, now, 1⟩ from rfl)
    generalize beatF nonce now (⟨ad, st, er, tm, wn, no, be, se⟩ : Pa) = y9 at *
    go_enter Try.func23, Try.ntmps23
    go_wp2_with (first
    | (go_at_call 42; (with_reducible refine (HTH.out _).mono ?_); rintro e w1 ⟨rfl, hb1⟩; replace HA := Lib.hid (HA.out.later hb1); replace HZ := Lib.hid (HZ.out.later hb1); replace HB := Lib.hid (HB.out.trans (hb1.mono (by omega))); obtain ⟨W3, hW3, HX0, HB3, hs3⟩ := one_open w1 76 #[.string ⟨#[]⟩, .int .i64 0, .int .i64 0, .int .i64 0, .int .i64 0, .int .i64 0, .int .i64 0, .bool false, .int .i64 0, .int .i64 0, .int .i64 0, .int .u32 0, .int .i64 0, .int .i64 0]; have hwA : w.heap.size ≠ w1.heap.size := Nat.ne_of_lt HA.out.lt; have hwZ : w.heap.size + 1 ≠ w1.heap.size := Nat.ne_of_lt HZ.out.lt; have hwC : w.heap.size ≤ w1.heap.size := HB.out.size; have hwB : w.heap.size ≤ W3.heap.size := (by omega); have c0 := HA.out.cell 0 (.slice (some ⟨b, off, none⟩) l.length cap) rfl; clear hb1)
    | (go_at_call 44; have hz6 := HZ.out.lt; (with_reducible refine (rwith_any l hl _ pr al k hlt ⟨ad, st, er, tm, wn, nonce, now, 1⟩ _ (HV.out _ HB.out)).mono ?_); rintro e w6 ⟨v6, rfl, hr6, hb1, hf6⟩; replace HA := Lib.hid (HA.out.later hb1); replace HZ := Lib.hid (HZ.out.later hb1); have HR6 := Lib.hid hr6; have HF6 : Hid (Fresh (w.heap.size + 2) v6) := Lib.hid (hf6.less hz6); have HO6 := Lib.hid (rowP_one hr6); replace HB := Lib.hid (HB.out.trans (hb1.mono HB.out.size)); clear hb1 hr6 hf6 hz6 HP)
    | ((with_reducible refine gate9 ?_); refine ldR (cs := cellsPa (⟨ad, st, er, tm, wn, no, be, se⟩ : Pa)) rfl rfl rfl (HRG.out _ HB.out) Try.underlying76 rfl infoRPa ?_)
    | ((with_reducible refine gate9 ?_); refine stB (cellsPa (⟨ad, st, er, tm, wn, no, be, se⟩ : Pa)) rfl rfl rfl rfl HX0.out infoRPa rfl (cellsPa_one _) ?_; intro w4 ht hg; clear c0; replace HA := Lib.hid ((HA.out.later HB3.out).kept hg hwA); replace HZ := Lib.hid ((HZ.out.later HB3.out).kept hg hwZ); replace HB := Lib.hid (below_of_grown1 (HB.out.trans (HB3.out.mono HB.out.size)) hg hwB hwC); have HP := Lib.hid (Pin.first (o := 0) ht (pa_part (⟨ad, st, er, tm, wn, no, be, se⟩ : Pa))); clear ht hg HX0 HB3 hW3)
    | ((with_reducible refine gate9 ?_); refine stPf (xs' := cellsPa (⟨ad, st, er, tm, wn, nonce, be, se⟩ : Pa)) (o := 0) 11 (.int .u32 nonce) rfl rfl rfl rfl HP.out (by show 11 < 14; decide) infoU rfl rfl ?_; intro w4 ht hg; replace HA := Lib.hid (HA.out.kept hg hwA); replace HZ := Lib.hid (HZ.out.kept hg hwZ); replace HB := Lib.hid (below_of_grown1 HB.out hg HB.out.size hwC); replace HP := Lib.hid ht; clear ht hg)
    | ((with_reducible refine gate9 ?_); refine stPf (xs' := cellsPa (⟨ad, st, er, tm, wn, nonce, now, se⟩ : Pa)) (o := 0) 12 (.int .i64 now) rfl rfl rfl rfl HP.out (by show 12 < 14; decide) infoI rfl rfl ?_; intro w4 ht hg; replace HA := Lib.hid (HA.out.kept hg hwA); replace HZ := Lib.hid (HZ.out.kept hg hwZ); replace HB := Lib.hid (below_of_grown1 HB.out hg HB.out.size hwC); replace HP := Lib.hid ht; clear ht hg)
    | ((with_reducible refine gate9 ?_); refine stPf (xs' := cellsPa (⟨ad, st, er, tm, wn, nonce, now, 1⟩ : Pa)) (o := 0) 13 (.int .i64 1) rfl rfl rfl rfl HP.out (by show 13 < 14; decide) infoI rfl rfl ?_; intro w4 ht hg; replace HA := Lib.hid (HA.out.kept hg hwA); replace HZ := Lib.hid (HZ.out.kept hg hwZ); replace HB := Lib.hid (below_of_grown1 HB.out hg HB.out.size hwC); replace HP := Lib.hid ht; clear ht hg)
    | ((with_reducible refine gate9 ?_); refine ldPp (o := 0) 0 (cellsPa (⟨ad, st, er, tm, wn, nonce, now, 1⟩ : Pa)) rfl rfl rfl HP.out (pa_part (⟨ad, st, er, tm, wn, nonce, now, 1⟩ : Pa)) Try.underlying76 rfl infoRPa ?_)
    | ((with_reducible refine gate9 ?_); refine ldB rfl rfl rfl HA.out Try.underlying33 rfl infoRPs ?_)
    | ((with_reducible refine gate9 ?_); refine stB #[v6, .int .i64 pr, .int .i64 al] rfl rfl rfl rfl HZ.out infoRPs rfl (cells3v HO6.out _ _) ?_; intro w9 ht9 hg9; have HRW := Lib.hid (HR6.out.stays HF6.out hg9 (by omega)); replace HB := Lib.hid (below_of_grown1 HB.out hg9 HB.out.size (by omega)); replace HZ := Lib.hid ht9; clear ht9 hg9))
    exact bodyPost_ret (retRPs rfl rfl rfl HZ.out) rfl ⟨_, by rw [HF.out], by rw [HF.out, HY.out]; exact HRW.out, HB.out⟩
set_option maxHeartbeats 4000000 in
theorem rgoodP_any (l : List Pa) (hl : l.length ≤ 100000) (v : Value) (pr al i : Int) (w : World) (hv : RowP w v l) : Calls Try.prog 25 #[.agg #[v, .int .i64 pr, .int .i64 al], .int .i64 i] w fun e w' => ∃ v', e = .returned (.agg #[v', .int .i64 (goodP ⟨l, pr, al⟩ i).pr, .int .i64 (goodP ⟨l, pr, al⟩ i).al]) ∧ RowP w' v' (goodP ⟨l, pr, al⟩ i).l ∧ Below w.heap.size w w' ∧ (thereB l.length i = true → Fresh w.heap.size v') := by
  obtain ⟨R, hR⟩ : ∃ R, goodP ⟨l, pr, al⟩ i = R := ⟨_, rfl⟩
  skip
  rw [hR]
  have HRR := Lib.hid hR
  skip
  clear hR 
  obtain ⟨A, cap, rfl, hcap, hmax, hcells⟩ := id hv
  obtain ⟨W1, hW1, HA, HZ, HB, hs1⟩ := two_open w 33 33 #[.slice A l.length cap, .int .i64 pr, .int .i64 al] #[.slice none 0 0, .int .i64 0, .int .i64 0]
  have HV := Lib.hid (fun (W : World) (h : Below w.heap.size w W) => hv.below h)
  have HTH := Lib.hid (fun W => rthere_any A l.length cap pr al i (by unfold maxLen; omega) W)
  have hml : l.length ≤ maxLen := by unfold maxLen; omega
  cases ht : thereB l.length i with
  | false =>
    rw [ht] at HTH
    have HF : Hid (R = ⟨l, pr, al⟩) := Lib.hid (by rw [← HRR.out]; simp [goodP, ht])
    skip
    clear hv hcells 
    go_enter Try.func25, Try.ntmps25
    go_wp2_with (first
    | (go_at_call 42; (with_reducible refine (HTH.out _).mono ?_); rintro e w1 ⟨rfl, hb1⟩; replace HA := Lib.hid (HA.out.later hb1); replace HZ := Lib.hid (HZ.out.later hb1); replace HB := Lib.hid (HB.out.trans (hb1.mono (by omega))); clear hb1)
    | ((with_reducible refine gate9 ?_); refine ldB rfl rfl rfl HA.out Try.underlying33 rfl infoRPs ?_)
    | ((with_reducible refine gate9 ?_); refine stB #[.slice A l.length cap, .int .i64 pr, .int .i64 al] rfl rfl rfl rfl HZ.out infoRPs rfl (cells3_one _ _ _ _ _) ?_; intro w9 ht9 hg9; have HRW := Lib.hid (HV.out _ (below_of_grown1 HB.out hg9 HB.out.size (by omega))); replace HB := Lib.hid (below_of_grown1 HB.out hg9 HB.out.size (by omega)); replace HZ := Lib.hid ht9; clear ht9 hg9))
    exact bodyPost_ret (retRPs rfl rfl rfl HZ.out) rfl ⟨_, by rw [HF.out], by rw [HF.out]; exact HRW.out, HB.out, fun h => by cases h⟩
  | true =>
    rw [ht] at HTH
    obtain ⟨hlt, hi⟩ := thereB_lt ht
    obtain ⟨b, off, rfl, hb, hc⟩ := hcells (by omega)
    generalize i.toNat = k at *
    subst hi
    have HRG := Lib.hid (fun (W : World) (h : Below w.heap.size w W) => range_below (hc k hlt) hb h)
    have hat : atL l (k : Int) = l[k] := by unfold atL; rw [Int.toNat_natCast, List.getD_eq_getElem?_getD, List.getElem?_eq_getElem hlt]; rfl
    have hup : ∀ f, updL l (k : Int) f = l.set k (f l[k]) := fun f => by unfold updL; rw [Int.toNat_natCast, List.getD_eq_getElem?_getD, List.getElem?_eq_getElem hlt]; rfl
    have q4 : (0 : Int) ≤ (k : Int) := by omega
    have q5 : (k : Int) < (l.length : Int) := by omega
    clear hc hv hcells
    have HF : Hid (R = ⟨l.set k (heardF l[k]), pr, 0⟩) := Lib.hid (by rw [← HRR.out]; simp [goodP, ht, hup])
    clear ht HRR
    generalize hx9 : l[k] = x9 at *
    clear hx9 hat hup
    obtain ⟨ad, st, er, tm, wn, no, be, se⟩ := x9
    have HY := Lib.hid (show heardF (⟨ad, st, er, tm, wn, no, be, se⟩ : Pa) = ⟨ad, okSt st, 0, goodT tm, wn, no, be, se⟩ from rfl)
    have HG9 := Lib.hid (fun W => rgood_any tm W)
    generalize heardF (⟨ad, st, er, tm, wn, no, be, se⟩ : Pa) = y9 at *
    generalize goodT tm = tm9 at *
    by_cases h3 : st = 3
    · subst h3
      have HY2 : Hid (y9 = ⟨ad, 2, 0, tm9, wn, no, be, se⟩) := Lib.hid (by rw [HY.out]; simp [okSt])
      go_enter Try.func25, Try.ntmps25
      go_wp2_with (first
    | (go_at_call 42; (with_reducible refine (HTH.out _).mono ?_); rintro e w1 ⟨rfl, hb1⟩; replace HA := Lib.hid (HA.out.later hb1); replace HZ := Lib.hid (HZ.out.later hb1); replace HB := Lib.hid (HB.out.trans (hb1.mono (by omega))); obtain ⟨W3, hW3, HX0, HB3, hs3⟩ := one_open w1 76 #[.string ⟨#[]⟩, .int .i64 0, .int .i64 0, .int .i64 0, .int .i64 0, .int .i64 0, .int .i64 0, .bool false, .int .i64 0, .int .i64 0, .int .i64 0, .int .u32 0, .int .i64 0, .int .i64 0]; have hwA : w.heap.size ≠ w1.heap.size := Nat.ne_of_lt HA.out.lt; have hwZ : w.heap.size + 1 ≠ w1.heap.size := Nat.ne_of_lt HZ.out.lt; have hwC : w.heap.size ≤ w1.heap.size := HB.out.size; have hwB : w.heap.size ≤ W3.heap.size := (by omega); have c0 := HA.out.cell 0 (.slice (some ⟨b, off, none⟩) l.length cap) rfl; clear hb1)
    | (go_at_call 53; (with_reducible refine (HG9.out _).mono ?_); rintro e w5 ⟨rfl, hb1⟩; replace HA := Lib.hid (HA.out.later hb1); replace HZ := Lib.hid (HZ.out.later hb1); replace HP := Lib.hid (HP.out.later hb1); replace HB := Lib.hid (HB.out.trans (hb1.mono HB.out.size)); clear hb1)
    | (go_at_call 44; have hz6 := HZ.out.lt; (with_reducible refine (rwith_any l hl _ pr al k hlt ⟨ad, 2, 0, tm9, wn, no, be, se⟩ _ (HV.out _ HB.out)).mono ?_); rintro e w6 ⟨v6, rfl, hr6, hb1, hf6⟩; replace HA := Lib.hid (HA.out.later hb1); replace HZ := Lib.hid (HZ.out.later hb1); have HR6 := Lib.hid hr6; have HF6 : Hid (Fresh (w.heap.size + 2) v6) := Lib.hid (hf6.less hz6); have HO6 := Lib.hid (rowP_one hr6); replace HB := Lib.hid (HB.out.trans (hb1.mono HB.out.size)); clear hb1 hr6 hf6 hz6 HP)
    | ((with_reducible refine gate9 ?_); refine ldR (cs := cellsPa (⟨ad, 3, er, tm, wn, no, be, se⟩ : Pa)) rfl rfl rfl (HRG.out _ HB.out) Try.underlying76 rfl infoRPa ?_)
    | ((with_reducible refine gate9 ?_); refine stB (cellsPa (⟨ad, 3, er, tm, wn, no, be, se⟩ : Pa)) rfl rfl rfl rfl HX0.out infoRPa rfl (cellsPa_one _) ?_; intro w4 ht hg; clear c0; replace HA := Lib.hid ((HA.out.later HB3.out).kept hg hwA); replace HZ := Lib.hid ((HZ.out.later HB3.out).kept hg hwZ); replace HB := Lib.hid (below_of_grown1 (HB.out.trans (HB3.out.mono HB.out.size)) hg hwB hwC); have HP := Lib.hid (Pin.first (o := 0) ht (pa_part (⟨ad, 3, er, tm, wn, no, be, se⟩ : Pa))); clear ht hg HX0 HB3 hW3)
    | ((with_reducible refine gate9 ?_); refine stPf (xs' := cellsPa (⟨ad, 3, 0, tm, wn, no, be, se⟩ : Pa)) (o := 0) 2 (.int .i64 0) rfl rfl rfl rfl HP.out (by show 2 < 14; decide) infoI rfl rfl ?_; intro w4 ht hg; replace HA := Lib.hid (HA.out.kept hg hwA); replace HZ := Lib.hid (HZ.out.kept hg hwZ); replace HB := Lib.hid (below_of_grown1 HB.out hg HB.out.size hwC); replace HP := Lib.hid ht; clear ht hg)
    | ((with_reducible refine gate9 ?_); refine ldPp (o := 0) 3 (cellsT tm) rfl rfl rfl HP.out (tm_part ⟨ad, 3, 0, tm, wn, no, be, se⟩) Try.underlying71 rfl infoRTm ?_)
    | ((with_reducible refine gate9 ?_); refine stPp (xs' := cellsPa (⟨ad, 3, 0, tm9, wn, no, be, se⟩ : Pa)) (o := 0) 3 (cellsT tm9) rfl rfl rfl rfl HP.out (by show 3 + 5 ≤ 14; decide) infoRTm (cellsT_one _) rfl ?_; intro w4 ht hg; replace HA := Lib.hid (HA.out.kept hg hwA); replace HZ := Lib.hid (HZ.out.kept hg hwZ); replace HB := Lib.hid (below_of_grown1 HB.out hg HB.out.size hwC); replace HP := Lib.hid ht; clear ht hg; have c1 : World.cell? _ ⟨w1.heap.size, 1, none⟩ = some (.int .i64 3) := HP.out.cell 1 _ rfl)
    | ((with_reducible refine gate9 ?_); refine stPf (xs' := cellsPa (⟨ad, 2, 0, tm9, wn, no, be, se⟩ : Pa)) (o := 0) 1 (.int .i64 2) rfl rfl rfl rfl HP.out (by show 1 < 14; decide) infoI rfl rfl ?_; intro w4 ht hg; replace HA := Lib.hid (HA.out.kept hg hwA); replace HZ := Lib.hid (HZ.out.kept hg hwZ); replace HB := Lib.hid (below_of_grown1 HB.out hg HB.out.size hwC); replace HP := Lib.hid ht; clear ht hg; clear c1)
    | ((with_reducible refine gate9 ?_); refine ldPp (o := 0) 0 (cellsPa (⟨ad, 2, 0, tm9, wn, no, be, se⟩ : Pa)) rfl rfl rfl HP.out (pa_part (⟨ad, 2, 0, tm9, wn, no, be, se⟩ : Pa)) Try.underlying76 rfl infoRPa ?_)
    | ((with_reducible refine gate9 ?_); refine stB #[v6, .int .i64 pr, .int .i64 al] rfl rfl rfl rfl HA.out infoRPs rfl (cells3v HO6.out _ _) ?_; intro w7 ht7 hg7; replace HR6 := Lib.hid (HR6.out.stays HF6.out hg7 (by omega)); replace HZ := Lib.hid (HZ.out.kept hg7 (by omega)); replace HB := Lib.hid (below_of_grown1 HB.out hg7 HB.out.size (Nat.le_refl _)); replace HA := Lib.hid ht7; clear ht7 hg7; have ca : World.cell? _ ⟨w.heap.size, 2, none⟩ = some (.int .i64 al) := HA.out.cell 2 _ rfl)
    | ((with_reducible refine gate9 ?_); refine stF (.int .i64 0) rfl rfl rfl rfl HA.out (by show 2 < 3; decide) infoI rfl ?_; intro w7 ht7 hg7; clear ca; replace HR6 := Lib.hid (HR6.out.stays HF6.out hg7 (by omega)); replace HZ := Lib.hid (HZ.out.kept hg7 (by omega)); replace HB := Lib.hid (below_of_grown1 HB.out hg7 HB.out.size (Nat.le_refl _)); replace HA : Hid (Bx w7 w.heap.size 33 #[v6, .int .i64 pr, .int .i64 0]) := Lib.hid ht7; clear ht7 hg7)
    | ((with_reducible refine gate9 ?_); refine ldB rfl rfl rfl HA.out Try.underlying33 rfl infoRPs ?_)
    | ((with_reducible refine gate9 ?_); refine stB #[v6, .int .i64 pr, .int .i64 0] rfl rfl rfl rfl HZ.out infoRPs rfl (cells3v HO6.out _ _) ?_; intro w9 ht9 hg9; have HRW := Lib.hid (HR6.out.stays HF6.out hg9 (by omega)); replace HB := Lib.hid (below_of_grown1 HB.out hg9 HB.out.size (by omega)); replace HZ := Lib.hid ht9; clear ht9 hg9))
      exact bodyPost_ret (retRPs rfl rfl rfl HZ.out) rfl ⟨_, by rw [HF.out], by rw [HF.out, HY2.out]; exact HRW.out, HB.out, fun _ => HF6.out.less (by omega)⟩
    · skip
      have HY2 : Hid (y9 = ⟨ad, st, 0, tm9, wn, no, be, se⟩) := Lib.hid (by rw [HY.out]; simp [okSt, h3])
      go_enter Try.func25, Try.ntmps25
      go_wp2_with (first
    | (go_at_call 42; (with_reducible refine (HTH.out _).mono ?_); rintro e w1 ⟨rfl, hb1⟩; replace HA := Lib.hid (HA.out.later hb1); replace HZ := Lib.hid (HZ.out.later hb1); replace HB := Lib.hid (HB.out.trans (hb1.mono (by omega))); obtain ⟨W3, hW3, HX0, HB3, hs3⟩ := one_open w1 76 #[.string ⟨#[]⟩, .int .i64 0, .int .i64 0, .int .i64 0, .int .i64 0, .int .i64 0, .int .i64 0, .bool false, .int .i64 0, .int .i64 0, .int .i64 0, .int .u32 0, .int .i64 0, .int .i64 0]; have hwA : w.heap.size ≠ w1.heap.size := Nat.ne_of_lt HA.out.lt; have hwZ : w.heap.size + 1 ≠ w1.heap.size := Nat.ne_of_lt HZ.out.lt; have hwC : w.heap.size ≤ w1.heap.size := HB.out.size; have hwB : w.heap.size ≤ W3.heap.size := (by omega); have c0 := HA.out.cell 0 (.slice (some ⟨b, off, none⟩) l.length cap) rfl; clear hb1)
    | (go_at_call 53; (with_reducible refine (HG9.out _).mono ?_); rintro e w5 ⟨rfl, hb1⟩; replace HA := Lib.hid (HA.out.later hb1); replace HZ := Lib.hid (HZ.out.later hb1); replace HP := Lib.hid (HP.out.later hb1); replace HB := Lib.hid (HB.out.trans (hb1.mono HB.out.size)); clear hb1)
    | (go_at_call 44; have hz6 := HZ.out.lt; (with_reducible refine (rwith_any l hl _ pr al k hlt ⟨ad, st, 0, tm9, wn, no, be, se⟩ _ (HV.out _ HB.out)).mono ?_); rintro e w6 ⟨v6, rfl, hr6, hb1, hf6⟩; replace HA := Lib.hid (HA.out.later hb1); replace HZ := Lib.hid (HZ.out.later hb1); have HR6 := Lib.hid hr6; have HF6 : Hid (Fresh (w.heap.size + 2) v6) := Lib.hid (hf6.less hz6); have HO6 := Lib.hid (rowP_one hr6); replace HB := Lib.hid (HB.out.trans (hb1.mono HB.out.size)); clear hb1 hr6 hf6 hz6 HP)
    | ((with_reducible refine gate9 ?_); refine ldR (cs := cellsPa (⟨ad, st, er, tm, wn, no, be, se⟩ : Pa)) rfl rfl rfl (HRG.out _ HB.out) Try.underlying76 rfl infoRPa ?_)
    | ((with_reducible refine gate9 ?_); refine stB (cellsPa (⟨ad, st, er, tm, wn, no, be, se⟩ : Pa)) rfl rfl rfl rfl HX0.out infoRPa rfl (cellsPa_one _) ?_; intro w4 ht hg; clear c0; replace HA := Lib.hid ((HA.out.later HB3.out).kept hg hwA); replace HZ := Lib.hid ((HZ.out.later HB3.out).kept hg hwZ); replace HB := Lib.hid (below_of_grown1 (HB.out.trans (HB3.out.mono HB.out.size)) hg hwB hwC); have HP := Lib.hid (Pin.first (o := 0) ht (pa_part (⟨ad, st, er, tm, wn, no, be, se⟩ : Pa))); clear ht hg HX0 HB3 hW3)
    | ((with_reducible refine gate9 ?_); refine stPf (xs' := cellsPa (⟨ad, st, 0, tm, wn, no, be, se⟩ : Pa)) (o := 0) 2 (.int .i64 0) rfl rfl rfl rfl HP.out (by show 2 < 14; decide) infoI rfl rfl ?_; intro w4 ht hg; replace HA := Lib.hid (HA.out.kept hg hwA); replace HZ := Lib.hid (HZ.out.kept hg hwZ); replace HB := Lib.hid (below_of_grown1 HB.out hg HB.out.size hwC); replace HP := Lib.hid ht; clear ht hg)
    | ((with_reducible refine gate9 ?_); refine ldPp (o := 0) 3 (cellsT tm) rfl rfl rfl HP.out (tm_part ⟨ad, st, 0, tm, wn, no, be, se⟩) Try.underlying71 rfl infoRTm ?_)
    | ((with_reducible refine gate9 ?_); refine stPp (xs' := cellsPa (⟨ad, st, 0, tm9, wn, no, be, se⟩ : Pa)) (o := 0) 3 (cellsT tm9) rfl rfl rfl rfl HP.out (by show 3 + 5 ≤ 14; decide) infoRTm (cellsT_one _) rfl ?_; intro w4 ht hg; replace HA := Lib.hid (HA.out.kept hg hwA); replace HZ := Lib.hid (HZ.out.kept hg hwZ); replace HB := Lib.hid (below_of_grown1 HB.out hg HB.out.size hwC); replace HP := Lib.hid ht; clear ht hg; have c1 : World.cell? _ ⟨w1.heap.size, 1, none⟩ = some (.int .i64 st) := HP.out.cell 1 _ rfl)
    | ((with_reducible refine gate9 ?_); refine ldPp (o := 0) 0 (cellsPa (⟨ad, st, 0, tm9, wn, no, be, se⟩ : Pa)) rfl rfl rfl HP.out (pa_part (⟨ad, st, 0, tm9, wn, no, be, se⟩ : Pa)) Try.underlying76 rfl infoRPa ?_)
    | ((with_reducible refine gate9 ?_); refine stB #[v6, .int .i64 pr, .int .i64 al] rfl rfl rfl rfl HA.out infoRPs rfl (cells3v HO6.out _ _) ?_; intro w7 ht7 hg7; replace HR6 := Lib.hid (HR6.out.stays HF6.out hg7 (by omega)); replace HZ := Lib.hid (HZ.out.kept hg7 (by omega)); replace HB := Lib.hid (below_of_grown1 HB.out hg7 HB.out.size (Nat.le_refl _)); replace HA := Lib.hid ht7; clear ht7 hg7; have ca : World.cell? _ ⟨w.heap.size, 2, none⟩ = some (.int .i64 al) := HA.out.cell 2 _ rfl)
    | ((with_reducible refine gate9 ?_); refine stF (.int .i64 0) rfl rfl rfl rfl HA.out (by show 2 < 3; decide) infoI rfl ?_; intro w7 ht7 hg7; clear ca; replace HR6 := Lib.hid (HR6.out.stays HF6.out hg7 (by omega)); replace HZ := Lib.hid (HZ.out.kept hg7 (by omega)); replace HB := Lib.hid (below_of_grown1 HB.out hg7 HB.out.size (Nat.le_refl _)); replace HA : Hid (Bx w7 w.heap.size 33 #[v6, .int .i64 pr, .int .i64 0]) := Lib.hid ht7; clear ht7 hg7)
    | ((with_reducible refine gate9 ?_); refine ldB rfl rfl rfl HA.out Try.underlying33 rfl infoRPs ?_)
    | ((with_reducible refine gate9 ?_); refine stB #[v6, .int .i64 pr, .int .i64 0] rfl rfl rfl rfl HZ.out infoRPs rfl (cells3v HO6.out _ _) ?_; intro w9 ht9 hg9; have HRW := Lib.hid (HR6.out.stays HF6.out hg9 (by omega)); replace HB := Lib.hid (below_of_grown1 HB.out hg9 HB.out.size (by omega)); replace HZ := Lib.hid ht9; clear ht9 hg9))
      exact bodyPost_ret (retRPs rfl rfl rfl HZ.out) rfl ⟨_, by rw [HF.out], by rw [HF.out, HY2.out]; exact HRW.out, HB.out, fun _ => HF6.out.less (by omega)⟩
end Go.Proofs.Yteiifkooegpdaaa
