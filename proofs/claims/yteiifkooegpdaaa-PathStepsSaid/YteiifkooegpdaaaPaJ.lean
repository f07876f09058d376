/-
  The document's Fail: contract.
-/
import Derived.Test.YteiifkooegpdaaaPaI
namespace Go.Proofs.Yteiifkooegpdaaa
open Go.RowKit
set_option linter.unusedVariables false
set_option linter.unusedSimpArgs false
set_option maxRecDepth 100000

set_option maxHeartbeats 4000000 in
theorem rfail_any (l : List Pa) (hl : l.length ≤ 100000) (v : Value) (pr al i : Int) (hwf : ∀ x ∈ l, WfT x.tm) (w : World) (hv : RowP w v l) : Calls Try.prog 19 #[.agg #[v, .int .i64 pr, .int .i64 al], .int .i64 i] w fun e w' => ∃ v', e = .returned (.tuple #[.agg #[v', .int .i64 (failP ⟨l, pr, al⟩ i).pr, .int .i64 (failP ⟨l, pr, al⟩ i).al], .bool (failB ⟨l, pr, al⟩ i)]) ∧ RowP w' v' (failP ⟨l, pr, al⟩ i).l ∧ Below w.heap.size w w' := by
  obtain ⟨R, hR⟩ : ∃ R, failP ⟨l, pr, al⟩ i = R := ⟨_, rfl⟩
  obtain ⟨rb, hrb⟩ : ∃ rb, failB ⟨l, pr, al⟩ i = rb := ⟨_, rfl⟩
  rw [hR, hrb]
  have HRR := Lib.hid hR
  have HRB := Lib.hid hrb
  clear hR hrb
  obtain ⟨A, cap, rfl, hcap, hmax, hcells⟩ := id hv
  obtain ⟨W1, hW1, HA, HZ, HB, hs1⟩ := two_open w 33 33 #[.slice A l.length cap, .int .i64 pr, .int .i64 al] #[.slice none 0 0, .int .i64 0, .int .i64 0]
  have HV := Lib.hid (fun (W : World) (h : Below w.heap.size w W) => hv.below h)
  have HTH := Lib.hid (fun W => rthere_any A l.length cap pr al i (by unfold maxLen; omega) W)
  have hml : l.length ≤ maxLen := by unfold maxLen; omega
  cases ht : thereB l.length i with
  | false =>
    rw [ht] at HTH
    have HF : Hid (R = ⟨l, pr, al⟩) := Lib.hid (by rw [← HRR.out]; simp [failP, ht])
    have HG : Hid (rb = false) := Lib.hid (by rw [← HRB.out]; simp [failB, ht])
    clear hv hcells ht
    go_enter Try.func19, Try.ntmps19
    go_wp2_with (first
    | (go_at_call 42; (with_reducible refine (HTH.out _).mono ?_); rintro e w1 ⟨rfl, hb1⟩; replace HA := Lib.hid (HA.out.later hb1); replace HZ := Lib.hid (HZ.out.later hb1); replace HB := Lib.hid (HB.out.trans (hb1.mono (by omega))); clear hb1)
    | ((with_reducible refine gate9 ?_); refine ldB rfl rfl rfl HA.out Try.underlying33 rfl infoRPs ?_)
    | ((with_reducible refine gate9 ?_); refine stB #[.slice A l.length cap, .int .i64 pr, .int .i64 al] rfl rfl rfl rfl HZ.out infoRPs rfl (cells3_one _ _ _ _ _) ?_; intro w9 ht9 hg9; have HRW := Lib.hid (HV.out _ (below_of_grown1 HB.out hg9 HB.out.size (by omega))); replace HB := Lib.hid (below_of_grown1 HB.out hg9 HB.out.size (by omega)); replace HZ := Lib.hid ht9; clear ht9 hg9))
    exact bodyPost_ret (retRPs1 rfl rfl rfl rfl HZ.out) rfl ⟨_, by rw [HF.out, HG.out]; rfl, by rw [HF.out]; exact HRW.out, HB.out⟩
  | true =>
    rw [ht] at HTH
    obtain ⟨hlt, hi⟩ := thereB_lt ht
    obtain ⟨b, off, rfl, hb, hc⟩ := hcells (by omega)
    generalize i.toNat = k at *
    subst hi
    have HRG := Lib.hid (fun (W : World) (h : Below w.heap.size w W) => range_below (hc k hlt) hb h)
    have hat : atL l (k : Int) = l[k] := by unfold atL; rw [Int.toNat_natCast, List.getD_eq_getElem?_getD, List.getElem?_eq_getElem hlt]; rfl
    have hup : ∀ f, updL l (k : Int) f = l.set k (f l[k]) := fun f => by unfold updL; rw [Int.toNat_natCast, List.getD_eq_getElem?_getD, List.getElem?_eq_getElem hlt]; rfl
    have q4 : (0 : Int) ≤ (k : Int) := by omega
    have q5 : (k : Int) < (l.length : Int) := by omega
    clear hc hv hcells
    have HF : Hid (R = ⟨l.set k (failF l[k]), pr, wrap64 (al + 1)⟩) := Lib.hid (by rw [← HRR.out]; simp [failP, ht, hup])
    have HG : Hid (rb = decide (10 < wrap64 (al + 1))) := Lib.hid (by rw [← HRB.out]; simp [failB, ht])
    have hw9 := hwf _ (List.getElem_mem hlt)
    clear ht HRR HRB hwf
    generalize hx9 : l[k] = x9 at *
    clear hx9 hat hup
    obtain ⟨ad, st, er, tm, wn, no, be, se⟩ := x9
    obtain ⟨E, hE⟩ : ∃ E, wrap64 (er + 1) = E := ⟨_, rfl⟩
    obtain ⟨M, hM⟩ : ∃ M, wrap64 (al + 1) = M := ⟨_, rfl⟩
    have HY := Lib.hid (show failF (⟨ad, st, er, tm, wn, no, be, se⟩ : Pa) = ⟨ad, downSt E st, E, backT tm, Wi.restartedT (Wi.heldT wn), no, be, se⟩ by rw [← hE]; rfl)
    have hE2 : IntKind.i64.wrap (er + 1) = E := by rw [IntKind.wrap_i64, ← hE]; unfold wrap64; omega
    have hM2 : IntKind.i64.wrap (al + 1) = M := by rw [IntKind.wrap_i64, ← hM]; unfold wrap64; omega
    rw [hM] at HF HG
    have HK1 := Lib.hid (fun W => rback_any tm hw9 W)
    have HK2 := Lib.hid (fun W => Wi.rtimeout_any wn W)
    generalize failF (⟨ad, st, er, tm, wn, no, be, se⟩ : Pa) = y9 at *
    generalize backT tm = tm9 at *
    generalize Wi.restartedT (Wi.heldT wn) = wn9 at *
    clear hw9
    by_cases h5 : 5 < E
    · by_cases h2 : st = 2
      · subst h2
        rw [show downSt E 2 = 3 from if_pos ⟨h5, rfl⟩] at HY
        go_enter Try.func19, Try.ntmps19
        go_wp2_with (first
    | (go_at_call 42; (with_reducible refine (HTH.out _).mono ?_); rintro e w1 ⟨rfl, hb1⟩; replace HA := Lib.hid (HA.out.later hb1); replace HZ := Lib.hid (HZ.out.later hb1); replace HB := Lib.hid (HB.out.trans (hb1.mono (by omega))); obtain ⟨W3, hW3, HX0, HB3, hs3⟩ := one_open w1 76 #[.string ⟨#[]⟩, .int .i64 0, .int .i64 0, .int .i64 0, .int .i64 0, .int .i64 0, .int .i64 0, .bool false, .int .i64 0, .int .i64 0, .int .i64 0, .int .u32 0, .int .i64 0, .int .i64 0]; have hwA : w.heap.size ≠ w1.heap.size := Nat.ne_of_lt HA.out.lt; have hwZ : w.heap.size + 1 ≠ w1.heap.size := Nat.ne_of_lt HZ.out.lt; have hwC : w.heap.size ≤ w1.heap.size := HB.out.size; have hwB : w.heap.size ≤ W3.heap.size := (by omega); have c0 := HA.out.cell 0 (.slice (some ⟨b, off, none⟩) l.length cap) rfl; clear hb1)
    | (go_at_call 48; (with_reducible refine (HK1.out _).mono ?_); rintro e w5 ⟨rfl, hb1⟩; replace HA := Lib.hid (HA.out.later hb1); replace HZ := Lib.hid (HZ.out.later hb1); replace HP := Lib.hid (HP.out.later hb1); replace HB := Lib.hid (HB.out.trans (hb1.mono HB.out.size)); clear hb1)
    | (go_at_call 49; (with_reducible refine (HK2.out _).mono ?_); rintro e w5 ⟨rfl, hb1⟩; replace HA := Lib.hid (HA.out.later hb1); replace HZ := Lib.hid (HZ.out.later hb1); replace HP := Lib.hid (HP.out.later hb1); replace HB := Lib.hid (HB.out.trans (hb1.mono HB.out.size)); clear hb1)
    | (go_at_call 44; have hz6 := HZ.out.lt; (with_reducible refine (rwith_any l hl _ pr al k hlt ⟨ad, 3, E, tm9, wn9, no, be, se⟩ _ (HV.out _ HB.out)).mono ?_); rintro e w6 ⟨v6, rfl, hr6, hb1, hf6⟩; replace HA := Lib.hid (HA.out.later hb1); replace HZ := Lib.hid (HZ.out.later hb1); have HR6 := Lib.hid hr6; have HF6 : Hid (Fresh (w.heap.size + 2) v6) := Lib.hid (hf6.less hz6); have HO6 := Lib.hid (rowP_one hr6); replace HB := Lib.hid (HB.out.trans (hb1.mono HB.out.size)); clear hb1 hr6 hf6 hz6 HP)
    | ((with_reducible refine gate9 ?_); refine ldR (cs := cellsPa (⟨ad, 2, er, tm, wn, no, be, se⟩ : Pa)) rfl rfl rfl (HRG.out _ HB.out) Try.underlying76 rfl infoRPa ?_)
    | ((with_reducible refine gate9 ?_); refine stB (cellsPa (⟨ad, 2, er, tm, wn, no, be, se⟩ : Pa)) rfl rfl rfl rfl HX0.out infoRPa rfl (cellsPa_one _) ?_; intro w4 ht hg; clear c0; replace HA := Lib.hid ((HA.out.later HB3.out).kept hg hwA); replace HZ := Lib.hid ((HZ.out.later HB3.out).kept hg hwZ); replace HB := Lib.hid (below_of_grown1 (HB.out.trans (HB3.out.mono HB.out.size)) hg hwB hwC); have HP := Lib.hid (Pin.first (o := 0) ht (pa_part (⟨ad, 2, er, tm, wn, no, be, se⟩ : Pa))); clear ht hg HX0 HB3 hW3; have c2 : World.cell? _ ⟨w1.heap.size, 2, none⟩ = some (.int .i64 er) := HP.out.cell 2 _ rfl)
    | ((with_reducible refine gate9 ?_); refine stPf (xs' := cellsPa (⟨ad, 2, E, tm, wn, no, be, se⟩ : Pa)) (o := 0) 2 (.int .i64 E) rfl rfl rfl rfl HP.out (by show 2 < 14; decide) infoI rfl rfl ?_; intro w4 ht hg; replace HA := Lib.hid (HA.out.kept hg hwA); replace HZ := Lib.hid (HZ.out.kept hg hwZ); replace HB := Lib.hid (below_of_grown1 HB.out hg HB.out.size hwC); replace HP := Lib.hid ht; clear ht hg; clear c2)
    | ((with_reducible refine gate9 ?_); refine ldPp (o := 0) 3 (cellsT tm) rfl rfl rfl HP.out (tm_part ⟨ad, 2, E, tm, wn, no, be, se⟩) Try.underlying71 rfl infoRTm ?_)
    | ((with_reducible refine gate9 ?_); refine stPp (xs' := cellsPa (⟨ad, 2, E, tm9, wn, no, be, se⟩ : Pa)) (o := 0) 3 (cellsT tm9) rfl rfl rfl rfl HP.out (by show 3 + 5 ≤ 14; decide) infoRTm (cellsT_one _) rfl ?_; intro w4 ht hg; replace HA := Lib.hid (HA.out.kept hg hwA); replace HZ := Lib.hid (HZ.out.kept hg hwZ); replace HB := Lib.hid (below_of_grown1 HB.out hg HB.out.size hwC); replace HP := Lib.hid ht; clear ht hg)
    | ((with_reducible refine gate9 ?_); refine ldPp (o := 0) 8 (Wi.cellsT wn) rfl rfl rfl HP.out (wn_part ⟨ad, 2, E, tm9, wn, no, be, se⟩) Try.underlying73 rfl infoRWn ?_)
    | ((with_reducible refine gate9 ?_); refine stPp (xs' := cellsPa (⟨ad, 2, E, tm9, wn9, no, be, se⟩ : Pa)) (o := 0) 8 (Wi.cellsT wn9) rfl rfl rfl rfl HP.out (by show 8 + 3 ≤ 14; decide) infoRWn (Wi.cellsT_one _) rfl ?_; intro w4 ht hg; replace HA := Lib.hid (HA.out.kept hg hwA); replace HZ := Lib.hid (HZ.out.kept hg hwZ); replace HB := Lib.hid (below_of_grown1 HB.out hg HB.out.size hwC); replace HP := Lib.hid ht; clear ht hg; have c1 : World.cell? _ ⟨w1.heap.size, 1, none⟩ = some (.int .i64 2) := HP.out.cell 1 _ rfl; have c2 : World.cell? _ ⟨w1.heap.size, 2, none⟩ = some (.int .i64 E) := HP.out.cell 2 _ rfl)
    | ((with_reducible refine gate9 ?_); refine stPf (xs' := cellsPa (⟨ad, 3, E, tm9, wn9, no, be, se⟩ : Pa)) (o := 0) 1 (.int .i64 3) rfl rfl rfl rfl HP.out (by show 1 < 14; decide) infoI rfl rfl ?_; intro w4 ht hg; replace HA := Lib.hid (HA.out.kept hg hwA); replace HZ := Lib.hid (HZ.out.kept hg hwZ); replace HB := Lib.hid (below_of_grown1 HB.out hg HB.out.size hwC); replace HP := Lib.hid ht; clear ht hg; clear c1 c2)
    | ((with_reducible refine gate9 ?_); refine ldPp (o := 0) 0 (cellsPa (⟨ad, 3, E, tm9, wn9, no, be, se⟩ : Pa)) rfl rfl rfl HP.out (pa_part (⟨ad, 3, E, tm9, wn9, no, be, se⟩ : Pa)) Try.underlying76 rfl infoRPa ?_)
    | ((with_reducible refine gate9 ?_); refine stB #[v6, .int .i64 pr, .int .i64 al] rfl rfl rfl rfl HA.out infoRPs rfl (cells3v HO6.out _ _) ?_; intro w7 ht7 hg7; replace HR6 := Lib.hid (HR6.out.stays HF6.out hg7 (by omega)); replace HZ := Lib.hid (HZ.out.kept hg7 (by omega)); replace HB := Lib.hid (below_of_grown1 HB.out hg7 HB.out.size (Nat.le_refl _)); replace HA := Lib.hid ht7; clear ht7 hg7; have ca : World.cell? _ ⟨w.heap.size, 2, none⟩ = some (.int .i64 al) := HA.out.cell 2 _ rfl)
    | ((with_reducible refine gate9 ?_); refine stF (.int .i64 M) rfl rfl rfl rfl HA.out (by show 2 < 3; decide) infoI rfl ?_; intro w7 ht7 hg7; clear ca; replace HR6 := Lib.hid (HR6.out.stays HF6.out hg7 (by omega)); replace HZ := Lib.hid (HZ.out.kept hg7 (by omega)); replace HB := Lib.hid (below_of_grown1 HB.out hg7 HB.out.size (Nat.le_refl _)); replace HA : Hid (Bx w7 w.heap.size 33 #[v6, .int .i64 pr, .int .i64 M]) := Lib.hid ht7; clear ht7 hg7)
    | ((with_reducible refine gate9 ?_); refine ldB rfl rfl rfl HA.out Try.underlying33 rfl infoRPs ?_))
        refine wp_region_noPanic ?_
        refine wp_region_waits (S := fun V => Bx V w.heap.size 33 #[v6, .int .i64 pr, .int .i64 M]) [] (by kernel_rfl) HA.out (fun hHeld => ?_)
        clear HA hE hE2 hM hM2 HK1 HK2
        refine wpAnyW_take (i := 0) (v := _) (by simp only [List.getElem?_toArray, List.getElem?_cons_zero]; rfl) (by kernel_rfl) (by kernel_rfl) (by kernel_rfl) (by kernel_rfl) (by kernel_rfl) (fun _ _ _ h => h) (yB (by rfl) rfl rfl (fun V h => h) Try.underlying33 rfl infoRPs) (by assumption) ?_
        try simp only [Act.put, List.setIfInBounds_toArray, List.set_cons_zero, List.set_cons_succ]
        refine wpAnyW_take (i := 1) (v := ?_) (by simp only [List.getElem?_toArray, List.getElem?_cons_succ, List.getElem?_cons_zero]; rfl) (by kernel_rfl) (by kernel_rfl) (by kernel_rfl) (by kernel_rfl) (by kernel_rfl) (fun _ _ _ h => h) (Or.inl ⟨by rfl, ?_⟩) (by assumption) ?_
        rotate_left 1
        · (intro w' hSw; go_simp; try with_reducible rfl)
        try simp only [Act.put, List.setIfInBounds_toArray, List.set_cons_zero, List.set_cons_succ]
        refine wpAnyW_take (i := 2) (v := ?_) (by simp only [List.getElem?_toArray, List.getElem?_cons_succ, List.getElem?_cons_zero]; rfl) (by kernel_rfl) (by kernel_rfl) (by kernel_rfl) (by kernel_rfl) (by kernel_rfl) (fun _ _ _ h => h) (Or.inl ⟨by rfl, ?_⟩) (by assumption) ?_
        rotate_left 1
        · (intro w' hSw; have hq : w'.cell? ⟨w.heap.size, 2, none⟩ = some (.int .i64 M) := hSw.cell 2 _ rfl; go_simp; try with_reducible rfl)
        try simp only [Act.put, List.setIfInBounds_toArray, List.set_cons_zero, List.set_cons_succ]
        refine wpAnyW_take (i := 3) (v := ?_) (by simp only [List.getElem?_toArray, List.getElem?_cons_succ, List.getElem?_cons_zero]; rfl) (by kernel_rfl) (by kernel_rfl) (by kernel_rfl) (by kernel_rfl) (by kernel_rfl) (fun _ _ _ h => h) (Or.inl ⟨by rfl, ?_⟩) (by assumption) ?_
        rotate_left 1
        · (intro w' hSw; go_simp; try with_reducible rfl)
        try simp only [Act.put, List.setIfInBounds_toArray, List.set_cons_zero, List.set_cons_succ]
        refine wpAnyW_held (i := 4) (by kernel_rfl) (by simp only [List.getElem?_toArray, List.getElem?_cons_succ, List.getElem?_cons_zero]; rfl) (fun K hK => ?_)
        rw [if_pos (by rfl)]
        refine wpB #[v6, .int .i64 pr, .int .i64 M] rfl rfl rfl HZ.out infoRPs rfl (cells3v HO6.out _ _) ?_
        intro w9 ht9 hg9'
        have hg9 : World.grownBy _ w9 (some (w.heap.size + 1)) := hg9'
        have HRW := Lib.hid ((show RowP (World.drew _) v6 _ from HR6.out).stays HF6.out hg9 (by omega))
        replace HB := Lib.hid (below_of_grown1 (below_drawn HB.out) hg9 HB.out.size (by omega))
        have hS := hHeld.kept hg9 (by omega)
        replace HZ := Lib.hid ht9
        clear ht9 hg9 hg9' hHeld
        refine hK.out _ _ hS (fun hHeld => ?_)
        clear hK K hS
        try simp only [Act.put, List.setIfInBounds_toArray, List.set_cons_zero, List.set_cons_succ]
        refine wpAnyW_held (i := 5) (by kernel_rfl) (by simp only [List.getElem?_toArray, List.getElem?_cons_succ, List.getElem?_cons_zero]; rfl) (fun K hK => ?_)
        rw [if_pos (by rfl)]
        go_simp
        refine hK.out _ _ hHeld (fun hHeld => ?_)
        clear hK K
        try simp only [Act.put, List.setIfInBounds_toArray, List.set_cons_zero, List.set_cons_succ]
        refine wpAnyW_done (by kernel_rfl) ?_ _
        refine NoPanic.normal ?_
        go_wp2_with fail
        exact bodyPost_ret (retRPs1 rfl rfl rfl rfl HZ.out) rfl ⟨_, by rw [HF.out, HG.out]; rfl, by rw [HF.out, HY.out]; exact HRW.out, HB.out⟩
      · rw [show downSt E st = st from if_neg (fun h => h2 h.2)] at HY
        go_enter Try.func19, Try.ntmps19
        go_wp2_with (first
    | (go_at_call 42; (with_reducible refine (HTH.out _).mono ?_); rintro e w1 ⟨rfl, hb1⟩; replace HA := Lib.hid (HA.out.later hb1); replace HZ := Lib.hid (HZ.out.later hb1); replace HB := Lib.hid (HB.out.trans (hb1.mono (by omega))); obtain ⟨W3, hW3, HX0, HB3, hs3⟩ := one_open w1 76 #[.string ⟨#[]⟩, .int .i64 0, .int .i64 0, .int .i64 0, .int .i64 0, .int .i64 0, .int .i64 0, .bool false, .int .i64 0, .int .i64 0, .int .i64 0, .int .u32 0, .int .i64 0, .int .i64 0]; have hwA : w.heap.size ≠ w1.heap.size := Nat.ne_of_lt HA.out.lt; have hwZ : w.heap.size + 1 ≠ w1.heap.size := Nat.ne_of_lt HZ.out.lt; have hwC : w.heap.size ≤ w1.heap.size := HB.out.size; have hwB : w.heap.size ≤ W3.heap.size := (by omega); have c0 := HA.out.cell 0 (.slice (some ⟨b, off, none⟩) l.length cap) rfl; clear hb1)
    | (go_at_call 48; (with_reducible refine (HK1.out _).mono ?_); rintro e w5 ⟨rfl, hb1⟩; replace HA := Lib.hid (HA.out.later hb1); replace HZ := Lib.hid (HZ.out.later hb1); replace HP := Lib.hid (HP.out.later hb1); replace HB := Lib.hid (HB.out.trans (hb1.mono HB.out.size)); clear hb1)
    | (go_at_call 49; (with_reducible refine (HK2.out _).mono ?_); rintro e w5 ⟨rfl, hb1⟩; replace HA := Lib.hid (HA.out.later hb1); replace HZ := Lib.hid (HZ.out.later hb1); replace HP := Lib.hid (HP.out.later hb1); replace HB := Lib.hid (HB.out.trans (hb1.mono HB.out.size)); clear hb1)
    | (go_at_call 44; have hz6 := HZ.out.lt; (with_reducible refine (rwith_any l hl _ pr al k hlt ⟨ad, st, E, tm9, wn9, no, be, se⟩ _ (HV.out _ HB.out)).mono ?_); rintro e w6 ⟨v6, rfl, hr6, hb1, hf6⟩; replace HA := Lib.hid (HA.out.later hb1); replace HZ := Lib.hid (HZ.out.later hb1); have HR6 := Lib.hid hr6; have HF6 : Hid (Fresh (w.heap.size + 2) v6) := Lib.hid (hf6.less hz6); have HO6 := Lib.hid (rowP_one hr6); replace HB := Lib.hid (HB.out.trans (hb1.mono HB.out.size)); clear hb1 hr6 hf6 hz6 HP)
    | ((with_reducible refine gate9 ?_); refine ldR (cs := cellsPa (⟨ad, st, er, tm, wn, no, be, se⟩ : Pa)) rfl rfl rfl (HRG.out _ HB.out) Try.underlying76 rfl infoRPa ?_)
    | ((with_reducible refine gate9 ?_); refine stB (cellsPa (⟨ad, st, er, tm, wn, no, be, se⟩ : Pa)) rfl rfl rfl rfl HX0.out infoRPa rfl (cellsPa_one _) ?_; intro w4 ht hg; clear c0; replace HA := Lib.hid ((HA.out.later HB3.out).kept hg hwA); replace HZ := Lib.hid ((HZ.out.later HB3.out).kept hg hwZ); replace HB := Lib.hid (below_of_grown1 (HB.out.trans (HB3.out.mono HB.out.size)) hg hwB hwC); have HP := Lib.hid (Pin.first (o := 0) ht (pa_part (⟨ad, st, er, tm, wn, no, be, se⟩ : Pa))); clear ht hg HX0 HB3 hW3; have c2 : World.cell? _ ⟨w1.heap.size, 2, none⟩ = some (.int .i64 er) := HP.out.cell 2 _ rfl)
    | ((with_reducible refine gate9 ?_); refine stPf (xs' := cellsPa (⟨ad, st, E, tm, wn, no, be, se⟩ : Pa)) (o := 0) 2 (.int .i64 E) rfl rfl rfl rfl HP.out (by show 2 < 14; decide) infoI rfl rfl ?_; intro w4 ht hg; replace HA := Lib.hid (HA.out.kept hg hwA); replace HZ := Lib.hid (HZ.out.kept hg hwZ); replace HB := Lib.hid (below_of_grown1 HB.out hg HB.out.size hwC); replace HP := Lib.hid ht; clear ht hg; clear c2)
    | ((with_reducible refine gate9 ?_); refine ldPp (o := 0) 3 (cellsT tm) rfl rfl rfl HP.out (tm_part ⟨ad, st, E, tm, wn, no, be, se⟩) Try.underlying71 rfl infoRTm ?_)
    | ((with_reducible refine gate9 ?_); refine stPp (xs' := cellsPa (⟨ad, st, E, tm9, wn, no, be, se⟩ : Pa)) (o := 0) 3 (cellsT tm9) rfl rfl rfl rfl HP.out (by show 3 + 5 ≤ 14; decide) infoRTm (cellsT_one _) rfl ?_; intro w4 ht hg; replace HA := Lib.hid (HA.out.kept hg hwA); replace HZ := Lib.hid (HZ.out.kept hg hwZ); replace HB := Lib.hid (below_of_grown1 HB.out hg HB.out.size hwC); replace HP := Lib.hid ht; clear ht hg)
    | ((with_reducible refine gate9 ?_); refine ldPp (o := 0) 8 (Wi.cellsT wn) rfl rfl rfl HP.out (wn_part ⟨ad, st, E, tm9, wn, no, be, se⟩) Try.underlying73 rfl infoRWn ?_)
    | ((with_reducible refine gate9 ?_); refine stPp (xs' := cellsPa (⟨ad, st, E, tm9, wn9, no, be, se⟩ : Pa)) (o := 0) 8 (Wi.cellsT wn9) rfl rfl rfl rfl HP.out (by show 8 + 3 ≤ 14; decide) infoRWn (Wi.cellsT_one _) rfl ?_; intro w4 ht hg; replace HA := Lib.hid (HA.out.kept hg hwA); replace HZ := Lib.hid (HZ.out.kept hg hwZ); replace HB := Lib.hid (below_of_grown1 HB.out hg HB.out.size hwC); replace HP := Lib.hid ht; clear ht hg; have c1 : World.cell? _ ⟨w1.heap.size, 1, none⟩ = some (.int .i64 st) := HP.out.cell 1 _ rfl; have c2 : World.cell? _ ⟨w1.heap.size, 2, none⟩ = some (.int .i64 E) := HP.out.cell 2 _ rfl)
    | ((with_reducible refine gate9 ?_); refine ldPp (o := 0) 0 (cellsPa (⟨ad, st, E, tm9, wn9, no, be, se⟩ : Pa)) rfl rfl rfl HP.out (pa_part (⟨ad, st, E, tm9, wn9, no, be, se⟩ : Pa)) Try.underlying76 rfl infoRPa ?_)
    | ((with_reducible refine gate9 ?_); refine stB #[v6, .int .i64 pr, .int .i64 al] rfl rfl rfl rfl HA.out infoRPs rfl (cells3v HO6.out _ _) ?_; intro w7 ht7 hg7; replace HR6 := Lib.hid (HR6.out.stays HF6.out hg7 (by omega)); replace HZ := Lib.hid (HZ.out.kept hg7 (by omega)); replace HB := Lib.hid (below_of_grown1 HB.out hg7 HB.out.size (Nat.le_refl _)); replace HA := Lib.hid ht7; clear ht7 hg7; have ca : World.cell? _ ⟨w.heap.size, 2, none⟩ = some (.int .i64 al) := HA.out.cell 2 _ rfl)
    | ((with_reducible refine gate9 ?_); refine stF (.int .i64 M) rfl rfl rfl rfl HA.out (by show 2 < 3; decide) infoI rfl ?_; intro w7 ht7 hg7; clear ca; replace HR6 := Lib.hid (HR6.out.stays HF6.out hg7 (by omega)); replace HZ := Lib.hid (HZ.out.kept hg7 (by omega)); replace HB := Lib.hid (below_of_grown1 HB.out hg7 HB.out.size (Nat.le_refl _)); replace HA : Hid (Bx w7 w.heap.size 33 #[v6, .int .i64 pr, .int .i64 M]) := Lib.hid ht7; clear ht7 hg7)
    | ((with_reducible refine gate9 ?_); refine ldB rfl rfl rfl HA.out Try.underlying33 rfl infoRPs ?_))
        refine wp_region_noPanic ?_
        refine wp_region_waits (S := fun V => Bx V w.heap.size 33 #[v6, .int .i64 pr, .int .i64 M]) [] (by kernel_rfl) HA.out (fun hHeld => ?_)
        clear HA hE hE2 hM hM2 HK1 HK2
        refine wpAnyW_take (i := 0) (v := _) (by simp only [List.getElem?_toArray, List.getElem?_cons_zero]; rfl) (by kernel_rfl) (by kernel_rfl) (by kernel_rfl) (by kernel_rfl) (by kernel_rfl) (fun _ _ _ h => h) (yB (by rfl) rfl rfl (fun V h => h) Try.underlying33 rfl infoRPs) (by assumption) ?_
        try simp only [Act.put, List.setIfInBounds_toArray, List.set_cons_zero, List.set_cons_succ]
        refine wpAnyW_take (i := 1) (v := ?_) (by simp only [List.getElem?_toArray, List.getElem?_cons_succ, List.getElem?_cons_zero]; rfl) (by kernel_rfl) (by kernel_rfl) (by kernel_rfl) (by kernel_rfl) (by kernel_rfl) (fun _ _ _ h => h) (Or.inl ⟨by rfl, ?_⟩) (by assumption) ?_
        rotate_left 1
        · (intro w' hSw; go_simp; try with_reducible rfl)
        try simp only [Act.put, List.setIfInBounds_toArray, List.set_cons_zero, List.set_cons_succ]
        refine wpAnyW_take (i := 2) (v := ?_) (by simp only [List.getElem?_toArray, List.getElem?_cons_succ, List.getElem?_cons_zero]; rfl) (by kernel_rfl) (by kernel_rfl) (by kernel_rfl) (by kernel_rfl) (by kernel_rfl) (fun _ _ _ h => h) (Or.inl ⟨by rfl, ?_⟩) (by assumption) ?_
        rotate_left 1
        · (intro w' hSw; have hq : w'.cell? ⟨w.heap.size, 2, none⟩ = some (.int .i64 M) := hSw.cell 2 _ rfl; go_simp; try with_reducible rfl)
        try simp only [Act.put, List.setIfInBounds_toArray, List.set_cons_zero, List.set_cons_succ]
        refine wpAnyW_take (i := 3) (v := ?_) (by simp only [List.getElem?_toArray, List.getElem?_cons_succ, List.getElem?_cons_zero]; rfl) (by kernel_rfl) (by kernel_rfl) (by kernel_rfl) (by kernel_rfl) (by kernel_rfl) (fun _ _ _ h => h) (Or.inl ⟨by rfl, ?_⟩) (by assumption) ?_
        rotate_left 1
        · (intro w' hSw; go_simp; try with_reducible rfl)
        try simp only [Act.put, List.setIfInBounds_toArray, List.set_cons_zero, List.set_cons_succ]
        refine wpAnyW_held (i := 4) (by kernel_rfl) (by simp only [List.getElem?_toArray, List.getElem?_cons_succ, List.getElem?_cons_zero]; rfl) (fun K hK => ?_)
        rw [if_pos (by rfl)]
        refine wpB #[v6, .int .i64 pr, .int .i64 M] rfl rfl rfl HZ.out infoRPs rfl (cells3v HO6.out _ _) ?_
        intro w9 ht9 hg9'
        have hg9 : World.grownBy _ w9 (some (w.heap.size + 1)) := hg9'
        have HRW := Lib.hid ((show RowP (World.drew _) v6 _ from HR6.out).stays HF6.out hg9 (by omega))
        replace HB := Lib.hid (below_of_grown1 (below_drawn HB.out) hg9 HB.out.size (by omega))
        have hS := hHeld.kept hg9 (by omega)
        replace HZ := Lib.hid ht9
        clear ht9 hg9 hg9' hHeld
        refine hK.out _ _ hS (fun hHeld => ?_)
        clear hK K hS
        try simp only [Act.put, List.setIfInBounds_toArray, List.set_cons_zero, List.set_cons_succ]
        refine wpAnyW_held (i := 5) (by kernel_rfl) (by simp only [List.getElem?_toArray, List.getElem?_cons_succ, List.getElem?_cons_zero]; rfl) (fun K hK => ?_)
        rw [if_pos (by rfl)]
        go_simp
        refine hK.out _ _ hHeld (fun hHeld => ?_)
        clear hK K
        try simp only [Act.put, List.setIfInBounds_toArray, List.set_cons_zero, List.set_cons_succ]
        refine wpAnyW_done (by kernel_rfl) ?_ _
        refine NoPanic.normal ?_
        go_wp2_with fail
        exact bodyPost_ret (retRPs1 rfl rfl rfl rfl HZ.out) rfl ⟨_, by rw [HF.out, HG.out]; rfl, by rw [HF.out, HY.out]; exact HRW.out, HB.out⟩
    · rw [show downSt E st = st from if_neg (fun h => h5 h.1)] at HY
      go_enter Try.func19, Try.ntmps19
      go_wp2_with (first
    | (go_at_call 42; (with_reducible refine (HTH.out _).mono ?_); rintro e w1 ⟨rfl, hb1⟩; replace HA := Lib.hid (HA.out.later hb1); replace HZ := Lib.hid (HZ.out.later hb1); replace HB := Lib.hid (HB.out.trans (hb1.mono (by omega))); obtain ⟨W3, hW3, HX0, HB3, hs3⟩ := one_open w1 76 #[.string ⟨#[]⟩, .int .i64 0, .int .i64 0, .int .i64 0, .int .i64 0, .int .i64 0, .int .i64 0, .bool false, .int .i64 0, .int .i64 0, .int .i64 0, .int .u32 0, .int .i64 0, .int .i64 0]; have hwA : w.heap.size ≠ w1.heap.size := Nat.ne_of_lt HA.out.lt; have hwZ : w.heap.size + 1 ≠ w1.heap.size := Nat.ne_of_lt HZ.out.lt; have hwC : w.heap.size ≤ w1.heap.size := HB.out.size; have hwB : w.heap.size ≤ W3.heap.size := (by omega); have c0 := HA.out.cell 0 (.slice (some ⟨b, off, none⟩) l.length cap) rfl; clear hb1)
    | (go_at_call 48; (with_reducible refine (HK1.out _).mono ?_); rintro e w5 ⟨rfl, hb1⟩; replace HA := Lib.hid (HA.out.later hb1); replace HZ := Lib.hid (HZ.out.later hb1); replace HP := Lib.hid (HP.out.later hb1); replace HB := Lib.hid (HB.out.trans (hb1.mono HB.out.size)); clear hb1)
    | (go_at_call 49; (with_reducible refine (HK2.out _).mono ?_); rintro e w5 ⟨rfl, hb1⟩; replace HA := Lib.hid (HA.out.later hb1); replace HZ := Lib.hid (HZ.out.later hb1); replace HP := Lib.hid (HP.out.later hb1); replace HB := Lib.hid (HB.out.trans (hb1.mono HB.out.size)); clear hb1)
    | (go_at_call 44; have hz6 := HZ.out.lt; (with_reducible refine (rwith_any l hl _ pr al k hlt ⟨ad, st, E, tm9, wn9, no, be, se⟩ _ (HV.out _ HB.out)).mono ?_); rintro e w6 ⟨v6, rfl, hr6, hb1, hf6⟩; replace HA := Lib.hid (HA.out.later hb1); replace HZ := Lib.hid (HZ.out.later hb1); have HR6 := Lib.hid hr6; have HF6 : Hid (Fresh (w.heap.size + 2) v6) := Lib.hid (hf6.less hz6); have HO6 := Lib.hid (rowP_one hr6); replace HB := Lib.hid (HB.out.trans (hb1.mono HB.out.size)); clear hb1 hr6 hf6 hz6 HP)
    | ((with_reducible refine gate9 ?_); refine ldR (cs := cellsPa (⟨ad, st, er, tm, wn, no, be, se⟩ : Pa)) rfl rfl rfl (HRG.out _ HB.out) Try.underlying76 rfl infoRPa ?_)
    | ((with_reducible refine gate9 ?_); refine stB (cellsPa (⟨ad, st, er, tm, wn, no, be, se⟩ : Pa)) rfl rfl rfl rfl HX0.out infoRPa rfl (cellsPa_one _) ?_; intro w4 ht hg; clear c0; replace HA := Lib.hid ((HA.out.later HB3.out).kept hg hwA); replace HZ := Lib.hid ((HZ.out.later HB3.out).kept hg hwZ); replace HB := Lib.hid (below_of_grown1 (HB.out.trans (HB3.out.mono HB.out.size)) hg hwB hwC); have HP := Lib.hid (Pin.first (o := 0) ht (pa_part (⟨ad, st, er, tm, wn, no, be, se⟩ : Pa))); clear ht hg HX0 HB3 hW3; have c2 : World.cell? _ ⟨w1.heap.size, 2, none⟩ = some (.int .i64 er) := HP.out.cell 2 _ rfl)
    | ((with_reducible refine gate9 ?_); refine stPf (xs' := cellsPa (⟨ad, st, E, tm, wn, no, be, se⟩ : Pa)) (o := 0) 2 (.int .i64 E) rfl rfl rfl rfl HP.out (by show 2 < 14; decide) infoI rfl rfl ?_; intro w4 ht hg; replace HA := Lib.hid (HA.out.kept hg hwA); replace HZ := Lib.hid (HZ.out.kept hg hwZ); replace HB := Lib.hid (below_of_grown1 HB.out hg HB.out.size hwC); replace HP := Lib.hid ht; clear ht hg; clear c2)
    | ((with_reducible refine gate9 ?_); refine ldPp (o := 0) 3 (cellsT tm) rfl rfl rfl HP.out (tm_part ⟨ad, st, E, tm, wn, no, be, se⟩) Try.underlying71 rfl infoRTm ?_)
    | ((with_reducible refine gate9 ?_); refine stPp (xs' := cellsPa (⟨ad, st, E, tm9, wn, no, be, se⟩ : Pa)) (o := 0) 3 (cellsT tm9) rfl rfl rfl rfl HP.out (by show 3 + 5 ≤ 14; decide) infoRTm (cellsT_one _) rfl ?_; intro w4 ht hg; replace HA := Lib.hid (HA.out.kept hg hwA); replace HZ := Lib.hid (HZ.out.kept hg hwZ); replace HB := Lib.hid (below_of_grown1 HB.out hg HB.out.size hwC); replace HP := Lib.hid ht; clear ht hg)
    | ((with_reducible refine gate9 ?_); refine ldPp (o := 0) 8 (Wi.cellsT wn) rfl rfl rfl HP.out (wn_part ⟨ad, st, E, tm9, wn, no, be, se⟩) Try.underlying73 rfl infoRWn ?_)
    | ((with_reducible refine gate9 ?_); refine stPp (xs' := cellsPa (⟨ad, st, E, tm9, wn9, no, be, se⟩ : Pa)) (o := 0) 8 (Wi.cellsT wn9) rfl rfl rfl rfl HP.out (by show 8 + 3 ≤ 14; decide) infoRWn (Wi.cellsT_one _) rfl ?_; intro w4 ht hg; replace HA := Lib.hid (HA.out.kept hg hwA); replace HZ := Lib.hid (HZ.out.kept hg hwZ); replace HB := Lib.hid (below_of_grown1 HB.out hg HB.out.size hwC); replace HP := Lib.hid ht; clear ht hg; have c1 : World.cell? _ ⟨w1.heap.size, 1, none⟩ = some (.int .i64 st) := HP.out.cell 1 _ rfl; have c2 : World.cell? _ ⟨w1.heap.size, 2, none⟩ = some (.int .i64 E) := HP.out.cell 2 _ rfl)
    | ((with_reducible refine gate9 ?_); refine ldPp (o := 0) 0 (cellsPa (⟨ad, st, E, tm9, wn9, no, be, se⟩ : Pa)) rfl rfl rfl HP.out (pa_part (⟨ad, st, E, tm9, wn9, no, be, se⟩ : Pa)) Try.underlying76 rfl infoRPa ?_)
    | ((with_reducible refine gate9 ?_); refine stB #[v6, .int .i64 pr, .int .i64 al] rfl rfl rfl rfl HA.out infoRPs rfl (cells3v HO6.out _ _) ?_; intro w7 ht7 hg7; replace HR6 := Lib.hid (HR6.out.stays HF6.out hg7 (by omega)); replace HZ := Lib.hid (HZ.out.kept hg7 (by omega)); replace HB := Lib.hid (below_of_grown1 HB.out hg7 HB.out.size (Nat.le_refl _)); replace HA := Lib.hid ht7; clear ht7 hg7; have ca : World.cell? _ ⟨w.heap.size, 2, none⟩ = some (.int .i64 al) := HA.out.cell 2 _ rfl)
    | ((with_reducible refine gate9 ?_); refine stF (.int .i64 M) rfl rfl rfl rfl HA.out (by show 2 < 3; decide) infoI rfl ?_; intro w7 ht7 hg7; clear ca; replace HR6 := Lib.hid (HR6.out.stays HF6.out hg7 (by omega)); replace HZ := Lib.hid (HZ.out.kept hg7 (by omega)); replace HB := Lib.hid (below_of_grown1 HB.out hg7 HB.out.size (Nat.le_refl _)); replace HA : Hid (Bx w7 w.heap.size 33 #[v6, .int .i64 pr, .int .i64 M]) := Lib.hid ht7; clear ht7 hg7)
    | ((with_reducible refine gate9 ?_); refine ldB rfl rfl rfl HA.out Try.underlying33 rfl infoRPs ?_))
      refine wp_region_noPanic ?_
      refine wp_region_waits (S := fun V => Bx V w.heap.size 33 #[v6, .int .i64 pr, .int .i64 M]) [] (by kernel_rfl) HA.out (fun hHeld => ?_)
      clear HA hE hE2 hM hM2 HK1 HK2
      refine wpAnyW_take (i := 0) (v := _) (by simp only [List.getElem?_toArray, List.getElem?_cons_zero]; rfl) (by kernel_rfl) (by kernel_rfl) (by kernel_rfl) (by kernel_rfl) (by kernel_rfl) (fun _ _ _ h => h) (yB (by rfl) rfl rfl (fun V h => h) Try.underlying33 rfl infoRPs) (by assumption) ?_
      try simp only [Act.put, List.setIfInBounds_toArray, List.set_cons_zero, List.set_cons_succ]
      refine wpAnyW_take (i := 1) (v := ?_) (by simp only [List.getElem?_toArray, List.getElem?_cons_succ, List.getElem?_cons_zero]; rfl) (by kernel_rfl) (by kernel_rfl) (by kernel_rfl) (by kernel_rfl) (by kernel_rfl) (fun _ _ _ h => h) (Or.inl ⟨by rfl, ?_⟩) (by assumption) ?_
      rotate_left 1
      · (intro w' hSw; go_simp; try with_reducible rfl)
      try simp only [Act.put, List.setIfInBounds_toArray, List.set_cons_zero, List.set_cons_succ]
      refine wpAnyW_take (i := 2) (v := ?_) (by simp only [List.getElem?_toArray, List.getElem?_cons_succ, List.getElem?_cons_zero]; rfl) (by kernel_rfl) (by kernel_rfl) (by kernel_rfl) (by kernel_rfl) (by kernel_rfl) (fun _ _ _ h => h) (Or.inl ⟨by rfl, ?_⟩) (by assumption) ?_
      rotate_left 1
      · (intro w' hSw; have hq : w'.cell? ⟨w.heap.size, 2, none⟩ = some (.int .i64 M) := hSw.cell 2 _ rfl; go_simp; try with_reducible rfl)
      try simp only [Act.put, List.setIfInBounds_toArray, List.set_cons_zero, List.set_cons_succ]
      refine wpAnyW_take (i := 3) (v := ?_) (by simp only [List.getElem?_toArray, List.getElem?_cons_succ, List.getElem?_cons_zero]; rfl) (by kernel_rfl) (by kernel_rfl) (by kernel_rfl) (by kernel_rfl) (by kernel_rfl) (fun _ _ _ h => h) (Or.inl ⟨by rfl, ?_⟩) (by assumption) ?_
      rotate_left 1
      · (intro w' hSw; go_simp; try with_reducible rfl)
      try simp only [Act.put, List.setIfInBounds_toArray, List.set_cons_zero, List.set_cons_succ]
      refine wpAnyW_held (i := 4) (by kernel_rfl) (by simp only [List.getElem?_toArray, List.getElem?_cons_succ, List.getElem?_cons_zero]; rfl) (fun K hK => ?_)
      rw [if_pos (by rfl)]
      refine wpB #[v6, .int .i64 pr, .int .i64 M] rfl rfl rfl HZ.out infoRPs rfl (cells3v HO6.out _ _) ?_
      intro w9 ht9 hg9'
      have hg9 : World.grownBy _ w9 (some (w.heap.size + 1)) := hg9'
      have HRW := Lib.hid ((show RowP (World.drew _) v6 _ from HR6.out).stays HF6.out hg9 (by omega))
      replace HB := Lib.hid (below_of_grown1 (below_drawn HB.out) hg9 HB.out.size (by omega))
      have hS := hHeld.kept hg9 (by omega)
      replace HZ := Lib.hid ht9
      clear ht9 hg9 hg9' hHeld
      refine hK.out _ _ hS (fun hHeld => ?_)
      clear hK K hS
      try simp only [Act.put, List.setIfInBounds_toArray, List.set_cons_zero, List.set_cons_succ]
      refine wpAnyW_held (i := 5) (by kernel_rfl) (by simp only [List.getElem?_toArray, List.getElem?_cons_succ, List.getElem?_cons_zero]; rfl) (fun K hK => ?_)
      rw [if_pos (by rfl)]
      go_simp
      refine hK.out _ _ hHeld (fun hHeld => ?_)
      clear hK K
      try simp only [Act.put, List.setIfInBounds_toArray, List.set_cons_zero, List.set_cons_succ]
      refine wpAnyW_done (by kernel_rfl) ?_ _
      refine NoPanic.normal ?_
      go_wp2_with fail
      exact bodyPost_ret (retRPs1 rfl rfl rfl rfl HZ.out) rfl ⟨_, by rw [HF.out, HG.out]; rfl, by rw [HF.out, HY.out]; exact HRW.out, HB.out⟩
end Go.Proofs.Yteiifkooegpdaaa
