/-
  Package order: Put: it waits; it is told, and what follows: contracts.
-/
import Derived.Test.YtondgdacjbfihaaOw
namespace Go.Proofs.Ytondgdacjbfihaa
open Go.RowKit
set_option linter.unusedVariables false
set_option linter.unusedSimpArgs false
set_option maxRecDepth 100000

theorem OwnQ.open {W : World} {B : Nat} {A1 A2 : Option Addr} {c1 c2 : Nat} {nx : List UInt16} {wt : List Mg} (h : OwnQ W B A1 A2 c1 c2 nx wt) (hn : 0 < nx.length) : ∃ bn, A1 = some ⟨bn, 0, none⟩ ∧ B ≤ bn ∧ nx.length ≤ c1 ∧ c1 ≤ maxLen ∧ RowB enc16 W bn 38 nx ∧ (∀ z, (Value.slice A2 wt.length c2).ownBlock = some z → bn ≠ z) ∧ OwnG W B 40 6 (.slice A2 wt.length c2) wt.length (flatM wt) := by
  obtain ⟨bn, cap, e, hB, hl, h1, h2, hr⟩ := RowB.of_own h.nums hn
  cases e
  refine ⟨bn, rfl, hB, h1, h2, hr, fun z hz => ?_, OwnG.of h.wait⟩
  obtain ⟨a, ha, hab⟩ : ∃ a, A2 = some a ∧ a.block = z := by
    cases A2 with
    | none => cases hz
    | some a => exact ⟨a, rfl, by simpa [Value.ownBlock] using hz⟩
  have := h.ne _ a rfl ha
  simp only at this
  omega
set_option maxHeartbeats 2000000 in
theorem put_wait (nx : List UInt16) (wt : List Mg) (m : Mg) (h1 : nx.length ≤ 100000) (h2 : wt.length ≤ 1000) (vn v : Value) (w : World) (hn : RowE enc16 w vn nx) (hw : RowM w v wt) (hst : m.st.toNat < nx.length) (hfr : m.fr = false) (hok : (pastB m.ss (atN nx m.st.toNat) || wt.any (sameB m)) = false) (hne : m.ss ≠ atN nx m.st.toNat) :
    Calls Try.prog 12 #[.agg #[vn, v], .agg (cellsMg m)] w fun e w' => PutR (fun k => k < w.heap.size) w w' e 0 nx (wt ++ [m]) [] := by
  obtain ⟨W, hW, HQ, HM, HZ, HB, hs⟩ := three_open w 27 40 27 #[vn, v] (cellsMg m) #[.slice none 0 0, .slice none 0 0]
  have HN := Lib.hid hn
  have HW := Lib.hid hw
  obtain ⟨b, off, cap, rfl, hbw, hen⟩ := cell_at hn hst
  have HEN := Lib.hid hen
  obtain ⟨_, _, _, hcn, hcm, _⟩ := id hn
  obtain ⟨A', cap', rfl, _, _, _⟩ := id hw
  have hnl : (nx.length : Int) ≤ 9223372036854775807 := by have := hcn; unfold maxLen at hcm; omega
  have hs0 : (0 : Int) ≤ (m.st.toNat : Int) := by omega
  have hsI : (m.st.toNat : Int) < (nx.length : Int) := by omega
  have d2 := HM.out.cell 2 (.int .u16 (m.st.toNat : Int)) rfl
  have d1 : W.cell? ⟨w.heap.size + 1, 1, none⟩ = some (.bool false) := by rw [← hfr]; exact HM.out.cell 1 (.bool m.fr) rfl
  have d0 := HQ.out.cell 0 (.slice (some ⟨b, off, none⟩) nx.length cap) rfl
  obtain ⟨b1, b3⟩ := fit16 m.st
  have HPA := Lib.hid (fun V => past_any m.ss (atN nx m.st.toNat) V)
  have HTH := Lib.hid (fun V h => there_any wt (by omega) m (.slice (some ⟨b, off, none⟩) nx.length cap) (.slice A' wt.length cap') V h)
  clear hn hw hen
  generalize hn0 : atN nx m.st.toNat = n0 at *
  have HN0 := Lib.hid hn0
  clear hn0
  have hsz : w.heap.size + 3 ≤ W.heap.size := by omega
  have HPB : Hid (pastB m.ss n0 = false) := Lib.hid (by rw [Bool.or_eq_false_iff] at hok; exact hok.1)
  have HAN : Hid (wt.any (sameB m) = false) := Lib.hid (by rw [Bool.or_eq_false_iff] at hok; exact hok.2)
  have HPN : Hid (0 < nx.length) := Lib.hid (by omega)
  have HSI : Hid (m.st.toNat < nx.length) := Lib.hid hst
  have HNE0 : Hid (nx[m.st.toNat] = n0) := Lib.hid ((atN_eq hst).symm.trans HN0.out)
  have HCP := Lib.hid (fun V a b hna hwb => copied_any nx wt h1 (by omega) a b V hna hwb)
  have qn : ((m.ss.toNat : Int) != (n0.toNat : Int)) = true := by
    have h : ¬ (m.ss.toNat : Int) = (n0.toNat : Int) := fun h => hne (UInt16.toNat_inj.1 (by omega))
    simpa using h
  have hwI : (wt.length : Int) ≤ 1000 := by omega
  clear hne
  clear hok
  go_enter Try.func12, Try.ntmps12
  go_wp2_with fail
  have HS : (fun U => Bx U w.heap.size 27 #[.slice (some ⟨b, off, none⟩) nx.length cap, .slice A' wt.length cap'] ∧ Bx U (w.heap.size + 1) 40 (cellsMg m) ∧ Bx U (w.heap.size + 2) 27 #[.slice none 0 0, .slice none 0 0] ∧ Below w.heap.size w U ∧ w.heap.size + 3 ≤ U.heap.size) W.drew := ⟨HQ.out.drew, HM.out.drew, HZ.out.drew, below_drawn HB.out, hsz⟩
  clear hW HQ HM HZ HB d0 d1 d2
  refine wp_region_noPanic ?_
  refine wp_region_waits (S := (fun U => Bx U w.heap.size 27 #[.slice (some ⟨b, off, none⟩) nx.length cap, .slice A' wt.length cap'] ∧ Bx U (w.heap.size + 1) 40 (cellsMg m) ∧ Bx U (w.heap.size + 2) 27 #[.slice none 0 0, .slice none 0 0] ∧ Below w.heap.size w U ∧ w.heap.size + 3 ≤ U.heap.size)) [] (by kernel_rfl) HS (fun hHeld => ?_)
  clear HS
  refine wpAnyW_take (i := 0) (v := ?_) (by simp only [List.getElem?_toArray, List.getElem?_cons_zero]; rfl) (by kernel_rfl) (by kernel_rfl) (by kernel_rfl) (by kernel_rfl) (by kernel_rfl) (fun _ _ _ h => h) (Or.inl ⟨by rfl, ?_⟩) (by assumption) ?_
  rotate_left 1
  · (intro w' hSw; go_simp; try with_reducible rfl)
  try simp only [Act.put, List.setIfInBounds_toArray, List.set_cons_zero, List.set_cons_succ]
  refine wpAnyW_take (i := 1) (v := ?_) (by simp only [List.getElem?_toArray, List.getElem?_cons_succ, List.getElem?_cons_zero]; rfl) (by kernel_rfl) (by kernel_rfl) (by kernel_rfl) (by kernel_rfl) (by kernel_rfl) (fun _ _ _ h => h) (Or.inl ⟨by rfl, ?_⟩) (by assumption) ?_
  rotate_left 1
  · (intro w' hSw; have hq := hSw.2.1.cell 3 (.int .u16 (m.ss.toNat : Int)) rfl; go_simp; try with_reducible rfl)
  try simp only [Act.put, List.setIfInBounds_toArray, List.set_cons_zero, List.set_cons_succ]
  refine wpAnyW_take (i := 2) (v := ?_) (by simp only [List.getElem?_toArray, List.getElem?_cons_succ, List.getElem?_cons_zero]; rfl) (by kernel_rfl) (by kernel_rfl) (by kernel_rfl) (by kernel_rfl) (by kernel_rfl) (fun _ _ _ h => h) (Or.inl ⟨by rfl, ?_⟩) (by assumption) ?_
  rotate_left 1
  · (intro w' hSw; go_simp; try with_reducible rfl)
  try simp only [Act.put, List.setIfInBounds_toArray, List.set_cons_zero, List.set_cons_succ]
  refine wpAnyW_take (i := 3) (v := ?_) (by simp only [List.getElem?_toArray, List.getElem?_cons_succ, List.getElem?_cons_zero]; rfl) (by kernel_rfl) (by kernel_rfl) (by kernel_rfl) (by kernel_rfl) (by kernel_rfl) (fun _ _ _ h => h) (Or.inl ⟨by rfl, ?_⟩) (by assumption) ?_
  rotate_left 1
  · (intro w' hSw; have hq := hSw.1.cell 0 (.slice (some ⟨b, off, none⟩) nx.length cap) rfl; go_simp; try with_reducible rfl)
  try simp only [Act.put, List.setIfInBounds_toArray, List.set_cons_zero, List.set_cons_succ]
  refine wpAnyW_take (i := 4) (v := ?_) (by simp only [List.getElem?_toArray, List.getElem?_cons_succ, List.getElem?_cons_zero]; rfl) (by kernel_rfl) (by kernel_rfl) (by kernel_rfl) (by kernel_rfl) (by kernel_rfl) (fun _ _ _ h => h) (Or.inl ⟨by rfl, ?_⟩) (by assumption) ?_
  rotate_left 1
  · (intro w' hSw; go_simp; try with_reducible rfl)
  try simp only [Act.put, List.setIfInBounds_toArray, List.set_cons_zero, List.set_cons_succ]
  refine wpAnyW_take (i := 5) (v := ?_) (by simp only [List.getElem?_toArray, List.getElem?_cons_succ, List.getElem?_cons_zero]; rfl) (by kernel_rfl) (by kernel_rfl) (by kernel_rfl) (by kernel_rfl) (by kernel_rfl) (fun _ _ _ h => h) (Or.inl ⟨by rfl, ?_⟩) (by assumption) ?_
  rotate_left 1
  · (intro w' hSw; go_simp; try with_reducible rfl)
  try simp only [Act.put, List.setIfInBounds_toArray, List.set_cons_zero, List.set_cons_succ]
  refine wpAnyW_take (i := 6) (v := ?_) (by simp only [List.getElem?_toArray, List.getElem?_cons_succ, List.getElem?_cons_zero]; rfl) (by kernel_rfl) (by kernel_rfl) (by kernel_rfl) (by kernel_rfl) (by kernel_rfl) (fun _ _ _ h => h) (Or.inl ⟨by rfl, ?_⟩) (by assumption) ?_
  rotate_left 1
  · (intro w' hSw; have hq := (hSw.2.2.2.1.cell (p := ⟨b, off + m.st.toNat, none⟩) hbw).trans HEN.out; go_simp; try with_reducible rfl)
  try simp only [Act.put, List.setIfInBounds_toArray, List.set_cons_zero, List.set_cons_succ]
  refine wpAnyW_held (i := 7) (by kernel_rfl) (by simp only [List.getElem?_toArray, List.getElem?_cons_succ, List.getElem?_cons_zero]; rfl) (fun K hK => ?_)
  rw [if_pos (by rfl)]
  go_simp
  refine (HPA.out _).mono ?_
  rintro _ w7 ⟨rfl, rfl⟩
  rw [HPB.out]
  go_wp2_with fail
  refine hK.out _ _ hHeld (fun hHeld => ?_)
  clear hK K
  try simp only [Act.put, List.setIfInBounds_toArray, List.set_cons_zero, List.set_cons_succ]
  refine wpAnyW_take (i := 8) (v := ?_) (by simp only [List.getElem?_toArray, List.getElem?_cons_succ, List.getElem?_cons_zero]; rfl) (by kernel_rfl) (by kernel_rfl) (by kernel_rfl) (by kernel_rfl) (by kernel_rfl) (fun _ _ _ h => h) (Or.inl ⟨by rfl, ?_⟩) (by assumption) ?_
  rotate_left 1
  · (intro w' hSw; go_simp; try with_reducible rfl)
  try simp only [Act.put, List.setIfInBounds_toArray, List.set_cons_zero, List.set_cons_succ]
  refine wpAnyW_take (i := 9) (v := _) (by simp only [List.getElem?_toArray, List.getElem?_cons_succ, List.getElem?_cons_zero]; rfl) (by kernel_rfl) (by kernel_rfl) (by kernel_rfl) (by kernel_rfl) (by kernel_rfl) (fun _ _ _ h => h) (yB (ty := 27) (by rfl) rfl rfl (fun V h => h.1) Try.underlying27 rfl infoQ) (by assumption) ?_
  try simp only [Act.put, List.setIfInBounds_toArray, List.set_cons_zero, List.set_cons_succ]
  refine wpAnyW_take (i := 10) (v := _) (by simp only [List.getElem?_toArray, List.getElem?_cons_succ, List.getElem?_cons_zero]; rfl) (by kernel_rfl) (by kernel_rfl) (by kernel_rfl) (by kernel_rfl) (by kernel_rfl) (fun _ _ _ h => h) (yB (ty := 40) (by rfl) rfl rfl (fun V h => h.2.1) Try.underlying40 rfl infoM) (by assumption) ?_
  try simp only [Act.put, List.setIfInBounds_toArray, List.set_cons_zero, List.set_cons_succ]
  refine wpAnyW_held (i := 11) (by kernel_rfl) (by simp only [List.getElem?_toArray, List.getElem?_cons_succ, List.getElem?_cons_zero]; rfl) (fun K hK => ?_)
  rw [if_pos (by rfl)]
  go_simp
  refine (HTH.out _ (HW.out.below hHeld.2.2.2.1)).mono ?_
  rintro _ w9 ⟨rfl, hb⟩
  rw [HAN.out]
  have HS : (fun U => Bx U w.heap.size 27 #[.slice (some ⟨b, off, none⟩) nx.length cap, .slice A' wt.length cap'] ∧ Bx U (w.heap.size + 1) 40 (cellsMg m) ∧ Bx U (w.heap.size + 2) 27 #[.slice none 0 0, .slice none 0 0] ∧ Below w.heap.size w U ∧ w.heap.size + 3 ≤ U.heap.size) _ := ⟨hHeld.1.later hb, hHeld.2.1.later hb, hHeld.2.2.1.later hb, hHeld.2.2.2.1.trans (hb.mono hHeld.2.2.2.1.size), Nat.le_trans hHeld.2.2.2.2 hb.size⟩
  clear hHeld hb
  go_wp2_with fail
  refine hK.out _ _ HS (fun hHeld => ?_)
  clear hK K HS
  try simp only [Act.put, List.setIfInBounds_toArray, List.set_cons_zero, List.set_cons_succ]
  refine wpAnyW_take (i := 12) (v := ?_) (by simp only [List.getElem?_toArray, List.getElem?_cons_succ, List.getElem?_cons_zero]; rfl) (by kernel_rfl) (by kernel_rfl) (by kernel_rfl) (by kernel_rfl) (by kernel_rfl) (fun _ _ _ h => h) (Or.inl ⟨by rfl, ?_⟩) (by assumption) ?_
  rotate_left 1
  · (intro w' hSw; go_simp; try with_reducible rfl)
  try simp only [Act.put, List.setIfInBounds_toArray, List.set_cons_zero, List.set_cons_succ]
  refine wpAnyW_held (i := 13) (by kernel_rfl) (by simp only [List.getElem?_toArray, List.getElem?_cons_succ, List.getElem?_cons_zero]; rfl) (fun K hK => ?_)
  rw [if_pos (by rfl)]
  go_simp
  have HQ := Lib.hid hHeld.1
  have HM := Lib.hid hHeld.2.1
  have HZ := Lib.hid hHeld.2.2.1
  have HB := Lib.hid hHeld.2.2.2.1
  have hsw := hHeld.2.2.2.2
  refine hK.out _ _ hHeld (fun hHeld => ?_)
  clear hK K hHeld
  try simp only [Act.put, List.setIfInBounds_toArray, List.set_cons_zero, List.set_cons_succ]
  refine wpAnyW_done (by kernel_rfl) ?_ _
  refine NoPanic.normal ?_
  obtain ⟨i0, hi0, hz0, hz1, hz2⟩ := info_parts infoMZ
  have HI := Lib.hid hi0
  have HZ0 := Lib.hid hz0
  have HZ1 := Lib.hid hz1
  have HZ2 := Lib.hid hz2
  clear hi0 hz0 hz1 hz2
  generalize hw9 : w9 = wy at *
  clear hw9
  go_wp2_with (first
    | ((with_reducible refine gate9 ?_); refine ldB (ty := 27) rfl rfl rfl HQ.out Try.underlying27 rfl infoQ ?_)
    | (go_at_call 24; (with_reducible refine (HCP.out _ _ _ (HN.out.below HB.out) (HW.out.below HB.out)).mono ?_); rintro e w7 ⟨B1, k1, B2, k2, rfl, hown, hb⟩; obtain ⟨bn, rfl, hbB, hk1, hk2, hrb, hne2, hog⟩ := OwnQ.open hown HPN.out; obtain ⟨v8, hv8, HR, HB8, hs8⟩ := one_open w7 27 #[.slice (some ⟨bn, 0, none⟩) nx.length k1, .slice B2 wt.length k2]; have hb8 := hb.trans (HB8.out.mono hb.size); have HRB := Lib.hid (hrb.later HB8.out); have HOG := Lib.hid (hog.later HB8.out); have HNE := Lib.hid hne2; have hr1 := hrb.lt; have hr2 := HR.out.lt; have HGL := Lib.hid (fun z hz => (hog.lt z hz).2); replace HM := Lib.hid (HM.out.later hb8); replace HZ := Lib.hid (HZ.out.later hb8); have hszv := Nat.le_trans hb.size HB8.out.size; have HBV := Lib.hid hb8; replace HB := Lib.hid (HB.out.trans (hb8.mono HB.out.size)); clear hown hb hb8 HB8 hs8 hrb hog hne2))
  have HS : (fun U => Bx U (w.heap.size + 1) 40 (cellsMg m) ∧ Bx U w7.heap.size 27 #[.slice (some ⟨bn, 0, none⟩) nx.length k1, .slice B2 wt.length k2] ∧ RowB enc16 U bn 38 nx) v8.drew := ⟨HM.out.drew, HR.out.drew, HRB.out⟩
  refine wp_region_noPanic ?_
  refine wp_region_waits (S := (fun U => Bx U (w.heap.size + 1) 40 (cellsMg m) ∧ Bx U w7.heap.size 27 #[.slice (some ⟨bn, 0, none⟩) nx.length k1, .slice B2 wt.length k2] ∧ RowB enc16 U bn 38 nx)) [] (by kernel_rfl) HS (fun hHeld => ?_)
  clear HS
  refine wpAnyW_take (i := 0) (v := ?_) (by simp only [List.getElem?_toArray, List.getElem?_cons_zero]; rfl) (by kernel_rfl) (by kernel_rfl) (by kernel_rfl) (by kernel_rfl) (by kernel_rfl) (fun _ _ _ h => h) (Or.inl ⟨by rfl, ?_⟩) (by assumption) ?_
  rotate_left 1
  · (intro w' hSw; go_simp; try with_reducible rfl)
  try simp only [Act.put, List.setIfInBounds_toArray, List.set_cons_zero, List.set_cons_succ]
  refine wpAnyW_take (i := 1) (v := ?_) (by simp only [List.getElem?_toArray, List.getElem?_cons_succ, List.getElem?_cons_zero]; rfl) (by kernel_rfl) (by kernel_rfl) (by kernel_rfl) (by kernel_rfl) (by kernel_rfl) (fun _ _ _ h => h) (Or.inl ⟨by rfl, ?_⟩) (by assumption) ?_
  rotate_left 1
  · (intro w' hSw; have hq := hSw.1.cell 3 (.int .u16 (m.ss.toNat : Int)) rfl; go_simp; try with_reducible rfl)
  try simp only [Act.put, List.setIfInBounds_toArray, List.set_cons_zero, List.set_cons_succ]
  refine wpAnyW_take (i := 2) (v := ?_) (by simp only [List.getElem?_toArray, List.getElem?_cons_succ, List.getElem?_cons_zero]; rfl) (by kernel_rfl) (by kernel_rfl) (by kernel_rfl) (by kernel_rfl) (by kernel_rfl) (fun _ _ _ h => h) (Or.inl ⟨by rfl, ?_⟩) (by assumption) ?_
  rotate_left 1
  · (intro w' hSw; go_simp; try with_reducible rfl)
  try simp only [Act.put, List.setIfInBounds_toArray, List.set_cons_zero, List.set_cons_succ]
  refine wpAnyW_take (i := 3) (v := ?_) (by simp only [List.getElem?_toArray, List.getElem?_cons_succ, List.getElem?_cons_zero]; rfl) (by kernel_rfl) (by kernel_rfl) (by kernel_rfl) (by kernel_rfl) (by kernel_rfl) (fun _ _ _ h => h) (Or.inl ⟨by rfl, ?_⟩) (by assumption) ?_
  rotate_left 1
  · (intro w' hSw; have hq := hSw.2.1.cell 0 (.slice (some ⟨bn, 0, none⟩) nx.length k1) rfl; go_simp; try with_reducible rfl)
  try simp only [Act.put, List.setIfInBounds_toArray, List.set_cons_zero, List.set_cons_succ]
  refine wpAnyW_take (i := 4) (v := ?_) (by simp only [List.getElem?_toArray, List.getElem?_cons_succ, List.getElem?_cons_zero]; rfl) (by kernel_rfl) (by kernel_rfl) (by kernel_rfl) (by kernel_rfl) (by kernel_rfl) (fun _ _ _ h => h) (Or.inl ⟨by rfl, ?_⟩) (by assumption) ?_
  rotate_left 1
  · (intro w' hSw; go_simp; try with_reducible rfl)
  try simp only [Act.put, List.setIfInBounds_toArray, List.set_cons_zero, List.set_cons_succ]
  refine wpAnyW_take (i := 5) (v := ?_) (by simp only [List.getElem?_toArray, List.getElem?_cons_succ, List.getElem?_cons_zero]; rfl) (by kernel_rfl) (by kernel_rfl) (by kernel_rfl) (by kernel_rfl) (by kernel_rfl) (fun _ _ _ h => h) (Or.inl ⟨by rfl, ?_⟩) (by assumption) ?_
  rotate_left 1
  · (intro w' hSw; go_simp; try with_reducible rfl)
  try simp only [Act.put, List.setIfInBounds_toArray, List.set_cons_zero, List.set_cons_succ]
  refine wpAnyW_take (i := 6) (v := ?_) (by simp only [List.getElem?_toArray, List.getElem?_cons_succ, List.getElem?_cons_zero]; rfl) (by kernel_rfl) (by kernel_rfl) (by kernel_rfl) (by kernel_rfl) (by kernel_rfl) (fun _ _ _ h => h) (Or.inl ⟨by rfl, ?_⟩) (by assumption) ?_
  rotate_left 1
  · (intro w' hSw; have hq : w'.cell? ⟨bn, m.st.toNat, none⟩ = some (.int .u16 (n0.toNat : Int)) := (hSw.2.2.cell HSI.out).trans (congrArg (fun u => some (enc16 u)) HNE0.out); go_simp; try with_reducible rfl)
  try simp only [Act.put, List.setIfInBounds_toArray, List.set_cons_zero, List.set_cons_succ]
  refine wpAnyW_take (i := 7) (v := ?_) (by simp only [List.getElem?_toArray, List.getElem?_cons_succ, List.getElem?_cons_zero]; rfl) (by kernel_rfl) (by kernel_rfl) (by kernel_rfl) (by kernel_rfl) (by kernel_rfl) (fun _ _ _ h => h) (Or.inl ⟨by rfl, ?_⟩) (by assumption) ?_
  rotate_left 1
  · (intro w' hSw; go_simp; try with_reducible rfl)
  try simp only [Act.put, List.setIfInBounds_toArray, List.set_cons_zero, List.set_cons_succ]
  clear hHeld
  refine wpAnyW_done (by kernel_rfl) ?_ _
  refine NoPanic.normal ?_
  have hv8s : w7.heap.size < v8.drew.heap.size := hr2
  have hy8 : wy.heap.size ≤ v8.drew.heap.size := hszv
  replace HM : Hid (Bx v8.drew _ _ _) := Lib.hid HM.out.drew
  replace HR : Hid (Bx v8.drew _ _ _) := Lib.hid HR.out.drew
  replace HRB : Hid (RowB enc16 v8.drew bn 38 nx) := Lib.hid HRB.out
  replace HOG : Hid (OwnG v8.drew _ _ _ _ _ _) := Lib.hid HOG.out.drew
  replace HZ : Hid (Bx v8.drew _ _ _) := Lib.hid HZ.out.drew
  replace HB : Hid (Below _ w v8.drew) := Lib.hid (below_drawn HB.out)
  clear hv8 hr2 hszv
  generalize v8.drew = u8 at *
  obtain ⟨m1, m2, m3, m4, m5, m6⟩ := m
  simp only at hfr
  subst hfr
  have HML := HM
  have e1 : cellsMg ⟨m1, false, m3, m4, m5, m6⟩ = #[.int .u32 (m1.toNat : Int), .bool false, .int .u16 (m3.toNat : Int), .int .u16 (m4.toNat : Int), .int .u32 (m5.toNat : Int), .string m6] := rfl
  rw [e1] at HML
  clear e1
  have HLO := Lib.hid (show ∀ u ∈ (#[.int .u32 (m1.toNat : Int), .bool false, .int .u16 (m3.toNat : Int), .int .u16 (m4.toNat : Int), .int .u32 (m5.toNat : Int), .string m6] : Array Value).toList, u.oneCell' = true from fun u hu => cells_one (x := ⟨m1, false, m3, m4, m5, m6⟩) hu)
  have HLN : Hid ((wt ++ [(⟨m1, false, m3, m4, m5, m6⟩ : Mg)]).length = wt.length + 1) := Lib.hid (by simp)
  have HFL : Hid (flatM (wt ++ [(⟨m1, false, m3, m4, m5, m6⟩ : Mg)]) = flatM wt ++ (#[.int .u32 (m1.toNat : Int), .bool false, .int .u16 (m3.toNat : Int), .int .u16 (m4.toNat : Int), .int .u32 (m5.toNat : Int), .string m6] : Array Value).toList) := Lib.hid (flatM_add ..)
  generalize hmm : (⟨m1, false, m3, m4, m5, m6⟩ : Mg) = m at *
  have HMM := Lib.hid hmm
  clear hmm
  have c1 := HR.out.cell 1 (.slice B2 wt.length k2) rfl
  go_wp2_with (first
    | ((with_reducible refine gate9 ?_); refine ldB (ty := 40) (cs := #[.int .u32 (m1.toNat : Int), .bool false, .int .u16 (m3.toNat : Int), .int .u16 (m4.toNat : Int), .int .u32 (m5.toNat : Int), .string m6]) rfl rfl rfl HML.out Try.underlying40 rfl infoM ?_)
    | (at_builtin; refine wpList_append_where _ rfl (.tmp 53) (.tmp 55) 25 25 rfl wy.heap.size 40 i0 _ 6 32 Try.underlying25 (.inr ⟨_, Try.underlying25⟩) HI.out HZ0.out HZ1.out HZ2.out rfl _ _ _ rfl (HOG.out.alloc _) _ 1 (#[.int .u32 (m1.toNat : Int), .bool false, .int .u16 (m3.toNat : Int), .int .u16 (m4.toNat : Int), .int .u32 (m5.toNat : Int), .string m6] : Array Value).toList rfl (Fed.block (heap_alloc_new _ _) rfl HLO.out) (by unfold maxLen; omega) (by omega) (by rw [World.size_alloc]; exact Nat.le_succ_of_le hy8) ?_; intro v9 w10 hown hgr hwh; have hb10 := ((Below.refl wy.heap.size u8).alloc hy8 _).grown hgr (by rw [World.size_alloc]; exact Nat.le_succ_of_le hy8) (fun z hz => (HOG.out.lt z hz).1); have HNW := Lib.hid (fun k (hk : v9.ownBlock = some k) => show k ≠ w7.heap.size from (hwh k hk).elim (fun e => Nat.ne_of_lt (HGL.out k e)) (fun e => by rw [e, World.size_alloc]; exact Nat.ne_of_gt (Nat.lt_succ_of_lt hv8s))); replace HR := Lib.hid (show Bx w10 w7.heap.size 27 #[.slice (some ⟨bn, 0, none⟩) nx.length k1, .slice B2 wt.length k2] from (hgr.block _ (HR.out.old _).lt (by intro e; exact Nat.lt_irrefl _ (HGL.out _ e.symm))).trans (HR.out.old _)); replace HRB := Lib.hid ((show RowB enc16 (u8.alloc _) bn 38 nx from HRB.out.later (below_one _ _)).same (hgr.block _ (by rw [World.size_alloc]; exact Nat.lt_succ_of_lt (Nat.lt_trans hr1 hv8s)) (by intro e; exact HNE.out bn e.symm rfl))); replace HZ := Lib.hid (HZ.out.under hb10 (Nat.lt_of_lt_of_le (Nat.lt_succ_self _) hsw)); replace HB := Lib.hid (HB.out.trans (hb10.mono (Nat.le_trans (Nat.le_trans (Nat.le_add_right _ 3) hsw) (Nat.le_refl _)))); obtain ⟨A9, k9, rfl, -, -, -⟩ := id hown.slice; have HO9 := Lib.hid hown; clear hown hgr hwh hb10 c1)
    | ((with_reducible refine gate9 ?_); refine stF (ty := 25) (.slice A9 (wt.length + 1) k9) rfl rfl rfl rfl HR.out (Nat.lt_succ_self 1) infoML rfl ?_; intro w11 ht hg; replace HRB := Lib.hid (HRB.out.kept hg (Nat.ne_of_lt hr1)); replace HZ := Lib.hid (HZ.out.kept hg (by omega)); replace HO9 := Lib.hid (HO9.out.keep fun z hz => hg.block z (HO9.out.lt z hz).2 (by intro e; cases e; exact HNW.out _ hz rfl)); replace HB := Lib.hid (below_of_grown1 HB.out hg HB.out.size (by omega)); have HR11 := Lib.hid (show Bx w11 w7.heap.size 27 #[.slice (some ⟨bn, 0, none⟩) nx.length k1, .slice A9 (wt.length + 1) k9] from ht); clear ht hg HR)
    | ((with_reducible refine gate9 ?_); refine ldB (ty := 27) rfl rfl rfl HR11.out Try.underlying27 rfl infoQ ?_)
    | ((with_reducible refine gate9 ?_); refine stB (ty := 27) #[.slice (some ⟨bn, 0, none⟩) nx.length k1, .slice A9 (wt.length + 1) k9] rfl rfl rfl rfl HZ.out infoQ rfl (cellsQ_one _ _ _ _ _ _) ?_; intro w12 ht hg; replace HRB := Lib.hid (HRB.out.kept hg (by omega)); replace HO9 := Lib.hid (HO9.out.keep fun z hz => hg.block z (HO9.out.lt z hz).2 (by intro e; cases e; have := (HO9.out.lt _ hz).1; omega)); replace HB := Lib.hid (below_of_grown1 HB.out hg HB.out.size (by omega)); have HZ12 := Lib.hid ht; clear ht hg))
  refine bodyPost_ret (retQ3 rfl rfl rfl rfl rfl HZ12.out) rfl ?_
  rw [HMM.out]
  unfold PutR
  rw [HLN.out]
  exact ⟨some ⟨bn, 0, none⟩, k1, A9, k9, none, 0, rfl, HRB.out.row hk1 hk2, by rw [← HLN.out]; exact rowM_of_ownG (n := wt.length + 1) (by rw [HFL.out, HLN.out]; exact HO9.out), RowM.nil _, Out.fresh (fresh_some (show w.heap.size ≤ bn by omega)) (fun k hk => hk), Out.fresh ((fresh_ownG HO9.out).less (show w.heap.size ≤ _ by omega)) (fun k hk => hk), Out.nil _ 0 0, HB.out⟩
end Go.Proofs.Ytondgdacjbfihaa
