/-
  Package order: Put: it is told, and what follows: contract.
-/
import Derived.Test.YtondgdacjbfihaaOx
namespace Go.Proofs.Ytondgdacjbfihaa
open Go.RowKit
set_option linter.unusedVariables false
set_option linter.unusedSimpArgs false
set_option maxRecDepth 100000

theorem takeOut_at (nx : List UInt16) (wt : List Mg) (hl : wt.length ≤ 1000) (hd : Dis wt) (st : Nat) (hst : st < nx.length) (hst2 : st ≤ 65535) (u : UInt16) (gq bn cn : Nat) (vw : Value) (w : World)
    (hq : Bx w gq 27 #[.slice (some ⟨bn, 0, none⟩) nx.length cn, vw]) (hn : RowB enc16 w bn 38 (nx.set st u)) (hc1 : nx.length ≤ cn) (hc2 : cn ≤ maxLen) (hw : RowM w vw wt) (hne : bn ≠ gq) (hnq : NotIn gq vw) (hnb : NotIn bn vw) :
    Calls Try.prog 27 #[.pointer (some ⟨gq, 0, none⟩), .int .i64 (st : Int)] w fun e w' => ∃ A k A2 k2, e = .returned (.slice A (tellK wt (st : Int) u).length k) ∧ OwnG w' w.heap.size 40 6 (.slice A (tellK wt (st : Int) u).length k) (tellK wt (st : Int) u).length (flatM (tellK wt (st : Int) u))
      ∧ Bx w' gq 27 #[.slice (some ⟨bn, 0, none⟩) nx.length cn, .slice A2 (leftK wt (st : Int) u).length k2] ∧ RowB enc16 w' bn 38 (nx.set st (nextK wt (st : Int) u)) ∧ RowM w' (.slice A2 (leftK wt (st : Int) u).length k2) (leftK wt (st : Int) u) ∧ Fresh w.heap.size (.slice A2 (leftK wt (st : Int) u).length k2) ∧ Ch (fun z => z = gq ∨ z = bn) w w' := by
  have hl2 : (nx.set st u).length = nx.length := List.length_set
  have h := takeOut_any (nx.set st u) wt hl hd st (by rw [hl2]; exact hst) hst2 gq bn cn vw w (by rw [hl2]; exact hq) hn (by rw [hl2]; exact hc1) hc2 hw hne hnq hnb
  rw [List.getElem_set_self, hl2, List.set_set] at h
  exact h
theorem notIn_own {A : Option Addr} {n c k : Nat} (h : ∀ z, (Value.slice A n c).ownBlock = some z → k ≠ z) : NotIn k (.slice A n c) := fun a n' c' e => by
  cases e
  exact fun e2 => h a.block rfl e2.symm
set_option maxHeartbeats 2000000 in
theorem put_told (nx : List UInt16) (wt : List Mg) (m : Mg) (h1 : nx.length ≤ 100000) (h2 : wt.length ≤ 1000) (vn v : Value) (w : World) (hn : RowE enc16 w vn nx) (hw : RowM w v wt) (hst : m.st.toNat < nx.length) (hfr : m.fr = false) (hok : (pastB m.ss (atN nx m.st.toNat) || wt.any (sameB m)) = false) (hd : Dis wt) (hne : m.ss = atN nx m.st.toNat) :
    Calls Try.prog 12 #[.agg #[vn, v], .agg (cellsMg m)] w fun e w' => PutR (fun k => k < w.heap.size) w w' e 0 (nx.set m.st.toNat (nextK wt (m.st.toNat : Int) (atN nx m.st.toNat + 1))) (leftK wt (m.st.toNat : Int) (atN nx m.st.toNat + 1)) (m :: tellK wt (m.st.toNat : Int) (atN nx m.st.toNat + 1)) := by
  obtain ⟨W, hW, HQ, HM, HZ, HB, hs⟩ := three_open w 27 40 27 #[vn, v] (cellsMg m) #[.slice none 0 0, .slice none 0 0]
  have HN := Lib.hid hn
  have HW := Lib.hid hw
  obtain ⟨b, off, cap, rfl, hbw, hen⟩ := cell_at hn hst
  have HEN := Lib.hid hen
  obtain ⟨_, _, _, hcn, hcm, _⟩ := id hn
  obtain ⟨A', cap', rfl, _, _, _⟩ := id hw
  have hnl : (nx.length : Int) ≤ 9223372036854775807 := by have := hcn; unfold maxLen at hcm; omega
  have hs0 : (0 : Int) ≤ (m.st.toNat : Int) := by omega
  have hsI : (m.st.toNat : Int) < (nx.length : Int) := by omega
  have d2 := HM.out.cell 2 (.int .u16 (m.st.toNat : Int)) rfl
  have d1 : W.cell? ⟨w.heap.size + 1, 1, none⟩ = some (.bool false) := by rw [← hfr]; exact HM.out.cell 1 (.bool m.fr) rfl
  have d0 := HQ.out.cell 0 (.slice (some ⟨b, off, none⟩) nx.length cap) rfl
  obtain ⟨b1, b3⟩ := fit16 m.st
  have HPA := Lib.hid (fun V => past_any m.ss (atN nx m.st.toNat) V)
  have HTH := Lib.hid (fun V h => there_any wt (by omega) m (.slice (some ⟨b, off, none⟩) nx.length cap) (.slice A' wt.length cap') V h)
  clear hn hw hen
  generalize hn0 : atN nx m.st.toNat = n0 at *
  have HN0 := Lib.hid hn0
  clear hn0
  have hsz : w.heap.size + 3 ≤ W.heap.size := by omega
  have HPB : Hid (pastB m.ss n0 = false) := Lib.hid (by rw [Bool.or_eq_false_iff] at hok; exact hok.1)
  have HAN : Hid (wt.any (sameB m) = false) := Lib.hid (by rw [Bool.or_eq_false_iff] at hok; exact hok.2)
  have HPN : Hid (0 < nx.length) := Lib.hid (by omega)
  have HSI : Hid (m.st.toNat < nx.length) := Lib.hid hst
  have HNE0 : Hid (nx[m.st.toNat] = n0) := Lib.hid ((atN_eq hst).symm.trans HN0.out)
  have HCP := Lib.hid (fun V a b hna hwb => copied_any nx wt h1 (by omega) a b V hna hwb)
  have qn : ((m.ss.toNat : Int) != (n0.toNat : Int)) = false := by rw [hne]; simp
  have HTO := Lib.hid (fun gq bn cn vw V hq hn hc1 hc2 hwv hne hnq hnb => takeOut_at nx wt h2 hd m.st.toNat hst (by omega) (n0 + 1) gq bn cn vw V hq hn hc1 hc2 hwv hne hnq hnb)
  have HTL := Lib.hid (Nat.le_trans (tell_len (show wt.length ≤ 60000 by omega) hd (m.st.toNat : Int) (n0 + 1)).2 h2)
  generalize tellK wt (m.st.toNat : Int) (n0 + 1) = tl at *
  generalize leftK wt (m.st.toNat : Int) (n0 + 1) = lf at *
  generalize nextK wt (m.st.toNat : Int) (n0 + 1) = nk at *
  clear hne hd
  clear hok
  go_enter Try.func12, Try.ntmps12
  go_wp2_with fail
  have HS : (fun U => Bx U w.heap.size 27 #[.slice (some ⟨b, off, none⟩) nx.length cap, .slice A' wt.length cap'] ∧ Bx U (w.heap.size + 1) 40 (cellsMg m) ∧ Bx U (w.heap.size + 2) 27 #[.slice none 0 0, .slice none 0 0] ∧ Below w.heap.size w U ∧ w.heap.size + 3 ≤ U.heap.size) W.drew := ⟨HQ.out.drew, HM.out.drew, HZ.out.drew, below_drawn HB.out, hsz⟩
  clear hW HQ HM HZ HB d0 d1 d2
  refine wp_region_noPanic ?_
  refine wp_region_waits (S := (fun U => Bx U w.heap.size 27 #[.slice (some ⟨b, off, none⟩) nx.length cap, .slice A' wt.length cap'] ∧ Bx U (w.heap.size + 1) 40 (cellsMg m) ∧ Bx U (w.heap.size + 2) 27 #[.slice none 0 0, .slice none 0 0] ∧ Below w.heap.size w U ∧ w.heap.size + 3 ≤ U.heap.size)) [] (by kernel_rfl) HS (fun hHeld => ?_)
  clear HS
  refine wpAnyW_take (i := 0) (v := ?_) (by simp only [List.getElem?_toArray, List.getElem?_cons_zero]; rfl) (by kernel_rfl) (by kernel_rfl) (by kernel_rfl) (by kernel_rfl) (by kernel_rfl) (fun _ _ _ h => h) (Or.inl ⟨by rfl, ?_⟩) (by assumption) ?_
  rotate_left 1
  · (intro w' hSw; go_simp; try with_reducible rfl)
  try simp only [Act.put, List.setIfInBounds_toArray, List.set_cons_zero, List.set_cons_succ]
  refine wpAnyW_take (i := 1) (v := ?_) (by simp only [List.getElem?_toArray, List.getElem?_cons_succ, List.getElem?_cons_zero]; rfl) (by kernel_rfl) (by kernel_rfl) (by kernel_rfl) (by kernel_rfl) (by kernel_rfl) (fun _ _ _ h => h) (Or.inl ⟨by rfl, ?_⟩) (by assumption) ?_
  rotate_left 1
  · (intro w' hSw; have hq := hSw.2.1.cell 3 (.int .u16 (m.ss.toNat : Int)) rfl; go_simp; try with_reducible rfl)
  try simp only [Act.put, List.setIfInBounds_toArray, List.set_cons_zero, List.set_cons_succ]
  refine wpAnyW_take (i := 2) (v := ?_) (by simp only [List.getElem?_toArray, List.getElem?_cons_succ, List.getElem?_cons_zero]; rfl) (by kernel_rfl) (by kernel_rfl) (by kernel_rfl) (by kernel_rfl) (by kernel_rfl) (fun _ _ _ h => h) (Or.inl ⟨by rfl, ?_⟩) (by assumption) ?_
  rotate_left 1
  · (intro w' hSw; go_simp; try with_reducible rfl)
  try simp only [Act.put, List.setIfInBounds_toArray, List.set_cons_zero, List.set_cons_succ]
  refine wpAnyW_take (i := 3) (v := ?_) (by simp only [List.getElem?_toArray, List.getElem?_cons_succ, List.getElem?_cons_zero]; rfl) (by kernel_rfl) (by kernel_rfl) (by kernel_rfl) (by kernel_rfl) (by kernel_rfl) (fun _ _ _ h => h) (Or.inl ⟨by rfl, ?_⟩) (by assumption) ?_
  rotate_left 1
  · (intro w' hSw; have hq := hSw.1.cell 0 (.slice (some ⟨b, off, none⟩) nx.length cap) rfl; go_simp; try with_reducible rfl)
  try simp only [Act.put, List.setIfInBounds_toArray, List.set_cons_zero, List.set_cons_succ]
  refine wpAnyW_take (i := 4) (v := ?_) (by simp only [List.getElem?_toArray, List.getElem?_cons_succ, List.getElem?_cons_zero]; rfl) (by kernel_rfl) (by kernel_rfl) (by kernel_rfl) (by kernel_rfl) (by kernel_rfl) (fun _ _ _ h => h) (Or.inl ⟨by rfl, ?_⟩) (by assumption) ?_
  rotate_left 1
  · (intro w' hSw; go_simp; try with_reducible rfl)
  try simp only [Act.put, List.setIfInBounds_toArray, List.set_cons_zero, List.set_cons_succ]
  refine wpAnyW_take (i := 5) (v := ?_) (by simp only [List.getElem?_toArray, List.getElem?_cons_succ, List.getElem?_cons_zero]; rfl) (by kernel_rfl) (by kernel_rfl) (by kernel_rfl) (by kernel_rfl) (by kernel_rfl) (fun _ _ _ h => h) (Or.inl ⟨by rfl, ?_⟩) (by assumption) ?_
  rotate_left 1
  · (intro w' hSw; go_simp; try with_reducible rfl)
  try simp only [Act.put, List.setIfInBounds_toArray, List.set_cons_zero, List.set_cons_succ]
  refine wpAnyW_take (i := 6) (v := ?_) (by simp only [List.getElem?_toArray, List.getElem?_cons_succ, List.getElem?_cons_zero]; rfl) (by kernel_rfl) (by kernel_rfl) (by kernel_rfl) (by kernel_rfl) (by kernel_rfl) (fun _ _ _ h => h) (Or.inl ⟨by rfl, ?_⟩) (by assumption) ?_
  rotate_left 1
  · (intro w' hSw; have hq := (hSw.2.2.2.1.cell (p := ⟨b, off + m.st.toNat, none⟩) hbw).trans HEN.out; go_simp; try with_reducible rfl)
  try simp only [Act.put, List.setIfInBounds_toArray, List.set_cons_zero, List.set_cons_succ]
  refine wpAnyW_held (i := 7) (by kernel_rfl) (by simp only [List.getElem?_toArray, List.getElem?_cons_succ, List.getElem?_cons_zero]; rfl) (fun K hK => ?_)
  rw [if_pos (by rfl)]
  go_simp
  refine (HPA.out _).mono ?_
  rintro _ w7 ⟨rfl, rfl⟩
  rw [HPB.out]
  go_wp2_with fail
  refine hK.out _ _ hHeld (fun hHeld => ?_)
  clear hK K
  try simp only [Act.put, List.setIfInBounds_toArray, List.set_cons_zero, List.set_cons_succ]
  refine wpAnyW_take (i := 8) (v := ?_) (by simp only [List.getElem?_toArray, List.getElem?_cons_succ, List.getElem?_cons_zero]; rfl) (by kernel_rfl) (by kernel_rfl) (by kernel_rfl) (by kernel_rfl) (by kernel_rfl) (fun _ _ _ h => h) (Or.inl ⟨by rfl, ?_⟩) (by assumption) ?_
  rotate_left 1
  · (intro w' hSw; go_simp; try with_reducible rfl)
  try simp only [Act.put, List.setIfInBounds_toArray, List.set_cons_zero, List.set_cons_succ]
  refine wpAnyW_take (i := 9) (v := _) (by simp only [List.getElem?_toArray, List.getElem?_cons_succ, List.getElem?_cons_zero]; rfl) (by kernel_rfl) (by kernel_rfl) (by kernel_rfl) (by kernel_rfl) (by kernel_rfl) (fun _ _ _ h => h) (yB (ty := 27) (by rfl) rfl rfl (fun V h => h.1) Try.underlying27 rfl infoQ) (by assumption) ?_
  try simp only [Act.put, List.setIfInBounds_toArray, List.set_cons_zero, List.set_cons_succ]
  refine wpAnyW_take (i := 10) (v := _) (by simp only [List.getElem?_toArray, List.getElem?_cons_succ, List.getElem?_cons_zero]; rfl) (by kernel_rfl) (by kernel_rfl) (by kernel_rfl) (by kernel_rfl) (by kernel_rfl) (fun _ _ _ h => h) (yB (ty := 40) (by rfl) rfl rfl (fun V h => h.2.1) Try.underlying40 rfl infoM) (by assumption) ?_
  try simp only [Act.put, List.setIfInBounds_toArray, List.set_cons_zero, List.set_cons_succ]
  refine wpAnyW_held (i := 11) (by kernel_rfl) (by simp only [List.getElem?_toArray, List.getElem?_cons_succ, List.getElem?_cons_zero]; rfl) (fun K hK => ?_)
  rw [if_pos (by rfl)]
  go_simp
  refine (HTH.out _ (HW.out.below hHeld.2.2.2.1)).mono ?_
  rintro _ w9 ⟨rfl, hb⟩
  rw [HAN.out]
  have HS : (fun U => Bx U w.heap.size 27 #[.slice (some ⟨b, off, none⟩) nx.length cap, .slice A' wt.length cap'] ∧ Bx U (w.heap.size + 1) 40 (cellsMg m) ∧ Bx U (w.heap.size + 2) 27 #[.slice none 0 0, .slice none 0 0] ∧ Below w.heap.size w U ∧ w.heap.size + 3 ≤ U.heap.size) _ := ⟨hHeld.1.later hb, hHeld.2.1.later hb, hHeld.2.2.1.later hb, hHeld.2.2.2.1.trans (hb.mono hHeld.2.2.2.1.size), Nat.le_trans hHeld.2.2.2.2 hb.size⟩
  clear hHeld hb
  go_wp2_with fail
  refine hK.out _ _ HS (fun hHeld => ?_)
  clear hK K HS
  try simp only [Act.put, List.setIfInBounds_toArray, List.set_cons_zero, List.set_cons_succ]
  refine wpAnyW_take (i := 12) (v := ?_) (by simp only [List.getElem?_toArray, List.getElem?_cons_succ, List.getElem?_cons_zero]; rfl) (by kernel_rfl) (by kernel_rfl) (by kernel_rfl) (by kernel_rfl) (by kernel_rfl) (fun _ _ _ h => h) (Or.inl ⟨by rfl, ?_⟩) (by assumption) ?_
  rotate_left 1
  · (intro w' hSw; go_simp; try with_reducible rfl)
  try simp only [Act.put, List.setIfInBounds_toArray, List.set_cons_zero, List.set_cons_succ]
  refine wpAnyW_held (i := 13) (by kernel_rfl) (by simp only [List.getElem?_toArray, List.getElem?_cons_succ, List.getElem?_cons_zero]; rfl) (fun K hK => ?_)
  rw [if_pos (by rfl)]
  go_simp
  have HQ := Lib.hid hHeld.1
  have HM := Lib.hid hHeld.2.1
  have HZ := Lib.hid hHeld.2.2.1
  have HB := Lib.hid hHeld.2.2.2.1
  have hsw := hHeld.2.2.2.2
  refine hK.out _ _ hHeld (fun hHeld => ?_)
  clear hK K hHeld
  try simp only [Act.put, List.setIfInBounds_toArray, List.set_cons_zero, List.set_cons_succ]
  refine wpAnyW_done (by kernel_rfl) ?_ _
  refine NoPanic.normal ?_
  obtain ⟨i0, hi0, hz0, hz1, hz2⟩ := info_parts infoMZ
  have HI := Lib.hid hi0
  have HZ0 := Lib.hid hz0
  have HZ1 := Lib.hid hz1
  have HZ2 := Lib.hid hz2
  clear hi0 hz0 hz1 hz2
  generalize hw9 : w9 = wy at *
  clear hw9
  have HMy := HM
  have HZy := HZ
  have HBy := HB
  go_wp2_with (first
    | ((with_reducible refine gate9 ?_); refine ldB (ty := 27) rfl rfl rfl HQ.out Try.underlying27 rfl infoQ ?_)
    | (go_at_call 24; (with_reducible refine (HCP.out _ _ _ (HN.out.below HB.out) (HW.out.below HB.out)).mono ?_); rintro e w7 ⟨B1, k1, B2, k2, rfl, hown, hb⟩; obtain ⟨bn, rfl, hbB, hk1, hk2, hrb, hne2, hog⟩ := OwnQ.open hown HPN.out; obtain ⟨v8, hv8, HR, HB8, hs8⟩ := one_open w7 27 #[.slice (some ⟨bn, 0, none⟩) nx.length k1, .slice B2 wt.length k2]; have hb8 := hb.trans (HB8.out.mono hb.size); have HRB := Lib.hid (hrb.later HB8.out); have HOG := Lib.hid (hog.later HB8.out); have HNE := Lib.hid hne2; have hr1 := hrb.lt; have hr2 := HR.out.lt; have HGL := Lib.hid (fun z hz => (hog.lt z hz).2); replace HM := Lib.hid (HM.out.later hb8); replace HZ := Lib.hid (HZ.out.later hb8); have hszv := Nat.le_trans hb.size HB8.out.size; have HBV := Lib.hid hb8; replace HB := Lib.hid (HB.out.trans (hb8.mono HB.out.size)); clear hown hb hb8 HB8 hs8 hrb hog hne2))
  have HS : (fun U => Bx U (w.heap.size + 1) 40 (cellsMg m) ∧ Bx U w7.heap.size 27 #[.slice (some ⟨bn, 0, none⟩) nx.length k1, .slice B2 wt.length k2] ∧ RowB enc16 U bn 38 nx) v8.drew := ⟨HM.out.drew, HR.out.drew, HRB.out⟩
  refine wp_region_noPanic ?_
  refine wp_region_waits (S := (fun U => Bx U (w.heap.size + 1) 40 (cellsMg m) ∧ Bx U w7.heap.size 27 #[.slice (some ⟨bn, 0, none⟩) nx.length k1, .slice B2 wt.length k2] ∧ RowB enc16 U bn 38 nx)) [] (by kernel_rfl) HS (fun hHeld => ?_)
  clear HS
  refine wpAnyW_take (i := 0) (v := ?_) (by simp only [List.getElem?_toArray, List.getElem?_cons_zero]; rfl) (by kernel_rfl) (by kernel_rfl) (by kernel_rfl) (by kernel_rfl) (by kernel_rfl) (fun _ _ _ h => h) (Or.inl ⟨by rfl, ?_⟩) (by assumption) ?_
  rotate_left 1
  · (intro w' hSw; go_simp; try with_reducible rfl)
  try simp only [Act.put, List.setIfInBounds_toArray, List.set_cons_zero, List.set_cons_succ]
  refine wpAnyW_take (i := 1) (v := ?_) (by simp only [List.getElem?_toArray, List.getElem?_cons_succ, List.getElem?_cons_zero]; rfl) (by kernel_rfl) (by kernel_rfl) (by kernel_rfl) (by kernel_rfl) (by kernel_rfl) (fun _ _ _ h => h) (Or.inl ⟨by rfl, ?_⟩) (by assumption) ?_
  rotate_left 1
  · (intro w' hSw; have hq := hSw.1.cell 3 (.int .u16 (m.ss.toNat : Int)) rfl; go_simp; try with_reducible rfl)
  try simp only [Act.put, List.setIfInBounds_toArray, List.set_cons_zero, List.set_cons_succ]
  refine wpAnyW_take (i := 2) (v := ?_) (by simp only [List.getElem?_toArray, List.getElem?_cons_succ, List.getElem?_cons_zero]; rfl) (by kernel_rfl) (by kernel_rfl) (by kernel_rfl) (by kernel_rfl) (by kernel_rfl) (fun _ _ _ h => h) (Or.inl ⟨by rfl, ?_⟩) (by assumption) ?_
  rotate_left 1
  · (intro w' hSw; go_simp; try with_reducible rfl)
  try simp only [Act.put, List.setIfInBounds_toArray, List.set_cons_zero, List.set_cons_succ]
  refine wpAnyW_take (i := 3) (v := ?_) (by simp only [List.getElem?_toArray, List.getElem?_cons_succ, List.getElem?_cons_zero]; rfl) (by kernel_rfl) (by kernel_rfl) (by kernel_rfl) (by kernel_rfl) (by kernel_rfl) (fun _ _ _ h => h) (Or.inl ⟨by rfl, ?_⟩) (by assumption) ?_
  rotate_left 1
  · (intro w' hSw; have hq := hSw.2.1.cell 0 (.slice (some ⟨bn, 0, none⟩) nx.length k1) rfl; go_simp; try with_reducible rfl)
  try simp only [Act.put, List.setIfInBounds_toArray, List.set_cons_zero, List.set_cons_succ]
  refine wpAnyW_take (i := 4) (v := ?_) (by simp only [List.getElem?_toArray, List.getElem?_cons_succ, List.getElem?_cons_zero]; rfl) (by kernel_rfl) (by kernel_rfl) (by kernel_rfl) (by kernel_rfl) (by kernel_rfl) (fun _ _ _ h => h) (Or.inl ⟨by rfl, ?_⟩) (by assumption) ?_
  rotate_left 1
  · (intro w' hSw; go_simp; try with_reducible rfl)
  try simp only [Act.put, List.setIfInBounds_toArray, List.set_cons_zero, List.set_cons_succ]
  refine wpAnyW_take (i := 5) (v := ?_) (by simp only [List.getElem?_toArray, List.getElem?_cons_succ, List.getElem?_cons_zero]; rfl) (by kernel_rfl) (by kernel_rfl) (by kernel_rfl) (by kernel_rfl) (by kernel_rfl) (fun _ _ _ h => h) (Or.inl ⟨by rfl, ?_⟩) (by assumption) ?_
  rotate_left 1
  · (intro w' hSw; go_simp; try with_reducible rfl)
  try simp only [Act.put, List.setIfInBounds_toArray, List.set_cons_zero, List.set_cons_succ]
  refine wpAnyW_take (i := 6) (v := ?_) (by simp only [List.getElem?_toArray, List.getElem?_cons_succ, List.getElem?_cons_zero]; rfl) (by kernel_rfl) (by kernel_rfl) (by kernel_rfl) (by kernel_rfl) (by kernel_rfl) (fun _ _ _ h => h) (Or.inl ⟨by rfl, ?_⟩) (by assumption) ?_
  rotate_left 1
  · (intro w' hSw; have hq : w'.cell? ⟨bn, m.st.toNat, none⟩ = some (.int .u16 (n0.toNat : Int)) := (hSw.2.2.cell HSI.out).trans (congrArg (fun u => some (enc16 u)) HNE0.out); go_simp; try with_reducible rfl)
  try simp only [Act.put, List.setIfInBounds_toArray, List.set_cons_zero, List.set_cons_succ]
  refine wpAnyW_take (i := 7) (v := ?_) (by simp only [List.getElem?_toArray, List.getElem?_cons_succ, List.getElem?_cons_zero]; rfl) (by kernel_rfl) (by kernel_rfl) (by kernel_rfl) (by kernel_rfl) (by kernel_rfl) (fun _ _ _ h => h) (Or.inl ⟨by rfl, ?_⟩) (by assumption) ?_
  rotate_left 1
  · (intro w' hSw; go_simp; try with_reducible rfl)
  try simp only [Act.put, List.setIfInBounds_toArray, List.set_cons_zero, List.set_cons_succ]
  clear hHeld
  refine wpAnyW_done (by kernel_rfl) ?_ _
  refine NoPanic.normal ?_
  have hv8s : w7.heap.size < v8.drew.heap.size := hr2
  have hy8 : wy.heap.size ≤ v8.drew.heap.size := hszv
  have HBU : Hid (Below wy.heap.size wy v8.drew) := Lib.hid (below_drawn HBV.out)
  replace HR : Hid (Bx v8.drew _ _ _) := Lib.hid HR.out.drew
  replace HRB : Hid (RowB enc16 v8.drew bn 38 nx) := Lib.hid HRB.out
  have HRW : Hid (RowM v8.drew (.slice B2 wt.length k2) wt) := Lib.hid (rowM_of_ownG HOG.out.drew)
  have HNI : Hid (NotIn bn (.slice B2 wt.length k2) ∧ NotIn w7.heap.size (.slice B2 wt.length k2)) := Lib.hid ⟨notIn_own HNE.out, notIn_own (fun z hz => by have := HGL.out z hz; omega)⟩
  clear hv8 hr2 hszv HM HZ HB HOG HNE HGL
  generalize v8.drew = u8 at *
  have c0 := HR.out.cell 0 (.slice (some ⟨bn, 0, none⟩) nx.length k1) rfl
  have en : u8.cell? ⟨bn, m.st.toNat, none⟩ = some (.int .u16 (n0.toNat : Int)) := (HRB.out.cell HSI.out).trans (congrArg (fun u => some (enc16 u)) HNE0.out)
  have s1 : ((n0.toNat : Int) + 1) % 65536 = ((n0 + 1).toNat : Int) := by
    rw [UInt16.toNat_add]
    show _ = (((n0.toNat + 1) % 65536 : Nat) : Int)
    omega
  generalize hu1 : n0 + 1 = u1 at *
  clear hu1
  go_wp2_with ((with_reducible refine gate9 ?_); refine stR (ty := 38) m.st.toNat u1 rfl rfl rfl (by first | rfl | exact congrArg (Value.int .u16) s1) HRB.out HSI.out infoH rfl ?_; intro w12 ht hg; replace HRB := Lib.hid ht; replace HR := Lib.hid (HR.out.kept hg (by omega)); replace HRW := Lib.hid (HRW.out.kept HNI.out.1 hg); replace HBU := Lib.hid (below_of_grown1 HBU.out hg HBU.out.size hbB); have hs12 := hg.size; clear ht hg c0 en)
  have HRY : Hid (wy.heap.size ≤ w7.heap.size ∧ wy.heap.size ≤ bn) := Lib.hid ⟨by omega, hbB⟩
  have HTO2 := Lib.hid (fun V hq hn hwv => HTO.out w7.heap.size bn k1 (.slice B2 wt.length k2) V hq hn hk1 hk2 hwv (Nat.ne_of_lt hr1) HNI.out.2 HNI.out.1)
  replace HTO := HTO2
  clear HTO2
  have HS : (fun U => Below wy.heap.size wy U) w12.drew := below_drawn HBU.out
  have hu12 : w7.heap.size < w12.drew.heap.size := Nat.lt_of_lt_of_le hv8s hs12
  replace HR : Hid (Bx w12.drew _ _ _) := Lib.hid HR.out.drew
  replace HRB : Hid (RowB enc16 w12.drew bn 38 _) := Lib.hid HRB.out
  replace HRW : Hid (RowM w12.drew _ wt) := Lib.hid HRW.out
  obtain ⟨m1, m2, m3, m4, m5, m6⟩ := m
  simp only at hfr
  subst hfr
  have HCM : Hid (cellsMg ⟨m1, false, m3, m4, m5, m6⟩ = #[.int .u32 (m1.toNat : Int), .bool false, .int .u16 (m3.toNat : Int), .int .u16 (m4.toNat : Int), .int .u32 (m5.toNat : Int), .string m6]) := Lib.hid rfl
  have HM3 : Hid ((⟨m1, false, m3, m4, m5, m6⟩ : Mg).st = m3) := Lib.hid rfl
  generalize hmm : (⟨m1, false, m3, m4, m5, m6⟩ : Mg) = m at *
  have HMM := Lib.hid hmm
  clear hmm hs12 HBU
  refine wp_region_noPanic ?_
  refine wp_region_waits (S := (fun U => Below wy.heap.size wy U)) [5] (by kernel_rfl) HS (fun hHeld => ?_)
  clear HS
  generalize w12.drew = u12 at *
  refine wpAnyW_take (i := 0) (v := _) (by simp only [List.getElem?_toArray, List.getElem?_cons_zero]; rfl) (by kernel_rfl) (by kernel_rfl) (by kernel_rfl) (by kernel_rfl) (by kernel_rfl) (fun _ _ _ h => h) (yB (ty := 40) (by rfl) rfl rfl (fun V h => HMy.out.later h) Try.underlying40 rfl infoM) (by assumption) ?_
  try simp only [Act.put, List.setIfInBounds_toArray, List.set_cons_zero, List.set_cons_succ]
  refine wpAnyW_take (i := 2) (v := ?_) (by simp only [List.getElem?_toArray, List.getElem?_cons_succ, List.getElem?_cons_zero]; rfl) (by kernel_rfl) (by kernel_rfl) (by kernel_rfl) (by kernel_rfl) (by kernel_rfl) (fun _ _ _ h => h) (Or.inl ⟨by rfl, ?_⟩) (by assumption) ?_
  rotate_left 1
  · (intro w' hSw; go_simp; try with_reducible rfl)
  try simp only [Act.put, List.setIfInBounds_toArray, List.set_cons_zero, List.set_cons_succ]
  refine wpAnyW_two (i := 1) (i2 := 3) (by kernel_rfl) (by simp only [List.getElem?_toArray, List.getElem?_cons_succ, List.getElem?_cons_zero]; rfl) (by simp only [List.getElem?_toArray, List.getElem?_cons_succ, List.getElem?_cons_zero]; rfl) (fun K hK => ?_) (fun K hK => ?_)
  · rw [if_pos (by rfl)]
    obtain ⟨v13, hv13, HX, HB13, hs13⟩ := one_open u12 40 #[.int .u32 (m1.toNat : Int), .bool false, .int .u16 (m3.toNat : Int), .int .u16 (m4.toNat : Int), .int .u32 (m5.toNat : Int), .string m6]
    obtain ⟨ga, hga0⟩ : ∃ g, u12.heap.size = g := ⟨_, rfl⟩
    rw [hga0] at HX hs13
    rw [← HCM.out] at HX
    have hga : wy.heap.size ≤ ga := by rw [← hga0]; exact hHeld.size
    have hcm6 := HCM.out
    have HS : (fun U => Below wy.heap.size wy U) _ := hHeld.trans (HB13.out.mono hHeld.size)
    have HBX := Lib.hid (show Below u12.heap.size u12 v13 from HB13.out)
    have hgr : w7.heap.size < ga := by rw [← hga0]; exact hu12
    have hgb : bn < ga := by omega
    clear hHeld HB13
    go_simp
    clear hcm6 hv13
    refine hK.out _ _ HS (fun hHeld => ?_)
    clear hK K HS
    try simp only [Act.put, List.setIfInBounds_toArray, List.set_cons_zero, List.set_cons_succ]
    refine wpAnyW_held (i := 3) (by kernel_rfl) (by simp only [List.getElem?_toArray, List.getElem?_cons_succ, List.getElem?_cons_zero]; rfl) (fun K hK => ?_)
    rw [if_pos (by rfl)]
    go_simp
    refine (HTO.out _ (HR.out.later HBX.out) (HRB.out.later HBX.out) (HRW.out.below HBX.out)).mono ?_
    rintro _ w15 ⟨A6, c6, A7, c7, rfl, hown, hq15, hn15, hw15, hf15, hc15⟩
    have HS : (fun U => Below wy.heap.size wy U) _ := below_ch hHeld hc15 hHeld.size (fun z hz => by rcases hz with rfl | rfl; exact HRY.out.1; exact HRY.out.2)
    have HQ15 := Lib.hid hq15
    have HN15 := Lib.hid hn15
    have HW15 := Lib.hid hw15
    have HT15 := Lib.hid hown
    replace HX := Lib.hid (HX.out.ch hc15 (by rintro (e | e) <;> omega))
    have HF15 := Lib.hid (hf15.less (show ga + 1 ≤ _ from Nat.le_of_eq hs13.symm))
    clear hHeld hown hq15 hn15 hw15 hf15 hc15
    go_wp2_with fail
    refine hK.out _ _ HS (fun hHeld => ?_)
    clear hK K HS
    try simp only [Act.put, List.setIfInBounds_toArray, List.set_cons_zero, List.set_cons_succ]
    refine wpAnyW_held (i := 4) (by kernel_rfl) (by simp only [List.getElem?_toArray, List.getElem?_cons_succ, List.getElem?_cons_zero]; rfl) (fun K hK => ?_)
    refine step_append_fed _ (by rfl) (.tmp 67) (.tmp 69) 25 25 (by rfl) wy 40 i0 _ 6 32 Try.underlying25 (.inr ⟨_, Try.underlying25⟩) HI.out HZ0.out HZ1.out HZ2.out rfl (.slice (some ⟨ga, 0, none⟩) 1 1) 1 (cellsMg m).toList (by rfl) (OwnG.box HX.out hga rfl) (.slice A6 tl.length c6) tl.length (flatM tl) (by rfl) (Fed.own HT15.out (flatM_one _)) (by have := HTL.out; unfold maxLen; omega) (by have := HTL.out; omega) hHeld ?_
    intro v16 w16 hown hgr16 HS
    have HO16 := Lib.hid hown
    replace HQ15 := Lib.hid (HQ15.out.kept (k := ga) hgr16 (by omega))
    replace HN15 := Lib.hid (HN15.out.kept (k := ga) hgr16 (by omega))
    replace HW15 := Lib.hid (HW15.out.kept (k := ga) (NotIn.of_fresh HF15.out (Nat.lt_succ_self _)) hgr16)
    have HFY := Lib.hid (HF15.out.less (show wy.heap.size ≤ _ by omega))
    have HE := Lib.hid HS
    have HFO := Lib.hid (fresh_ownG hown)
    obtain ⟨A9, k9, rfl, -, -, -⟩ := id hown.slice
    clear hHeld hown hgr16 HX HT15 HF15
    refine hK.out _ _ HS (fun hHeld => ?_)
    clear hK K HS
    try simp only [Act.put, List.setIfInBounds_toArray, List.set_cons_zero, List.set_cons_succ]
    refine wpAnyW_freed (i := 5) (by kernel_rfl) (by kernel_rfl) (by simp only [List.getElem?_toArray, List.getElem?_cons_succ, List.getElem?_cons_zero]; rfl) (fun K hK => ?_)
    rw [if_pos (by rfl)]
    refine hK.out _ _ ?_
    clear hK K hHeld
    try simp only [Act.put, List.setIfInBounds_toArray, List.set_cons_zero, List.set_cons_succ]
    refine wpAnyW_done (by kernel_rfl) ?_ _
    refine NoPanic.normal ?_
    have HZE := Lib.hid (HZy.out.under HE.out (show w.heap.size + 2 < wy.heap.size by omega))
    go_wp2_with (first
      | ((with_reducible refine gate9 ?_); refine ldB (ty := 27) rfl rfl rfl HQ15.out Try.underlying27 rfl infoQ ?_)
      | ((with_reducible refine gate9 ?_); refine stB (ty := 27) #[.slice (some ⟨bn, 0, none⟩) nx.length k1, .slice A7 lf.length c7] rfl rfl rfl rfl HZE.out infoQ rfl (cellsQ_one _ _ _ _ _ _) ?_; intro w17 ht hg; have HZ17 := Lib.hid ht; have HNE := Lib.hid (HN15.out.kept hg (by omega)); have HWE := Lib.hid (HW15.out.kept (NotIn.of_fresh HFY.out (by omega)) hg); have HOE := Lib.hid ((rowM_of_ownG (l := m :: tl) HO16.out).kept (NotIn.of_fresh HFO.out (by omega)) hg); have HBE := Lib.hid (below_of_grown1 (HBy.out.trans (HE.out.mono HBy.out.size)) hg (HBy.out.trans (HE.out.mono HBy.out.size)).size (by omega)); clear ht hg))
    refine bodyPost_ret (retQ3 rfl rfl rfl rfl rfl HZ17.out) rfl ?_
    rw [HMM.out, ← HM3.out]
    have hls : (nx.set m.st.toNat nk).length = nx.length := List.length_set
    have hlc : (m :: tl).length = 1 + tl.length := by rw [List.length_cons, Nat.add_comm]
    unfold PutR
    rw [hls, hlc]
    exact ⟨some ⟨bn, 0, none⟩, k1, A7, c7, A9, k9, rfl, by rw [← hls]; exact HNE.out.row (by rw [hls]; exact hk1) hk2, HWE.out, HOE.out, Out.fresh (fresh_some (show w.heap.size ≤ bn by omega)) (fun k hk => hk), Out.fresh (HFY.out.less (show w.heap.size ≤ _ by omega)) (fun k hk => hk), Out.fresh (HFO.out.less (show w.heap.size ≤ _ by omega)) (fun k hk => hk), HBE.out⟩
  · rw [if_pos (by rfl)]
    go_simp
    refine (HTO.out _ HR.out HRB.out HRW.out).mono ?_
    rintro _ w15 ⟨A6, c6, A7, c7, rfl, hown, hq15, hn15, hw15, hf15, hc15⟩
    have HS : (fun U => Below wy.heap.size wy U) _ := below_ch hHeld hc15 hHeld.size (fun z hz => by rcases hz with rfl | rfl; exact HRY.out.1; exact HRY.out.2)
    have HQ15 := Lib.hid hq15
    have HN15 := Lib.hid hn15
    have HW15 := Lib.hid hw15
    have HT15 := Lib.hid hown
    have HF15 := Lib.hid hf15
    have hs15 := hc15.size
    clear hHeld hown hq15 hn15 hw15 hf15 hc15
    go_wp2_with fail
    refine hK.out _ _ HS (fun hHeld => ?_)
    clear hK K HS
    try simp only [Act.put, List.setIfInBounds_toArray, List.set_cons_zero, List.set_cons_succ]
    refine wpAnyW_held (i := 1) (by kernel_rfl) (by simp only [List.getElem?_toArray, List.getElem?_cons_succ, List.getElem?_cons_zero]; rfl) (fun K hK => ?_)
    rw [if_pos (by rfl)]
    obtain ⟨v13, hv13, HX, HB13, hs13⟩ := one_open w15 40 #[.int .u32 (m1.toNat : Int), .bool false, .int .u16 (m3.toNat : Int), .int .u16 (m4.toNat : Int), .int .u32 (m5.toNat : Int), .string m6]
    obtain ⟨ga, hga0⟩ : ∃ g, w15.heap.size = g := ⟨_, rfl⟩
    rw [hga0] at HX hs13
    rw [← HCM.out] at HX
    have hga : wy.heap.size ≤ ga := by rw [← hga0]; exact hHeld.size
    have hcm6 := HCM.out
    have HS : (fun U => Below wy.heap.size wy U) _ := hHeld.trans (HB13.out.mono hHeld.size)
    have HBX := Lib.hid (show Below w15.heap.size w15 v13 from HB13.out)
    clear hHeld HB13
    go_simp
    clear hcm6 hv13
    refine hK.out _ _ HS (fun hHeld => ?_)
    clear hK K HS
    try simp only [Act.put, List.setIfInBounds_toArray, List.set_cons_zero, List.set_cons_succ]
    refine wpAnyW_held (i := 4) (by kernel_rfl) (by simp only [List.getElem?_toArray, List.getElem?_cons_succ, List.getElem?_cons_zero]; rfl) (fun K hK => ?_)
    refine step_append_fed _ (by rfl) (.tmp 67) (.tmp 69) 25 25 (by rfl) wy 40 i0 _ 6 32 Try.underlying25 (.inr ⟨_, Try.underlying25⟩) HI.out HZ0.out HZ1.out HZ2.out rfl (.slice (some ⟨ga, 0, none⟩) 1 1) 1 (cellsMg m).toList (by rfl) (OwnG.box HX.out hga rfl) (.slice A6 tl.length c6) tl.length (flatM tl) (by rfl) (Fed.own (HT15.out.later HBX.out) (flatM_one _)) (by have := HTL.out; unfold maxLen; omega) (by have := HTL.out; omega) hHeld ?_
    intro v16 w16 hown hgr16 HS
    have HO16 := Lib.hid hown
    have hb16 : Below w15.heap.size w15 w16 := HBX.out.grown hgr16 HBX.out.size (fun z hz => by cases hz; exact Nat.le_of_eq hga0)
    replace HQ15 := Lib.hid (HQ15.out.later hb16)
    replace HN15 := Lib.hid (HN15.out.later hb16)
    replace HW15 := Lib.hid (HW15.out.below hb16)
    have HFY := Lib.hid (HF15.out.less (show wy.heap.size ≤ _ by omega))
    have HE := Lib.hid HS
    have HFO := Lib.hid (fresh_ownG hown)
    obtain ⟨A9, k9, rfl, -, -, -⟩ := id hown.slice
    clear hHeld hown hgr16 HX HT15 HF15
    refine hK.out _ _ HS (fun hHeld => ?_)
    clear hK K HS
    try simp only [Act.put, List.setIfInBounds_toArray, List.set_cons_zero, List.set_cons_succ]
    refine wpAnyW_freed (i := 5) (by kernel_rfl) (by kernel_rfl) (by simp only [List.getElem?_toArray, List.getElem?_cons_succ, List.getElem?_cons_zero]; rfl) (fun K hK => ?_)
    rw [if_pos (by rfl)]
    refine hK.out _ _ ?_
    clear hK K hHeld
    try simp only [Act.put, List.setIfInBounds_toArray, List.set_cons_zero, List.set_cons_succ]
    refine wpAnyW_done (by kernel_rfl) ?_ _
    refine NoPanic.normal ?_
    have HZE := Lib.hid (HZy.out.under HE.out (show w.heap.size + 2 < wy.heap.size by omega))
    go_wp2_with (first
      | ((with_reducible refine gate9 ?_); refine ldB (ty := 27) rfl rfl rfl HQ15.out Try.underlying27 rfl infoQ ?_)
      | ((with_reducible refine gate9 ?_); refine stB (ty := 27) #[.slice (some ⟨bn, 0, none⟩) nx.length k1, .slice A7 lf.length c7] rfl rfl rfl rfl HZE.out infoQ rfl (cellsQ_one _ _ _ _ _ _) ?_; intro w17 ht hg; have HZ17 := Lib.hid ht; have HNE := Lib.hid (HN15.out.kept hg (by omega)); have HWE := Lib.hid (HW15.out.kept (NotIn.of_fresh HFY.out (by omega)) hg); have HOE := Lib.hid ((rowM_of_ownG (l := m :: tl) HO16.out).kept (NotIn.of_fresh HFO.out (by omega)) hg); have HBE := Lib.hid (below_of_grown1 (HBy.out.trans (HE.out.mono HBy.out.size)) hg (HBy.out.trans (HE.out.mono HBy.out.size)).size (by omega)); clear ht hg))
    refine bodyPost_ret (retQ3 rfl rfl rfl rfl rfl HZ17.out) rfl ?_
    rw [HMM.out, ← HM3.out]
    have hls : (nx.set m.st.toNat nk).length = nx.length := List.length_set
    have hlc : (m :: tl).length = 1 + tl.length := by rw [List.length_cons, Nat.add_comm]
    unfold PutR
    rw [hls, hlc]
    exact ⟨some ⟨bn, 0, none⟩, k1, A7, c7, A9, k9, rfl, by rw [← hls]; exact HNE.out.row (by rw [hls]; exact hk1) hk2, HWE.out, HOE.out, Out.fresh (fresh_some (show w.heap.size ≤ bn by omega)) (fun k hk => hk), Out.fresh (HFY.out.less (show w.heap.size ≤ _ by omega)) (fun k hk => hk), Out.fresh (HFO.out.less (show w.heap.size ≤ _ by omega)) (fun k hk => hk), HBE.out⟩
/-- Put, whatever comes. -/
theorem put_any (nx : List UInt16) (wt : List Mg) (m : Mg) (h1 : nx.length ≤ 100000) (h2 : wt.length ≤ 1000) (vn v : Value) (w : World) (hn : RowE enc16 w vn nx) (hw : RowM w v wt) (hok : OkQ nx wt) :
    Calls Try.prog 12 #[.agg #[vn, v], .agg (cellsMg m)] w fun e w' => PutR (fun k => k < w.heap.size) w w' e (putE nx wt m) (putN nx wt m) (putW nx wt m) (putT nx wt m) := by
  by_cases c1 : nx.length ≤ m.st.toNat
  · have e1 : putE nx wt m = 12 ∧ putN nx wt m = [] ∧ putW nx wt m = [] ∧ putT nx wt m = [] := by unfold putE putN putW putT; simp [c1]
    rw [e1.1, e1.2.1, e1.2.2.1, e1.2.2.2]
    exact put_stream nx wt m h1 h2 vn v w hn hw c1
  · have hst : m.st.toNat < nx.length := by omega
    cases hfr : m.fr with
    | true =>
      have e1 : putE nx wt m = 0 ∧ putN nx wt m = nx ∧ putW nx wt m = wt ∧ putT nx wt m = [m] := by unfold putE putN putW putT; simp [c1, hfr]
      rw [e1.1, e1.2.1, e1.2.2.1, e1.2.2.2]
      exact put_free nx wt m h1 h2 vn v w hn hw hst hfr
    | false =>
      cases hb : (pastB m.ss (atN nx m.st.toNat) || wt.any (sameB m)) with
      | true =>
        have e1 : putE nx wt m = 9 ∧ putN nx wt m = [] ∧ putW nx wt m = [] ∧ putT nx wt m = [] := by unfold putE putN putW putT; rw [if_neg c1, if_neg c1, if_neg c1, if_neg c1, hfr, hb]; simp
        rw [e1.1, e1.2.1, e1.2.2.1, e1.2.2.2]
        exact put_there nx wt m h1 h2 vn v w hn hw hst hfr hb
      | false =>
        have e1 : putE nx wt m = 0 ∧ putN nx wt m = nx.set m.st.toNat (nextK (wt ++ [m]) m.st.toNat (atN nx m.st.toNat)) ∧ putW nx wt m = leftK (wt ++ [m]) m.st.toNat (atN nx m.st.toNat) ∧ putT nx wt m = tellK (wt ++ [m]) m.st.toNat (atN nx m.st.toNat) := by unfold putE putN putW putT; rw [if_neg c1, if_neg c1, if_neg c1, if_neg c1, hfr, hb]; simp
        rw [e1.1, e1.2.1, e1.2.2.1, e1.2.2.2]
        by_cases he : m.ss = atN nx m.st.toNat
        · obtain ⟨t1, t2, t3⟩ := put_next hok h2 m he
          rw [t1, t2, t3]
          exact put_told nx wt m h1 h2 vn v w hn hw hst hfr hb hok.dis he
        · obtain ⟨t1, t2, t3⟩ := put_early hok h2 m he
          rw [t1, t2, t3, show nx.set m.st.toNat (atN nx m.st.toNat) = nx by rw [atN_eq hst]; exact List.set_getElem_self hst]
          exact put_wait nx wt m h1 h2 vn v w hn hw hst hfr hb he
end Go.Proofs.Ytondgdacjbfihaa
