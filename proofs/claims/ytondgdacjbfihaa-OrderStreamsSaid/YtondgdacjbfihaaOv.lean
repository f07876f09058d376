/-
  Package order: Put: three ways of five: contracts.
-/
import Derived.Test.YtondgdacjbfihaaOu
namespace Go.Proofs.Ytondgdacjbfihaa
open Go.RowKit
set_option linter.unusedVariables false
set_option linter.unusedSimpArgs false
set_option maxRecDepth 100000

/-- Rows that do not begin in some blocks. -/
def Out (P : Nat → Prop) (v : Value) : Prop := ∀ k, P k → NotIn k v
theorem Out.nil (P : Nat → Prop) (n c : Nat) : Out P (.slice none n c) := fun k _ a n c e => by cases e
theorem Out.fresh {B : Nat} {v : Value} (h : Fresh B v) {P : Nat → Prop} (hP : ∀ k, P k → k < B) : Out P v := fun k hk => NotIn.of_fresh h (hP k hk)
/-- What Put and Skip answer. -/
def PutR (P : Nat → Prop) (w w' : World) (e : Ending) (E : Int) (N : List UInt16) (W T : List Mg) : Prop := ∃ A1 c1 A2 c2 A3 c3, e = .returned (.tuple #[.agg #[.slice A1 N.length c1, .slice A2 W.length c2], .slice A3 T.length c3, .int .i64 E]) ∧ RowE enc16 w' (.slice A1 N.length c1) N ∧ RowM w' (.slice A2 W.length c2) W ∧ RowM w' (.slice A3 T.length c3) T ∧ Out P (.slice A1 N.length c1) ∧ Out P (.slice A2 W.length c2) ∧ Out P (.slice A3 T.length c3) ∧ Below w.heap.size w w'
theorem PutR.none (P : Nat → Prop) {w w' : World} {E : Int} (hb : Below w.heap.size w w') : PutR P w w' (.returned (.tuple #[.agg #[.slice .none 0 0, .slice .none 0 0], .slice .none 0 0, .int .i64 E])) E [] [] [] :=
  ⟨.none, 0, .none, 0, .none, 0, rfl, RowE.nil _ _, RowM.nil _, RowM.nil _, Out.nil P 0 0, Out.nil P 0 0, Out.nil P 0 0, hb⟩
theorem retQ3 {fn : Func} {p q u : Tmp} (h : fn.results = #[.cell p 27, .tmp q, .tmp u]) {tmps : Array Value} {w : World} {g : Nat} {cs : Array Value} {v v' : Value} (hz : cs.size = 2) (hp : tmps.getD p undef = .pointer (some ⟨g, 0, none⟩)) (hq : tmps.getD q undef = v) (hu : tmps.getD u undef = v') (hg : Bx w g 27 cs) : (results fn tmps).run Try.prog w = .ok (.tuple #[.agg cs, v, v']) w := by
  have hp' : tmps[p]?.getD undef = .pointer (some ⟨g, 0, none⟩) := by simpa using hp
  have hq' : tmps[q]?.getD undef = v := by simpa using hq
  have hu' : tmps[u]?.getD undef = v' := by simpa using hu
  simp [results, h, hp', hq', hu', asAddr, run_loadVar_row w g 27 27 cs (0, 0) _ hg Try.underlying27 rfl (by rw [hz]; exact infoQ)]
theorem OwnQ.later {W W' : World} {B : Nat} {A1 A2 : Option Addr} {c1 c2 : Nat} {nx : List UInt16} {wt : List Mg} (h : OwnQ W B A1 A2 c1 c2 nx wt) (hb : Below W.heap.size W W') : OwnQ W' B A1 A2 c1 c2 nx wt := ⟨ownM_below h.nums hb, ownM_below h.wait hb, h.ne⟩
theorem OwnQ.kept {W W' : World} {B k : Nat} {A1 A2 : Option Addr} {c1 c2 : Nat} {nx : List UInt16} {wt : List Mg} (h : OwnQ W B A1 A2 c1 c2 nx wt) (hg : W.grownBy W' (some k)) (hk : k < B) : OwnQ W' B A1 A2 c1 c2 nx wt := ⟨ownM_keep h.nums hg hk, ownM_keep h.wait hg hk, h.ne⟩
set_option maxHeartbeats 2000000 in
theorem put_stream (nx : List UInt16) (wt : List Mg) (m : Mg) (h1 : nx.length ≤ 100000) (h2 : wt.length ≤ 1000) (vn v : Value) (w : World) (hn : RowE enc16 w vn nx) (hw : RowM w v wt) (hst : nx.length ≤ m.st.toNat) :
    Calls Try.prog 12 #[.agg #[vn, v], .agg (cellsMg m)] w fun e w' => PutR (fun k => k < w.heap.size) w w' e 12 [] [] [] := by
  obtain ⟨W, hW, HQ, HM, HZ, HB, hs⟩ := three_open w 27 40 27 #[vn, v] (cellsMg m) #[.slice none 0 0, .slice none 0 0]
  have HN := Lib.hid hn
  have HW := Lib.hid hw
  obtain ⟨A, cap, rfl, hcn, hcm, hcell⟩ := id hn
  obtain ⟨A', cap', rfl, _, _, _⟩ := id hw
  have hnl : (nx.length : Int) ≤ 9223372036854775807 := by unfold maxLen at hcm; omega
  have d2 := HM.out.cell 2 (.int .u16 (m.st.toNat : Int)) rfl
  have d1 := HM.out.cell 1 (.bool m.fr) rfl
  have d0 := HQ.out.cell 0 (.slice A nx.length cap) rfl
  obtain ⟨b1, b3⟩ := fit16 m.st
  clear hn hw
  have q1 : (nx.length : Int) ≤ (m.st.toNat : Int) := by omega
  clear hcell
  go_enter Try.func12, Try.ntmps12
  go_wp2_with ((with_reducible refine gate9 ?_); refine stB (ty := 27) #[.slice none 0 0, .slice none 0 0] rfl rfl rfl rfl HZ.out infoQ rfl (cellsQ_one _ _ _ _ _ _) ?_; intro w6 ht hg; have HZ6 := Lib.hid ht; replace HB := Lib.hid (below_of_grown1 HB.out hg HB.out.size (by omega)); clear ht hg)
  exact bodyPost_ret (retQ3 rfl rfl rfl rfl rfl HZ6.out) rfl (PutR.none _ HB.out)
set_option maxHeartbeats 2000000 in
theorem put_free (nx : List UInt16) (wt : List Mg) (m : Mg) (h1 : nx.length ≤ 100000) (h2 : wt.length ≤ 1000) (vn v : Value) (w : World) (hn : RowE enc16 w vn nx) (hw : RowM w v wt) (hst : m.st.toNat < nx.length) (hfr : m.fr = true) :
    Calls Try.prog 12 #[.agg #[vn, v], .agg (cellsMg m)] w fun e w' => PutR (fun k => k < w.heap.size) w w' e 0 nx wt [m] := by
  obtain ⟨W, hW, HQ, HM, HZ, HB, hs⟩ := three_open w 27 40 27 #[vn, v] (cellsMg m) #[.slice none 0 0, .slice none 0 0]
  have HN := Lib.hid hn
  have HW := Lib.hid hw
  obtain ⟨A, cap, rfl, hcn, hcm, hcell⟩ := id hn
  obtain ⟨A', cap', rfl, _, _, _⟩ := id hw
  have hnl : (nx.length : Int) ≤ 9223372036854775807 := by unfold maxLen at hcm; omega
  have d2 := HM.out.cell 2 (.int .u16 (m.st.toNat : Int)) rfl
  have d1 := HM.out.cell 1 (.bool m.fr) rfl
  have d0 := HQ.out.cell 0 (.slice A nx.length cap) rfl
  obtain ⟨b1, b3⟩ := fit16 m.st
  clear hn hw
  have q1 : ¬ (nx.length : Int) ≤ (m.st.toNat : Int) := by omega
  have HCP := Lib.hid (fun V a b hna hwb => copied_any nx wt h1 (by omega) a b V hna hwb)
  have hsz : w.heap.size + 3 ≤ W.heap.size := by omega
  clear hcell
  obtain ⟨m1, m2, m3, m4, m5, m6⟩ := m
  simp only at hfr hst q1 b1 b3 d2 d1
  subst hfr
  have HCM : Hid (cellsMg ⟨m1, true, m3, m4, m5, m6⟩ = #[.int .u32 (m1.toNat : Int), .bool true, .int .u16 (m3.toNat : Int), .int .u16 (m4.toNat : Int), .int .u32 (m5.toNat : Int), .string m6]) := Lib.hid rfl
  generalize hmm : (⟨m1, true, m3, m4, m5, m6⟩ : Mg) = m at *
  clear hmm
  go_enter Try.func12, Try.ntmps12
  go_wp2_with fail
  have HS : (fun U => Bx U w.heap.size 27 #[.slice A nx.length cap, .slice A' wt.length cap'] ∧ Bx U (w.heap.size + 1) 40 (cellsMg m) ∧ Below w.heap.size w U ∧ w.heap.size + 3 ≤ U.heap.size) _ := ⟨HQ.out.drew, HM.out.drew, below_drawn HB.out, hsz⟩
  refine wp_region_noPanic ?_
  refine wp_region_waits (S := (fun U => Bx U w.heap.size 27 #[.slice A nx.length cap, .slice A' wt.length cap'] ∧ Bx U (w.heap.size + 1) 40 (cellsMg m) ∧ Below w.heap.size w U ∧ w.heap.size + 3 ≤ U.heap.size)) [6] (by kernel_rfl) HS (fun hHeld => ?_)
  clear HS
  replace HZ := Lib.hid HZ.out.drew
  refine wpAnyW_take (i := 0) (v := _) (by simp only [List.getElem?_toArray, List.getElem?_cons_zero]; rfl) (by kernel_rfl) (by kernel_rfl) (by kernel_rfl) (by kernel_rfl) (by kernel_rfl) (fun _ _ _ h => h) (yB (ty := 27) (by rfl) rfl rfl (fun V h => h.1) Try.underlying27 rfl infoQ) (by assumption) ?_
  try simp only [Act.put, List.setIfInBounds_toArray, List.set_cons_zero, List.set_cons_succ]
  refine wpAnyW_take (i := 2) (v := _) (by simp only [List.getElem?_toArray, List.getElem?_cons_succ, List.getElem?_cons_zero]; rfl) (by kernel_rfl) (by kernel_rfl) (by kernel_rfl) (by kernel_rfl) (by kernel_rfl) (fun _ _ _ h => h) (yB (ty := 40) (by rfl) rfl rfl (fun V h => h.2.1) Try.underlying40 rfl infoM) (by assumption) ?_
  try simp only [Act.put, List.setIfInBounds_toArray, List.set_cons_zero, List.set_cons_succ]
  refine wpAnyW_two (i := 1) (i2 := 3) (by kernel_rfl) (by simp only [List.getElem?_toArray, List.getElem?_cons_succ, List.getElem?_cons_zero]; rfl) (by simp only [List.getElem?_toArray, List.getElem?_cons_succ, List.getElem?_cons_zero]; rfl) (fun K hK => ?_) (fun K hK => ?_)
  · rw [if_pos (by rfl)]
    go_simp
    refine (HCP.out _ _ _ (HN.out.below hHeld.2.2.1) (HW.out.below hHeld.2.2.1)).mono ?_
    rintro _ w7 ⟨B1, k1, B2, k2, rfl, hown, hb⟩
    have HS : (fun U => Bx U w.heap.size 27 #[.slice A nx.length cap, .slice A' wt.length cap'] ∧ Bx U (w.heap.size + 1) 40 (cellsMg m) ∧ Below w.heap.size w U ∧ w.heap.size + 3 ≤ U.heap.size) _ := ⟨hHeld.1.later hb, hHeld.2.1.later hb, hHeld.2.2.1.trans (hb.mono hHeld.2.2.1.size), Nat.le_trans hHeld.2.2.2 hb.size⟩
    replace HZ := Lib.hid (HZ.out.later hb)
    have HO := Lib.hid (show OwnQ w7 (w.heap.size + 3) B1 B2 k1 k2 nx wt from ⟨own_base hown.nums hHeld.2.2.2, own_base hown.wait hHeld.2.2.2, hown.ne⟩)
    clear hHeld hown hb
    go_wp2_with fail
    refine hK.out _ _ HS (fun hHeld => ?_)
    clear hK K HS
    try simp only [Act.put, List.setIfInBounds_toArray, List.set_cons_zero, List.set_cons_succ]
    refine wpAnyW_two (i := 3) (i2 := 4) (by kernel_rfl) (by simp only [List.getElem?_toArray, List.getElem?_cons_succ, List.getElem?_cons_zero]; rfl) (by simp only [List.getElem?_toArray, List.getElem?_cons_succ, List.getElem?_cons_zero]; rfl) (fun K hK => ?_) (fun K hK => ?_)
    · rw [if_pos (by rfl)]
      obtain ⟨v8, hv8, HX, HB8, hs8⟩ := one_open w7 40 #[.int .u32 (m1.toNat : Int), .bool true, .int .u16 (m3.toNat : Int), .int .u16 (m4.toNat : Int), .int .u32 (m5.toNat : Int), .string m6]
      obtain ⟨ga, hga0⟩ : ∃ g, w7.heap.size = g := ⟨_, rfl⟩
      rw [hga0] at HX hs8
      rw [← HCM.out] at HX
      have hcm6 := HCM.out
      have hga : w.heap.size + 3 ≤ ga := by have := hHeld.2.2.2; omega
      have HS : (fun U => Bx U w.heap.size 27 #[.slice A nx.length cap, .slice A' wt.length cap'] ∧ Bx U (w.heap.size + 1) 40 (cellsMg m) ∧ Below w.heap.size w U ∧ w.heap.size + 3 ≤ U.heap.size) _ := ⟨hHeld.1.later HB8.out, hHeld.2.1.later HB8.out, hHeld.2.2.1.trans (HB8.out.mono hHeld.2.2.1.size), Nat.le_trans hHeld.2.2.2 HB8.out.size⟩
      replace HO := Lib.hid (HO.out.later HB8.out)
      replace HZ := Lib.hid (HZ.out.later HB8.out)
      clear hHeld HB8 hs8
      go_simp
      clear hcm6 hv8
      refine hK.out _ _ HS (fun hHeld => ?_)
      clear hK K HS
      try simp only [Act.put, List.setIfInBounds_toArray, List.set_cons_zero, List.set_cons_succ]
      refine wpAnyW_held (i := 4) (by kernel_rfl) (by simp only [List.getElem?_toArray, List.getElem?_cons_succ, List.getElem?_cons_zero]; rfl) (fun K hK => ?_)
      rw [if_pos (by rfl)]
      refine wpB (ty := 27) #[.slice B1 nx.length k1, .slice B2 wt.length k2] rfl rfl rfl HZ.out infoQ rfl (cellsQ_one _ _ _ _ _ _) ?_
      intro y9 ht hg
      have HS : (fun U => Bx U w.heap.size 27 #[.slice A nx.length cap, .slice A' wt.length cap'] ∧ Bx U (w.heap.size + 1) 40 (cellsMg m) ∧ Below w.heap.size w U ∧ w.heap.size + 3 ≤ U.heap.size) _ := ⟨hHeld.1.kept hg (by omega), hHeld.2.1.kept hg (by omega), below_of_grown1 hHeld.2.2.1 hg hHeld.2.2.1.size (by omega), Nat.le_trans hHeld.2.2.2 hg.size⟩
      replace HO := Lib.hid (HO.out.kept hg (by omega))
      replace HX := Lib.hid (HX.out.kept hg (by omega))
      replace HZ := Lib.hid ht
      clear ht hg hHeld
      refine hK.out _ _ HS (fun hHeld => ?_)
      clear hK K HS
      try simp only [Act.put, List.setIfInBounds_toArray, List.set_cons_zero, List.set_cons_succ]
      have HB9 := Lib.hid hHeld.2.2.1
      refine wpAnyW_held (i := 5) (by kernel_rfl) (by simp only [List.getElem?_toArray, List.getElem?_cons_succ, List.getElem?_cons_zero]; rfl) (fun K hK => ?_)
      rw [if_pos (by rfl)]
      refine hK.out _ _ hHeld (fun hHeld => ?_)
      clear hK K
      try simp only [Act.put, List.setIfInBounds_toArray, List.set_cons_zero, List.set_cons_succ]
      refine wpAnyW_freed (i := 6) (by kernel_rfl) (by kernel_rfl) (by simp only [List.getElem?_toArray, List.getElem?_cons_succ, List.getElem?_cons_zero]; rfl) (fun K hK => ?_)
      rw [if_pos (by rfl)]
      refine hK.out _ _ ?_
      clear hK K hHeld
      try simp only [Act.put, List.setIfInBounds_toArray, List.set_cons_zero, List.set_cons_succ]
      refine wpAnyW_done (by kernel_rfl) ?_ _
      refine NoPanic.normal ?_
      go_wp2_with fail
      exact bodyPost_ret (retQ3 rfl rfl rfl rfl rfl HZ.out) rfl ⟨B1, k1, B2, k2, some ⟨ga, 0, none⟩, 1, rfl, row_of_own HO.out.nums, rowM_of_own HO.out.wait, rowM_of_ownG (l := [m]) (OwnG.box HX.out hga rfl), Out.fresh (fresh_own HO.out.nums) (fun k hk => by omega), Out.fresh (fresh_own HO.out.wait) (fun k hk => by omega), Out.fresh (fresh_some (show w.heap.size ≤ ga by omega)) (fun k hk => hk), HB9.out⟩
    · rw [if_pos (by rfl)]
      refine wpB (ty := 27) #[.slice B1 nx.length k1, .slice B2 wt.length k2] rfl rfl rfl HZ.out infoQ rfl (cellsQ_one _ _ _ _ _ _) ?_
      intro y9 ht hg
      have HS : (fun U => Bx U w.heap.size 27 #[.slice A nx.length cap, .slice A' wt.length cap'] ∧ Bx U (w.heap.size + 1) 40 (cellsMg m) ∧ Below w.heap.size w U ∧ w.heap.size + 3 ≤ U.heap.size) _ := ⟨hHeld.1.kept hg (by omega), hHeld.2.1.kept hg (by omega), below_of_grown1 hHeld.2.2.1 hg hHeld.2.2.1.size (by omega), Nat.le_trans hHeld.2.2.2 hg.size⟩
      replace HO := Lib.hid (HO.out.kept hg (by omega))
      replace HZ := Lib.hid ht
      clear ht hg hHeld
      refine hK.out _ _ HS (fun hHeld => ?_)
      clear hK K HS
      try simp only [Act.put, List.setIfInBounds_toArray, List.set_cons_zero, List.set_cons_succ]
      refine wpAnyW_held (i := 3) (by kernel_rfl) (by simp only [List.getElem?_toArray, List.getElem?_cons_succ, List.getElem?_cons_zero]; rfl) (fun K hK => ?_)
      rw [if_pos (by rfl)]
      obtain ⟨v8, hv8, HX, HB8, hs8⟩ := one_open y9 40 #[.int .u32 (m1.toNat : Int), .bool true, .int .u16 (m3.toNat : Int), .int .u16 (m4.toNat : Int), .int .u32 (m5.toNat : Int), .string m6]
      obtain ⟨ga, hga0⟩ : ∃ g, y9.heap.size = g := ⟨_, rfl⟩
      rw [hga0] at HX hs8
      rw [← HCM.out] at HX
      have hcm6 := HCM.out
      have hga : w.heap.size + 3 ≤ ga := by have := hHeld.2.2.2; omega
      have HS : (fun U => Bx U w.heap.size 27 #[.slice A nx.length cap, .slice A' wt.length cap'] ∧ Bx U (w.heap.size + 1) 40 (cellsMg m) ∧ Below w.heap.size w U ∧ w.heap.size + 3 ≤ U.heap.size) _ := ⟨hHeld.1.later HB8.out, hHeld.2.1.later HB8.out, hHeld.2.2.1.trans (HB8.out.mono hHeld.2.2.1.size), Nat.le_trans hHeld.2.2.2 HB8.out.size⟩
      replace HO := Lib.hid (HO.out.later HB8.out)
      replace HZ := Lib.hid (HZ.out.later HB8.out)
      clear hHeld HB8 hs8
      go_simp
      clear hcm6 hv8
      refine hK.out _ _ HS (fun hHeld => ?_)
      clear hK K HS
      try simp only [Act.put, List.setIfInBounds_toArray, List.set_cons_zero, List.set_cons_succ]
      have HB9 := Lib.hid hHeld.2.2.1
      refine wpAnyW_held (i := 5) (by kernel_rfl) (by simp only [List.getElem?_toArray, List.getElem?_cons_succ, List.getElem?_cons_zero]; rfl) (fun K hK => ?_)
      rw [if_pos (by rfl)]
      refine hK.out _ _ hHeld (fun hHeld => ?_)
      clear hK K
      try simp only [Act.put, List.setIfInBounds_toArray, List.set_cons_zero, List.set_cons_succ]
      refine wpAnyW_freed (i := 6) (by kernel_rfl) (by kernel_rfl) (by simp only [List.getElem?_toArray, List.getElem?_cons_succ, List.getElem?_cons_zero]; rfl) (fun K hK => ?_)
      rw [if_pos (by rfl)]
      refine hK.out _ _ ?_
      clear hK K hHeld
      try simp only [Act.put, List.setIfInBounds_toArray, List.set_cons_zero, List.set_cons_succ]
      refine wpAnyW_done (by kernel_rfl) ?_ _
      refine NoPanic.normal ?_
      go_wp2_with fail
      exact bodyPost_ret (retQ3 rfl rfl rfl rfl rfl HZ.out) rfl ⟨B1, k1, B2, k2, some ⟨ga, 0, none⟩, 1, rfl, row_of_own HO.out.nums, rowM_of_own HO.out.wait, rowM_of_ownG (l := [m]) (OwnG.box HX.out hga rfl), Out.fresh (fresh_own HO.out.nums) (fun k hk => by omega), Out.fresh (fresh_own HO.out.wait) (fun k hk => by omega), Out.fresh (fresh_some (show w.heap.size ≤ ga by omega)) (fun k hk => hk), HB9.out⟩
  · rw [if_pos (by rfl)]
    obtain ⟨v8, hv8, HX, HB8, hs8⟩ := one_open W.drew 40 #[.int .u32 (m1.toNat : Int), .bool true, .int .u16 (m3.toNat : Int), .int .u16 (m4.toNat : Int), .int .u32 (m5.toNat : Int), .string m6]
    obtain ⟨ga, hga0⟩ : ∃ g, W.drew.heap.size = g := ⟨_, rfl⟩
    rw [hga0] at HX hs8
    rw [← HCM.out] at HX
    have hcm6 := HCM.out
    have hga : w.heap.size + 3 ≤ ga := by have := hHeld.2.2.2; omega
    have HS : (fun U => Bx U w.heap.size 27 #[.slice A nx.length cap, .slice A' wt.length cap'] ∧ Bx U (w.heap.size + 1) 40 (cellsMg m) ∧ Below w.heap.size w U ∧ w.heap.size + 3 ≤ U.heap.size) _ := ⟨hHeld.1.later HB8.out, hHeld.2.1.later HB8.out, hHeld.2.2.1.trans (HB8.out.mono hHeld.2.2.1.size), Nat.le_trans hHeld.2.2.2 HB8.out.size⟩
    replace HZ := Lib.hid (HZ.out.later HB8.out)
    clear hHeld HB8 hs8
    go_simp
    clear hcm6 hv8
    refine hK.out _ _ HS (fun hHeld => ?_)
    clear hK K HS
    try simp only [Act.put, List.setIfInBounds_toArray, List.set_cons_zero, List.set_cons_succ]
    refine wpAnyW_held (i := 1) (by kernel_rfl) (by simp only [List.getElem?_toArray, List.getElem?_cons_succ, List.getElem?_cons_zero]; rfl) (fun K hK => ?_)
    rw [if_pos (by rfl)]
    go_simp
    refine (HCP.out _ _ _ (HN.out.below hHeld.2.2.1) (HW.out.below hHeld.2.2.1)).mono ?_
    rintro _ w7 ⟨B1, k1, B2, k2, rfl, hown, hb⟩
    have HS : (fun U => Bx U w.heap.size 27 #[.slice A nx.length cap, .slice A' wt.length cap'] ∧ Bx U (w.heap.size + 1) 40 (cellsMg m) ∧ Below w.heap.size w U ∧ w.heap.size + 3 ≤ U.heap.size) _ := ⟨hHeld.1.later hb, hHeld.2.1.later hb, hHeld.2.2.1.trans (hb.mono hHeld.2.2.1.size), Nat.le_trans hHeld.2.2.2 hb.size⟩
    replace HX := Lib.hid (HX.out.later hb)
    replace HZ := Lib.hid (HZ.out.later hb)
    have HO := Lib.hid (show OwnQ w7 (w.heap.size + 3) B1 B2 k1 k2 nx wt from ⟨own_base hown.nums hHeld.2.2.2, own_base hown.wait hHeld.2.2.2, hown.ne⟩)
    clear hHeld hown hb
    go_wp2_with fail
    refine hK.out _ _ HS (fun hHeld => ?_)
    clear hK K HS
    try simp only [Act.put, List.setIfInBounds_toArray, List.set_cons_zero, List.set_cons_succ]
    refine wpAnyW_held (i := 4) (by kernel_rfl) (by simp only [List.getElem?_toArray, List.getElem?_cons_succ, List.getElem?_cons_zero]; rfl) (fun K hK => ?_)
    rw [if_pos (by rfl)]
    refine wpB (ty := 27) #[.slice B1 nx.length k1, .slice B2 wt.length k2] rfl rfl rfl HZ.out infoQ rfl (cellsQ_one _ _ _ _ _ _) ?_
    intro y9 ht hg
    have HS : (fun U => Bx U w.heap.size 27 #[.slice A nx.length cap, .slice A' wt.length cap'] ∧ Bx U (w.heap.size + 1) 40 (cellsMg m) ∧ Below w.heap.size w U ∧ w.heap.size + 3 ≤ U.heap.size) _ := ⟨hHeld.1.kept hg (by omega), hHeld.2.1.kept hg (by omega), below_of_grown1 hHeld.2.2.1 hg hHeld.2.2.1.size (by omega), Nat.le_trans hHeld.2.2.2 hg.size⟩
    replace HO := Lib.hid (HO.out.kept hg (by omega))
    replace HX := Lib.hid (HX.out.kept hg (by omega))
    replace HZ := Lib.hid ht
    clear ht hg hHeld
    refine hK.out _ _ HS (fun hHeld => ?_)
    clear hK K HS
    try simp only [Act.put, List.setIfInBounds_toArray, List.set_cons_zero, List.set_cons_succ]
    have HB9 := Lib.hid hHeld.2.2.1
    refine wpAnyW_held (i := 5) (by kernel_rfl) (by simp only [List.getElem?_toArray, List.getElem?_cons_succ, List.getElem?_cons_zero]; rfl) (fun K hK => ?_)
    rw [if_pos (by rfl)]
    refine hK.out _ _ hHeld (fun hHeld => ?_)
    clear hK K
    try simp only [Act.put, List.setIfInBounds_toArray, List.set_cons_zero, List.set_cons_succ]
    refine wpAnyW_freed (i := 6) (by kernel_rfl) (by kernel_rfl) (by simp only [List.getElem?_toArray, List.getElem?_cons_succ, List.getElem?_cons_zero]; rfl) (fun K hK => ?_)
    rw [if_pos (by rfl)]
    refine hK.out _ _ ?_
    clear hK K hHeld
    try simp only [Act.put, List.setIfInBounds_toArray, List.set_cons_zero, List.set_cons_succ]
    refine wpAnyW_done (by kernel_rfl) ?_ _
    refine NoPanic.normal ?_
    go_wp2_with fail
    exact bodyPost_ret (retQ3 rfl rfl rfl rfl rfl HZ.out) rfl ⟨B1, k1, B2, k2, some ⟨ga, 0, none⟩, 1, rfl, row_of_own HO.out.nums, rowM_of_own HO.out.wait, rowM_of_ownG (l := [m]) (OwnG.box HX.out hga rfl), Out.fresh (fresh_own HO.out.nums) (fun k hk => by omega), Out.fresh (fresh_own HO.out.wait) (fun k hk => by omega), Out.fresh (fresh_some (show w.heap.size ≤ ga by omega)) (fun k hk => hk), HB9.out⟩
end Go.Proofs.Ytondgdacjbfihaa
