/-
  Package path: New: contract.
-/
import Derived.Test.YtpihgnpbaaagpaaPaL
import Derived.Test.YtpihgnpbaaagpaaPaF
namespace Go.Proofs.Ytpihgnpbaaagpaa
open Go.RowKit
set_option linter.unusedVariables false
set_option linter.unusedSimpArgs false
set_option maxRecDepth 100000

theorem own_one {w : World} {B size n : Nat} {e : TypeId} {v : Value} {xs : List Value} (h : w.ownsRow B e size v n xs) : v.oneCell' = true := by
  obtain ⟨A, cap, rfl, _⟩ := own_slice h
  rfl
def newE (l : List ByteArray) : Int := if (decide (0 < l.length) && !badB l) = true then (if 4 < l.length then 4 else if dupB l = true then 9 else 0) else 1
def newL (l : List ByteArray) (peer : Int) : List Pa := (l.map (freshPa peer)).set 0 { freshPa peer (l.headD ⟨#[]⟩) with st := 2 }
def newPs (l : List ByteArray) (peer : Int) : Ps := if newE l = 0 then ⟨newL l peer, 0, 0⟩ else zeroPs
theorem newE_none {l : List ByteArray} (h : (decide (0 < l.length) && !badB l) = false) : newE l = 1 := by simp [newE, h]
theorem newE_long {l : List ByteArray} (h : (decide (0 < l.length) && !badB l) = true) (h4 : 4 < l.length) : newE l = 4 := by unfold newE; rw [if_pos h, if_pos h4]
theorem newE_dup {l : List ByteArray} (h : (decide (0 < l.length) && !badB l) = true) (h4 : ¬ 4 < l.length) (hd : dupB l = true) : newE l = 9 := by unfold newE; rw [if_pos h, if_neg h4, if_pos hd]
theorem newE_ok {l : List ByteArray} (h : (decide (0 < l.length) && !badB l) = true) (h4 : ¬ 4 < l.length) (hd : dupB l = false) : newE l = 0 := by unfold newE; rw [if_pos h, if_neg h4, hd]; rfl
theorem addr_size {l : List ByteArray} (h : badB l = false) (k : Nat) (hk : k < l.length) : l[k].size ≤ 281474976710656 := by
  unfold badB at h
  rw [List.any_eq_false] at h
  have := h l[k] (List.getElem_mem hk)
  simp [addrB] at this
  omega
/-- The result lies zero; the paths so far are what the call owns. -/
structure NwS (w : World) (l : List Pa) (k : Nat) (sl : Value) (W : World) : Prop where
  res : Bx W w.heap.size 27 #[.slice none 0 0, .int .i64 0, .int .i64 0]
  box : Bx W (w.heap.size + 1) 27 #[sl, .int .i64 0, .int .i64 0]
  row : W.ownsRow (w.heap.size + 2) 47 14 sl k (flatP l)
  below : Below w.heap.size w W
  size : w.heap.size + 2 ≤ W.heap.size
theorem NwS.later {w W W' : World} {l : List Pa} {k : Nat} {sl : Value} (h : NwS w l k sl W) (hb : Below W.heap.size W W') : NwS w l k sl W' :=
  ⟨h.res.later hb, h.box.later hb, ownP_below h.row hb, h.below.trans (hb.mono h.below.size), Nat.le_trans h.size hb.size⟩
theorem NwS.drew {w W : World} {l : List Pa} {k : Nat} {sl : Value} (h : NwS w l k sl W) : NwS w l k sl W.drew := ⟨h.res, h.box, h.row, below_drawn h.below, h.size⟩
theorem NwS.put {w W W' W'' : World} {l : List Pa} {k : Nat} {sl sl' : Value} {x : Pa} (h : NwS w l k sl W) (hr : W'.ownsRow (w.heap.size + 2) 47 14 sl' (k + 1) (flatP l ++ (cellsPa x).toList)) (hg : W.grownBy W' sl.ownBlock)
    (hb : Bx W'' (w.heap.size + 1) 27 #[sl', .int .i64 0, .int .i64 0]) (hg2 : W'.grownBy W'' (some (w.heap.size + 1))) : NwS w (l ++ [x]) (k + 1) sl' W'' := by
  have hs := h.size
  have hne : ∀ j, j < w.heap.size + 2 → sl.ownBlock ≠ some j := fun j hj e => by have := (h.row.lt j e).1; omega
  have hres : Bx W' w.heap.size 27 #[.slice none 0 0, .int .i64 0, .int .i64 0] := (hg.block _ h.res.lt (fun e => hne _ (by omega) e.symm)).trans h.res
  have hbel : Below w.heap.size w W' := h.below.grown hg h.below.size fun j hj => by have := (h.row.lt j hj).1; omega
  refine ⟨hres.kept hg2 (by omega), hb, ?_, below_of_grown1 hbel hg2 hbel.size (by omega), Nat.le_trans (Nat.le_trans hs hg.size) hg2.size⟩
  have e : flatP (l ++ [x]) = flatP l ++ (cellsPa x).toList := by rw [flatP_append]; simp [flatP]
  rw [e]
  exact ownP_keep hr hg2 (by omega)
set_option maxHeartbeats 2000000 in
theorem new_row (l : List ByteArray) (hl : l.length ≤ 4) (h0 : 0 < l.length) (hbad : badB l = false) (peer : Int) (v : Value) (w : World) (hv : RowE encS w v l)
    (HAR : Hid (∀ W, RowE encS W v l → Calls Try.prog 29 #[v] W fun e W' => e = .returned (.bool true) ∧ W' = W)) (HTW : Hid (∀ W, RowE encS W v l → Calls Try.prog 30 #[v] W fun e W' => e = .returned (.bool false) ∧ W' = W)) :
    Calls Try.prog 10 #[v, .int .i64 peer] w fun e w' => ∃ v', e = .returned (.tuple #[.agg #[v', .int .i64 0, .int .i64 0], .int .i64 0]) ∧ RowP w' v' (newL l peer) ∧ Below w.heap.size w w' ∧ Fresh w.heap.size v' := by
  obtain ⟨A, cap, rfl, hcap, hmax, hcells⟩ := id hv
  obtain ⟨b, off, rfl, hb, hc⟩ := hcells h0
  obtain ⟨W1, hW1, HZ, HB0, hs1⟩ := one_open w 27 #[.slice none 0 0, .int .i64 0, .int .i64 0]
  have HV := Lib.hid (hv.below HB0.out)
  obtain ⟨W2, hW2, HN, HB2, hs2⟩ := one_open W1 27 #[.slice none 0 0, .int .i64 0, .int .i64 0]
  have HST : Hid (NwS w ((l.map (freshPa peer)).take 0) 0 (.slice none 0 0) W2) := Lib.hid ⟨HZ.out.later HB2.out, by rw [← hs1]; exact HN.out, ⟨by simp [flatP], .inl ⟨rfl, rfl⟩⟩, HB0.out.trans (HB2.out.mono (by omega)), by omega⟩
  have hl' : (l.length : Int) ≤ 4 := by omega
  have hl4 : ¬ (4 : Int) < (l.length : Int) := by omega
  have HC := Lib.hid hc
  have HSZ := Lib.hid (fun k (hk : k < l.length) => addr_size hbad k hk)
  clear hv hcells hc hbad HZ HN HB2
  go_enter Try.func10, Try.ntmps10
  go_wp2_with (first
    | (go_at_call 29; (with_reducible refine (HAR.out _ HV.out).mono ?_); rintro e w1 ⟨rfl, rfl⟩)
    | (go_at_call 30; (with_reducible refine (HTW.out _ HV.out).mono ?_); rintro e w1 ⟨rfl, rfl⟩))
  clear HB0 hs1 hs2 hW1 hW2 HV HAR HTW
  go_loopw [25] (fun i wr => ∃ k : Nat, k ≤ l.length ∧ i = .int .i64 k ∧ Hid (∃ sl, NwS w ((l.map (freshPa peer)).take k) k sl wr))
    (fun i _ => l.length - (intOf i).toNat)
  case atStart => exact ⟨0, Nat.zero_le _, rfl, Lib.hid ⟨_, HST.out⟩⟩
  case round =>
    clear HST
    obtain ⟨k, hk, rfl, HR⟩ := hrel
    obtain ⟨sl, hns⟩ := HR.out
    have HNS := Lib.hid hns
    have hsz := hns.size
    have hsl := own_form2 hns.row
    clear hns HR
    by_cases hlt : k < l.length
    · have hlm : k < (l.map (freshPa peer)).length := by simpa using hlt
      have HTK : Hid ((l.map (freshPa peer)).take (k + 1) = (l.map (freshPa peer)).take k ++ [freshPa peer l[k]]) := Lib.hid (by rw [List.take_succ_eq_append_getElem hlm, List.getElem_map])
      have hc0 : wr.cell? ⟨b, off + k, none⟩ = some (.string l[k]) := (HNS.out.below.cell (p := ⟨b, off + k, none⟩) hb).trans (by rw [HC.out k hlt, getElem!_pos l k hlt]; rfl)
      have hsz0 := HSZ.out k hlt
      generalize l[k] = t at *
      have HF : Hid (∀ W : World, Calls Try.prog 31 #[.string t, .int .i64 peer] W fun e W' => e = .returned (.agg #[.string t, .int .i64 1, .int .i64 0, .int .i64 0, .int .i64 0, .int .i64 1000, .int .i64 0, .bool false, .int .i64 4500, .int .i64 (Wi.keptI peer), .int .i64 0, .int .u32 0, .int .i64 0, .int .i64 0]) ∧ Below W.heap.size W W') := Lib.hid (fun W => fresh_any t hsz0 peer W)
      have HCP : Hid (cellsPa (freshPa peer t) = #[.string t, .int .i64 1, .int .i64 0, .int .i64 0, .int .i64 0, .int .i64 1000, .int .i64 0, .bool false, .int .i64 4500, .int .i64 (Wi.keptI peer), .int .i64 0, .int .u32 0, .int .i64 0, .int .i64 0]) := Lib.hid rfl
      generalize freshPa peer t = x9 at *
      generalize Wi.keptI peer = kp at *
      have q4 : (0 : Int) ≤ (k : Int) := by omega
      have q5 : (k : Int) < (l.length : Int) := by omega
      obtain ⟨i0, hi0, hz0, hz1, hz2⟩ := info_parts infoPaZ
      have HI := Lib.hid hi0
      have HZ0 := Lib.hid hz0
      have HZ1 := Lib.hid hz1
      have HZ2 := Lib.hid hz2
      clear hi0 hz0 hz1 hz2 hsz0
      go_wp2_with fail
      refine wp_region_noPanic ?_
      refine wp_region_waits (S := fun V => Bx V (w.heap.size + 1) 27 #[sl, .int .i64 0, .int .i64 0]) [8] (by kernel_rfl) HNS.out.drew.box (fun hHeld => ?_)
      clear hc0
      refine wpAnyW_take (i := 0) (v := ?_) (by simp only [List.getElem?_toArray, List.getElem?_cons_zero]; rfl) (by kernel_rfl) (by kernel_rfl) (by kernel_rfl) (by kernel_rfl) (by kernel_rfl) (fun _ _ _ h => h) (Or.inl ⟨by rfl, ?_⟩) (by assumption) ?_
      rotate_left 1
      · (intro w' hSw; go_simp; try with_reducible rfl)
      try simp only [Act.put, List.setIfInBounds_toArray, List.set_cons_zero, List.set_cons_succ]
      refine wpAnyW_take (i := 1) (v := ?_) (by simp only [List.getElem?_toArray, List.getElem?_cons_succ, List.getElem?_cons_zero]; rfl) (by kernel_rfl) (by kernel_rfl) (by kernel_rfl) (by kernel_rfl) (by kernel_rfl) (fun _ _ _ h => h) (Or.inl ⟨by rfl, ?_⟩) (by assumption) ?_
      rotate_left 1
      · (intro w' hSw; have hq : w'.cell? ⟨w.heap.size + 1, 0, none⟩ = some sl := hSw.cell 0 _ rfl; go_simp; try with_reducible rfl)
      try simp only [Act.put, List.setIfInBounds_toArray, List.set_cons_zero, List.set_cons_succ]
      refine wpAnyW_take (i := 2) (v := ?_) (by simp only [List.getElem?_toArray, List.getElem?_cons_succ, List.getElem?_cons_zero]; rfl) (by kernel_rfl) (by kernel_rfl) (by kernel_rfl) (by kernel_rfl) (by kernel_rfl) (fun _ _ _ h => h) (Or.inl ⟨by rfl, ?_⟩) (by assumption) ?_
      rotate_left 1
      · (intro w' hSw; go_simp; try with_reducible rfl)
      try simp only [Act.put, List.setIfInBounds_toArray, List.set_cons_zero, List.set_cons_succ]
      refine wpAnyW_take (i := 3) (v := ?_) (by simp only [List.getElem?_toArray, List.getElem?_cons_succ, List.getElem?_cons_zero]; rfl) (by kernel_rfl) (by kernel_rfl) (by kernel_rfl) (by kernel_rfl) (by kernel_rfl) (fun _ _ _ h => h) (Or.inl ⟨by rfl, ?_⟩) (by assumption) ?_
      rotate_left 1
      · (intro w' hSw; go_simp; try with_reducible rfl)
      try simp only [Act.put, List.setIfInBounds_toArray, List.set_cons_zero, List.set_cons_succ]
      refine wpAnyW_held (i := 4) (by kernel_rfl) (by simp only [List.getElem?_toArray, List.getElem?_cons_succ, List.getElem?_cons_zero]; rfl) (fun K hK => ?_)
      rw [if_pos (by rfl)]
      go_simp
      refine (HF.out _).mono ?_
      rintro _ w1 ⟨rfl, hb1⟩
      replace HNS := Lib.hid (HNS.out.drew.later hb1)
      clear hb1 hHeld
      go_wp2_with fail
      refine hK.out _ _ HNS.out.box (fun hHeld => ?_)
      clear hK K
      try simp only [Act.put, List.setIfInBounds_toArray, List.set_cons_zero, List.set_cons_succ]
      refine wpAnyW_held (i := 5) (by kernel_rfl) (by simp only [List.getElem?_toArray, List.getElem?_cons_succ, List.getElem?_cons_zero]; rfl) (fun K hK => ?_)
      rw [if_pos (by rfl)]
      go_simp
      refine hK.out _ _ (HNS.out.box.old _) (fun hHeld => ?_)
      clear hK K
      try simp only [Act.put, List.setIfInBounds_toArray, List.set_cons_zero, List.set_cons_succ]
      refine wpAnyW_held (i := 6) (by kernel_rfl) (by simp only [List.getElem?_toArray, List.getElem?_cons_succ, List.getElem?_cons_zero]; rfl) (fun K hK => ?_)
      rw [if_pos (by rfl)]
      refine wp_append_own _ (.tmp 30) (.tmp 34) 25 rfl (w.heap.size + 2) 47 i0 _ 14 120 Try.underlying25 HI.out HZ0.out HZ1.out HZ2.out rfl (by decide) sl k _ rfl (ownP_below HNS.out.row ((Below.refl _ _).alloc (Nat.le_refl _) _)) ⟨w1.heap.size, 0, none⟩ 1 1 (cellsPa x9).toList rfl (by rw [lenPa]) (fun j u hu => by
        have hbx := Bx.fresh w1 47 #[.string t, .int .i64 1, .int .i64 0, .int .i64 0, .int .i64 0, .int .i64 1000, .int .i64 0, .bool false, .int .i64 4500, .int .i64 kp, .int .i64 0, .int .u32 0, .int .i64 0, .int .i64 0]
        rw [addr_plain, Nat.zero_add, hbx.at, ← hu, HCP.out]
        simp) (fun u hu => cells_one hu) (by unfold maxLen; omega) (by omega) (by rw [World.size_alloc]; have := HNS.out.size; omega) ?_
      intro sl2 w2 hown hgr _
      have HW2 := Lib.hid hown
      have HPT := Lib.hid (fun (W : World) h1 h2 => (HNS.out.later ((Below.refl w1.heap.size w1).alloc (Nat.le_refl _) (.cells #[.string t, .int .i64 1, .int .i64 0, .int .i64 0, .int .i64 0, .int .i64 1000, .int .i64 0, .bool false, .int .i64 4500, .int .i64 kp, .int .i64 0, .int .u32 0, .int .i64 0, .int .i64 0] 47))).put (x := x9) (W'' := W) hown hgr h1 h2)
      have HBX : Hid (Bx w2 (w.heap.size + 1) 27 #[sl, .int .i64 0, .int .i64 0]) := Lib.hid ((hgr.block _ ((HNS.out.box.old _).lt) (fun e => by
        have h9 := (ownP_below HNS.out.row ((Below.refl w1.heap.size w1).alloc (Nat.le_refl _) (.cells #[.string t, .int .i64 1, .int .i64 0, .int .i64 0, .int .i64 0, .int .i64 1000, .int .i64 0, .bool false, .int .i64 4500, .int .i64 kp, .int .i64 0, .int .u32 0, .int .i64 0, .int .i64 0] 47))).lt _ e.symm
        omega)).trans (HNS.out.box.old _))
      clear hown hgr HNS hHeld
      refine hK.out _ _ HBX.out (fun hHeld => ?_)
      clear hK K
      try simp only [Act.put, List.setIfInBounds_toArray, List.set_cons_zero, List.set_cons_succ]
      refine wpAnyW_held (i := 7) (by kernel_rfl) (by simp only [List.getElem?_toArray, List.getElem?_cons_succ, List.getElem?_cons_zero]; rfl) (fun K hK => ?_)
      rw [if_pos (by rfl)]
      go_simp
      refine hK.out _ _ hHeld (fun hHeld => ?_)
      clear hK K
      try simp only [Act.put, List.setIfInBounds_toArray, List.set_cons_zero, List.set_cons_succ]
      refine wpAnyW_freed (i := 8) (by kernel_rfl) (by kernel_rfl) (by simp only [List.getElem?_toArray, List.getElem?_cons_succ, List.getElem?_cons_zero]; rfl) (fun K hK => ?_)
      rw [if_pos (by rfl)]
      refine wpF sl2 rfl rfl rfl HBX.out (by show 0 < 3; decide) infoSl (own_one HW2.out) ?_
      intro w3 ht hg he
      clear he
      have HNX := Lib.hid (HPT.out _ ht hg)
      clear ht hg HPT HBX hHeld
      refine hK.out _ _ ?_
      clear hK K
      try simp only [Act.put, List.setIfInBounds_toArray, List.set_cons_zero, List.set_cons_succ]
      refine wpAnyW_done (by kernel_rfl) ?_ _
      refine NoPanic.normal ?_
      go_wp2_with fail
      go_roundw
      case rel => exact ⟨k + 1, by omega, by go_num, Lib.hid ⟨sl2, by rw [HTK.out]; exact HNX.out⟩⟩
      case measure => simp [intOf]; omega
    · obtain rfl : k = l.length := by omega
      have hlm : (l.map (freshPa peer)).length = l.length := by simp
      have hrow : wr.ownsRow (w.heap.size + 2) 47 14 sl l.length (flatP (l.map (freshPa peer))) := by have h := HNS.out.row; rw [List.take_of_length_le (by omega)] at h; exact h
      obtain ⟨g, cap1, cur, rfl, hgB, hbx, hnc, hcm, hcur⟩ := own_bx hrow h0
      have hk0 : 0 < (l.map (freshPa peer)).length := by omega
      have hx0 : (l.map (freshPa peer))[0] = freshPa peer (l.headD ⟨#[]⟩) := by
        rw [List.getElem_map]
        congr 1
        cases l with
        | nil => simp at h0
        | cons a r => rfl
      have HP := Lib.hid (pinRow hbx hlm hk0 hcur)
      rw [hx0] at HP
      have HNL : Hid (newL l peer = (l.map (freshPa peer)).set 0 { freshPa peer (l.headD ⟨#[]⟩) with st := 2 }) := Lib.hid rfl
      have HCUR := Lib.hid hcur
      generalize hfx : freshPa peer (l.headD ⟨#[]⟩) = x9 at *
      have c0 := HNS.out.box.cell 0 (.slice (some ⟨g, 0, none⟩) l.length cap1) rfl
      have c1 := HNS.out.box.cell 1 (.int .i64 0) rfl
      have HRS := Lib.hid HNS.out.res
      have HBX := Lib.hid HNS.out.box
      have HB := Lib.hid HNS.out.below
      have h0' : (0 : Int) < (l.length : Int) := by omega
      have hcap1 : l.length ≤ cap1 := hnc
      clear HNS hrow hbx hcur hx0 hfx hsl
      go_wp2_with (first
    | ((with_reducible refine gate9 ?_); refine stPf (xs' := cellsPa ({ x9 with st := 2 } : Pa)) (o := 0 * 14) 1 (.int .i64 2) rfl rfl rfl rfl HP.out (by show 1 < 14; decide) infoI rfl rfl ?_; intro w4 ht hg; clear c0 c1; replace HRS := Lib.hid (HRS.out.kept hg (by omega)); replace HBX := Lib.hid (HBX.out.kept hg (by omega)); replace HB := Lib.hid (below_of_grown1 HB.out hg HB.out.size (by omega)); replace HP := Lib.hid ht; clear ht hg)
    | ((with_reducible refine gate9 ?_); refine ldB rfl rfl rfl HBX.out Try.underlying27 rfl infoPs ?_)
    | ((with_reducible refine gate9 ?_); refine stB #[.slice (some ⟨g, 0, none⟩) l.length cap1, .int .i64 0, .int .i64 0] rfl rfl rfl rfl HRS.out infoPs rfl (cells3_one _ _ _ _ _) ?_; intro w9 ht9 hg9; replace HB := Lib.hid (below_of_grown1 HB.out hg9 HB.out.size (Nat.le_refl _)); have HRW := Lib.hid ((HP.out.kept hg9 (by omega)).row hlm hnc hcm HCUR.out h0); replace HRS := Lib.hid ht9; clear ht9 hg9))
      exact bodyPost_ret (retPs1 rfl rfl rfl rfl HRS.out) rfl ⟨_, rfl, by rw [HNL.out]; exact HRW.out, HB.out, fresh_some (by omega)⟩
end Go.Proofs.Ytpihgnpbaaagpaa
