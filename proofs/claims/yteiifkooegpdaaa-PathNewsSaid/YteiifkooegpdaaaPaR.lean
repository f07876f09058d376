/-
  The document's New, whatever comes: contract.
-/
import Derived.Test.YteiifkooegpdaaaPaQ
namespace Go.Proofs.Yteiifkooegpdaaa
open Go.RowKit
set_option linter.unusedVariables false
set_option linter.unusedSimpArgs false
set_option maxRecDepth 100000

theorem newL_length (l : List ByteArray) (peer : Int) : (newL l peer).length = l.length := by simp [newL]
def stN (k : Nat) : Int := if k = 0 then 2 else 1
def elN (peer : Int) (k : Nat) (s : ByteArray) : Pa := { freshPa peer s with st := stN k }
theorem newL_at (l : List ByteArray) (peer : Int) (k : Nat) (h : k < l.length) (h' : k < (newL l peer).length) : (newL l peer)[k] = elN peer k l[k] := by
  have e : (newL l peer)[k]? = some (elN peer k l[k]) := by
    unfold newL
    by_cases hk : k = 0
    · subst hk
      cases l with
      | nil => simp at h
      | cons a r => simp [elN, stN]
    · rw [List.getElem?_set_ne (by omega), List.getElem?_map, List.getElem?_eq_getElem h]
      unfold elN stN
      rw [if_neg hk]
      rfl
  rw [List.getElem?_eq_getElem h'] at e
  exact Option.some.inj e
theorem newL_take {l : List ByteArray} {peer : Int} {k : Nat} (h : k < l.length) : (newL l peer).take (k + 1) = (newL l peer).take k ++ [elN peer k l[k]] := by
  have h' : k < (newL l peer).length := by rw [newL_length]; exact h
  rw [List.take_succ_eq_append_getElem h', newL_at l peer k h h']
theorem take_ad {l : List ByteArray} {peer : Int} {k j : Nat} (hj : j < k) (hk : k ≤ l.length) : (((newL l peer).take k).getD j zeroPa).ad = l[j]'(by omega) := by
  have h1 : j < ((newL l peer).take k).length := by rw [List.length_take, newL_length]; omega
  rw [List.getD_eq_getElem?_getD, List.getElem?_eq_getElem h1, Option.getD_some, List.getElem_take, newL_at l peer j (by omega)]
  rfl
theorem take_len {l : List ByteArray} {peer : Int} {k : Nat} (hk : k ≤ l.length) : ((newL l peer).take k).length = k := by rw [List.length_take, newL_length]; omega
theorem find_not {l : List ByteArray} {peer : Int} {k : Nat} (hk : k ≤ l.length) {s : ByteArray} (h : s ∉ l.take k) : findI ((newL l peer).take k) s = -1 := by
  refine find_none fun j hj => ?_
  rw [take_len hk] at hj
  rw [take_ad hj hk]
  refine decide_eq_false fun e => h ?_
  rw [← e]
  exact List.mem_take_iff_getElem.2 ⟨j, by omega, rfl⟩
theorem find_in {l : List ByteArray} {peer : Int} {k : Nat} (hk : k ≤ l.length) {s : ByteArray} (h : s ∈ l.take k) : 0 ≤ findI ((newL l peer).take k) s := by
  unfold findI
  cases hf : firstAd ((newL l peer).take k) s with
  | some j => exact Int.natCast_nonneg j
  | none =>
    exfalso
    unfold firstAd at hf
    rw [List.find?_range_eq_none, take_len hk] at hf
    obtain ⟨j, hj, e⟩ := List.mem_take_iff_getElem.1 h
    have hjk : j < k := by omega
    have h1 := hf j hjk
    rw [take_ad hjk hk, decide_eq_true e] at h1
    cases h1
structure NrS (w : World) (l : List Pa) (k : Nat) (sl : Value) (W : World) : Prop where
  res : Bx W w.heap.size 33 #[.slice none 0 0, .int .i64 0, .int .i64 0]
  box : Bx W (w.heap.size + 1) 33 #[sl, .int .i64 0, .int .i64 0]
  row : W.ownsRow (w.heap.size + 2) 76 14 sl k (flatP l)
  below : Below w.heap.size w W
  size : w.heap.size + 2 ≤ W.heap.size
theorem NrS.later {w W W' : World} {l : List Pa} {k : Nat} {sl : Value} (h : NrS w l k sl W) (hb : Below W.heap.size W W') : NrS w l k sl W' :=
  ⟨h.res.later hb, h.box.later hb, ownP_below h.row hb, h.below.trans (hb.mono h.below.size), Nat.le_trans h.size hb.size⟩
theorem NrS.drew {w W : World} {l : List Pa} {k : Nat} {sl : Value} (h : NrS w l k sl W) : NrS w l k sl W.drew := ⟨h.res, h.box, h.row, below_drawn h.below, h.size⟩
theorem NrS.put {w W W' W'' : World} {l : List Pa} {k : Nat} {sl sl' : Value} {x : Pa} (h : NrS w l k sl W) (hr : W'.ownsRow (w.heap.size + 2) 76 14 sl' (k + 1) (flatP l ++ (cellsPa x).toList)) (hg : W.grownBy W' sl.ownBlock)
    (hb : Bx W'' (w.heap.size + 1) 33 #[sl', .int .i64 0, .int .i64 0]) (hg2 : W'.grownBy W'' (some (w.heap.size + 1))) : NrS w (l ++ [x]) (k + 1) sl' W'' := by
  have hs := h.size
  have hne : ∀ j, j < w.heap.size + 2 → sl.ownBlock ≠ some j := fun j hj e => by have := (h.row.lt j e).1; omega
  have hres : Bx W' w.heap.size 33 #[.slice none 0 0, .int .i64 0, .int .i64 0] := (hg.block _ h.res.lt (fun e => hne _ (by omega) e.symm)).trans h.res
  have hbel : Below w.heap.size w W' := h.below.grown hg h.below.size fun j hj => by have := (h.row.lt j hj).1; omega
  refine ⟨hres.kept hg2 (by omega), hb, ?_, below_of_grown1 hbel hg2 hbel.size (by omega), Nat.le_trans (Nat.le_trans hs hg.size) hg2.size⟩
  have e : flatP (l ++ [x]) = flatP l ++ (cellsPa x).toList := by rw [flatP_append]; simp [flatP]
  rw [e]
  exact ownP_keep hr hg2 (by omega)
def okTo (l : List ByteArray) (k : Nat) : Prop := badB (l.take k) = false
theorem size_cases (t : ByteArray) : (addrB t = true ∧ ((t.size : Int) = 4 ∨ (¬ (t.size : Int) = 4 ∧ (t.size : Int) = 16))) ∨ (addrB t = false ∧ ¬ (t.size : Int) = 4 ∧ ¬ (t.size : Int) = 16) := by
  unfold addrB
  by_cases h4 : t.size = 4
  · left; exact ⟨by simp [h4], .inl (by omega)⟩
  · by_cases h16 : t.size = 16
    · left; exact ⟨by simp [h16], .inr ⟨by omega, by omega⟩⟩
    · right; exact ⟨by simp [h4, h16], by omega, by omega⟩
set_option maxHeartbeats 8000000 in
theorem rnew_all (l : List ByteArray) (hl : l.length ≤ 100000) (hs : ∀ s ∈ l, s.size ≤ maxLen) (peer : Int) (v : Value) (w : World) (hv : RowE encS w v l) :
    Calls Try.prog 11 #[v, .int .i64 peer] w fun e w' => ∃ v', e = .returned (.tuple #[.agg #[v', .int .i64 0, .int .i64 0], .int .i64 (newE l)]) ∧ RowP w' v' (newPs l peer).l ∧ Below w.heap.size w w' := by
  obtain ⟨A, cap, rfl, hcap, hmax, hcells⟩ := id hv
  have HC := Lib.hid hcells
  have HS := Lib.hid hs
  have HZ := Lib.hid (BS.first w 33 #[.slice none 0 0, .int .i64 0, .int .i64 0])
  have hl' : (l.length : Int) ≤ 100000 := by omega
  have HE1 := Lib.hid (fun (h : (decide (0 < l.length) && !badB l) = false) => newE_none h)
  have HP1 := Lib.hid (fun (h : newE l ≠ 0) => show (newPs l peer).l = [] by simp [newPs, h, zeroPs])
  clear hv hcells hs
  by_cases h0 : l.length = 0
  · have e1 : newE l = 1 := HE1.out (by simp [h0])
    have e2 := HP1.out (by rw [e1]; decide)
    rw [e1, e2]
    have h0' : (l.length : Int) = 0 := by omega
    go_enter Try.func11, Try.ntmps11
    go_wp2_with ((with_reducible refine gate9 ?_); refine stB (ty := 33) #[.slice none 0 0, .int .i64 0, .int .i64 0] rfl rfl rfl rfl HZ.out.own infoRPs rfl (cells3_one _ _ _ _ _) ?_; intro w2 ht hg; replace HZ := Lib.hid (HZ.out.set ht hg); clear ht hg)
    exact bodyPost_ret (retRPs1 rfl rfl rfl rfl HZ.out.own) rfl ⟨_, rfl, RowP.nil _, HZ.out.below⟩
  · have h00 : (0 : Nat) < l.length := by omega
    have h0' : ¬ (l.length : Int) = 0 := by omega
    obtain ⟨b, off, rfl, hb, hc⟩ := HC.out h00
    replace HC := Lib.hid hc
    have HBI := Lib.hid (fun k (h : k < l.length) hp => bad_in l k h hp)
    have HBN := Lib.hid (fun k (h : k < l.length) q hp => bad_not l k h q hp)
    have HLT := Lib.hid (show badB (l.take l.length) = badB l by rw [List.take_length])
    have HE4 := Lib.hid (fun (hb : badB l = false) (h : (4 : Int) < (l.length : Int)) => newE_long (l := l) (by simp [h00, hb]) (by omega))
    have HE9 := Lib.hid (fun (hb : badB l = false) (h : ¬ (4 : Int) < (l.length : Int)) hd => newE_dup (l := l) (by simp [h00, hb]) (by omega) hd)
    have HE0 := Lib.hid (fun (hb : badB l = false) (h : ¬ (4 : Int) < (l.length : Int)) hd => newE_ok (l := l) (by simp [h00, hb]) (by omega) hd)
    have HP0 := Lib.hid (fun (h : newE l = 0) => show (newPs l peer).l = newL l peer by simp [newPs, h])
    obtain ⟨E, hE⟩ : ∃ E, newE l = E := ⟨_, rfl⟩
    obtain ⟨PL, hPL⟩ : ∃ PL, (newPs l peer).l = PL := ⟨_, rfl⟩
    rw [hE] at HE1 HP1 HE4 HE9 HE0 HP0
    rw [hPL] at HP1 HP0
    rw [hE, hPL]
    clear hc hE hPL
    go_enter Try.func11, Try.ntmps11
    go_wp2_with fail
    go_loopw [6] (fun i wr => ∃ k : Nat, k ≤ l.length ∧ i = .int .i64 k ∧ Hid (badB (l.take k) = false) ∧ Hid (wr.heap.size = w.heap.size + 1) ∧ Hid (BS w w.heap.size 33 #[.slice none 0 0, .int .i64 0, .int .i64 0] wr))
      (fun i _ => l.length - (intOf i).toNat)
    case atStart => exact ⟨0, Nat.zero_le _, rfl, Lib.hid rfl, Lib.hid (World.size_alloc _ _), HZ⟩
    case round =>
      clear HZ
      obtain ⟨k, hk, rfl, HF, HSZ1, HZ⟩ := hrel
      by_cases hlt : k < l.length
      · have hc0 : wr.cell? ⟨b, off + k, none⟩ = some (.string l[k]) := (HZ.out.below.cell (p := ⟨b, off + k, none⟩) hb).trans (by rw [HC.out k hlt, getElem!_pos l k hlt]; rfl)
        have HT := Lib.hid (HBI.out k hlt)
        have HU := Lib.hid (HBN.out k hlt HF.out)
        have hsz := HS.out l[k] (List.getElem_mem hlt)
        unfold maxLen at hsz
        have hsz' : (l[k].size : Int) ≤ 9223372036854775807 := by omega
        have hcs := size_cases l[k]
        generalize l[k] = t at *
        have q4 : (0 : Int) ≤ (k : Int) := by omega
        have q5 : (k : Int) < (l.length : Int) := by omega
        clear hsz
        rcases hcs with ⟨ha, h4 | ⟨h4, h16⟩⟩ | ⟨ha, h4, h16⟩
        · replace HU := Lib.hid (HU.out (by rw [ha]; rfl))
          clear ha
          go_wp2_with fail
          go_roundw
          case rel => exact ⟨k + 1, by omega, by go_num, HU, HSZ1, HZ⟩
          case measure => simp [intOf]; omega
        · replace HU := Lib.hid (HU.out (by rw [ha]; rfl))
          have hq4 : ((t.size : Int) != 4) = true := by simpa using h4
          have hq16 : ((t.size : Int) != 16) = false := by simp [h16]
          clear ha h4
          go_wp2_with fail
          go_roundw
          case rel => exact ⟨k + 1, by omega, by go_num, HU, HSZ1, HZ⟩
          case measure => simp [intOf]; omega
        · have hbd := HT.out (by rw [ha]; rfl)
          have e1 : E = 1 := HE1.out (by rw [hbd]; simp)
          have e2 := HP1.out (by rw [e1]; decide)
          have hq4 : ((t.size : Int) != 4) = true := by simpa using h4
          have hq16 : ((t.size : Int) != 16) = true := by simpa using h16
          clear ha hbd h4 h16
          subst e1 e2
          go_wp2_with ((with_reducible refine gate9 ?_); refine stB (ty := 33) #[.slice none 0 0, .int .i64 0, .int .i64 0] rfl rfl rfl rfl HZ.out.own infoRPs rfl (cells3_one _ _ _ _ _) ?_; intro w2 ht hg; replace HZ := Lib.hid (HZ.out.set ht hg); clear ht hg)
          exact bodyPost_ret (retRPs1 rfl rfl rfl rfl HZ.out.own) rfl ⟨_, rfl, RowP.nil _, HZ.out.below⟩
      · obtain rfl : k = l.length := by omega
        have HBD := Lib.hid (show badB l = false by rw [← HLT.out]; exact HF.out)
        clear HF HE1 HBI HBN HLT
        by_cases h4 : (4 : Int) < (l.length : Int)
        · have e1 : E = 4 := HE4.out HBD.out h4
          have e2 := HP1.out (by rw [e1]; decide)
          subst e1 e2
          go_wp2_with ((with_reducible refine gate9 ?_); refine stB (ty := 33) #[.slice none 0 0, .int .i64 0, .int .i64 0] rfl rfl rfl rfl HZ.out.own infoRPs rfl (cells3_one _ _ _ _ _) ?_; intro w2 ht hg; replace HZ := Lib.hid (HZ.out.set ht hg); clear ht hg)
          exact bodyPost_ret (retRPs1 rfl rfl rfl rfl HZ.out.own) rfl ⟨_, rfl, RowP.nil _, HZ.out.below⟩
        · replace HE9 := Lib.hid (HE9.out HBD.out (by omega))
          replace HE0 := Lib.hid (HE0.out HBD.out (by omega))
          clear HE4 HBD
          have hs1 := HSZ1.out
          obtain ⟨W2, hW2, HN, HB2, hs2⟩ := one_open wr 33 #[.slice none 0 0, .int .i64 0, .int .i64 0]
          have HN2 : Hid (Bx W2 (w.heap.size + 1) 33 #[.slice none 0 0, .int .i64 0, .int .i64 0]) := Lib.hid (by rw [← hs1]; exact HN.out)
          have HZ2 := Lib.hid (HZ.out.own.later HB2.out)
          have HB3 := Lib.hid (HZ.out.below.trans (HB2.out.mono (by omega)))
          have HNL := Lib.hid (show (newL l peer).take l.length = newL l peer by rw [← newL_length l peer, List.take_length])
          clear HZ HN HB2
          go_wp2_with ((with_reducible refine gate9 ?_); refine stB (ty := 33) #[.slice none 0 0, .int .i64 0, .int .i64 0] rfl rfl rfl rfl HN2.out infoRPs rfl (cells3_one _ _ _ _ _) ?_; intro w3 ht hg; have HN3 := Lib.hid ht; have HG3 := Lib.hid hg; clear ht hg)
          have hs3 := HG3.out.size
          have HST : Hid (NrS w ((newL l peer).take 0) 0 (.slice none 0 0) w3) := Lib.hid ⟨HZ2.out.kept HG3.out (by omega), HN3.out, ⟨by simp [flatP], .inl ⟨rfl, rfl⟩⟩, below_of_grown1 HB3.out HG3.out HB3.out.size (by omega), by omega⟩
          clear hs1 hs2 hs3 hW2 HSZ1 HN2 HN3 HG3 HZ2 HB3
          go_loopw [8] (fun i wr => ∃ k : Nat, k ≤ l.length ∧ i = .int .i64 k ∧ Hid (NoDup l k) ∧ Hid (∃ sl, NrS w ((newL l peer).take k) k sl wr))
            (fun i _ => l.length - (intOf i).toNat)
          case atStart => exact ⟨0, Nat.zero_le _, rfl, Lib.hid (fun j hj h => absurd h (by omega)), Lib.hid ⟨_, HST.out⟩⟩
          case round =>
            clear HST
            obtain ⟨k, hk, rfl, HND, HR⟩ := hrel
            obtain ⟨sl, hns⟩ := HR.out
            have HNS := Lib.hid hns
            have hsz := hns.size
            have hsl := own_form2 hns.row
            clear hns HR
            by_cases hlt : k < l.length
            · have hc0 : wr.cell? ⟨b, off + k, none⟩ = some (.string l[k]) := (HNS.out.below.cell (p := ⟨b, off + k, none⟩) hb).trans (by rw [HC.out k hlt, getElem!_pos l k hlt]; rfl)
              have HCL : Hid (∀ V, Below w.heap.size w V → V.cell? ⟨b, off + k, none⟩ = some (.string l[k])) := Lib.hid fun V hV => (hV.cell (p := ⟨b, off + k, none⟩) hb).trans (by rw [HC.out k hlt, getElem!_pos l k hlt]; rfl)
              have HFN := Lib.hid (fun W (h : Below wr.heap.size wr W) => rfind_any ((newL l peer).take k) (by rw [take_len (by omega)]; omega) sl 0 0 l[k] W (rowP_of_own (ownP_below HNS.out.row h)))
              have q4 : (0 : Int) ≤ (k : Int) := by omega
              have q5 : (k : Int) < (l.length : Int) := by omega
              by_cases hm : l[k] ∈ l.take k
              · have e1 : E = 9 := HE9.out (dup_in hlt hm)
                have e2 := HP1.out (by rw [e1]; decide)
                have hF := find_in (peer := peer) (by omega) hm
                generalize findI ((newL l peer).take k) l[k] = F at *
                generalize l[k] = t at *
                subst e1 e2
                clear hm
                go_wp2_with fail
                refine wp_region_noPanic ?_
                refine wp_region_waits (S := fun V => Bx V (w.heap.size + 1) 33 #[sl, .int .i64 0, .int .i64 0] ∧ V.cell? ⟨b, off + k, none⟩ = some (.string t)) [] (by kernel_rfl) ⟨HNS.out.drew.box, hc0⟩ (fun hHeld => ?_)
                refine wpAnyW_take (i := 0) (v := _) (by simp only [List.getElem?_toArray, List.getElem?_cons_zero]; rfl) (by kernel_rfl) (by kernel_rfl) (by kernel_rfl) (by kernel_rfl) (by kernel_rfl) (fun _ _ _ h => h) (yB (by rfl) rfl rfl (fun V h => h.1) Try.underlying33 rfl infoRPs) (by assumption) ?_
                try simp only [Act.put, List.setIfInBounds_toArray, List.set_cons_zero, List.set_cons_succ]
                refine wpAnyW_take (i := 1) (v := ?_) (by simp only [List.getElem?_toArray, List.getElem?_cons_succ, List.getElem?_cons_zero]; rfl) (by kernel_rfl) (by kernel_rfl) (by kernel_rfl) (by kernel_rfl) (by kernel_rfl) (fun _ _ _ h => h) (Or.inl ⟨by rfl, ?_⟩) (by assumption) ?_
                rotate_left 1
                · (intro w' hSw; go_simp; try with_reducible rfl)
                try simp only [Act.put, List.setIfInBounds_toArray, List.set_cons_zero, List.set_cons_succ]
                refine wpAnyW_take (i := 2) (v := ?_) (by simp only [List.getElem?_toArray, List.getElem?_cons_succ, List.getElem?_cons_zero]; rfl) (by kernel_rfl) (by kernel_rfl) (by kernel_rfl) (by kernel_rfl) (by kernel_rfl) (fun _ _ _ h => h) (Or.inl ⟨by rfl, ?_⟩) (by assumption) ?_
                rotate_left 1
                · (intro w' hSw; go_simp; try with_reducible rfl)
                try simp only [Act.put, List.setIfInBounds_toArray, List.set_cons_zero, List.set_cons_succ]
                refine wpAnyW_take (i := 3) (v := ?_) (by simp only [List.getElem?_toArray, List.getElem?_cons_succ, List.getElem?_cons_zero]; rfl) (by kernel_rfl) (by kernel_rfl) (by kernel_rfl) (by kernel_rfl) (by kernel_rfl) (fun _ _ _ h => h) (Or.inl ⟨by rfl, ?_⟩) (by assumption) ?_
                rotate_left 1
                · (intro w' hSw; go_simp; try with_reducible rfl)
                try simp only [Act.put, List.setIfInBounds_toArray, List.set_cons_zero, List.set_cons_succ]
                refine wpAnyW_take (i := 4) (v := ?_) (by simp only [List.getElem?_toArray, List.getElem?_cons_succ, List.getElem?_cons_zero]; rfl) (by kernel_rfl) (by kernel_rfl) (by kernel_rfl) (by kernel_rfl) (by kernel_rfl) (fun _ _ _ h => h) (Or.inl ⟨by rfl, ?_⟩) (by assumption) ?_
                rotate_left 1
                · (intro w' hSw; have hq := hSw.2; go_simp; try with_reducible rfl)
                try simp only [Act.put, List.setIfInBounds_toArray, List.set_cons_zero, List.set_cons_succ]
                refine wpAnyW_held (i := 5) (by kernel_rfl) (by simp only [List.getElem?_toArray, List.getElem?_cons_succ, List.getElem?_cons_zero]; rfl) (fun K hK => ?_)
                rw [if_pos (by rfl)]
                go_simp
                refine (HFN.out _ (below_drawn (Below.refl _ _))).mono ?_
                rintro _ w1 ⟨rfl, hb1⟩
                clear hHeld
                replace HNS := Lib.hid (HNS.out.drew.later hb1)
                clear hb1 hc0
                go_wp2_with fail
                refine hK.out _ _ ⟨HNS.out.box, HCL.out _ HNS.out.below⟩ (fun hHeld => ?_)
                clear hK K
                try simp only [Act.put, List.setIfInBounds_toArray, List.set_cons_zero, List.set_cons_succ]
                refine wpAnyW_take (i := 6) (v := ?_) (by simp only [List.getElem?_toArray, List.getElem?_cons_succ, List.getElem?_cons_zero]; rfl) (by kernel_rfl) (by kernel_rfl) (by kernel_rfl) (by kernel_rfl) (by kernel_rfl) (fun _ _ _ h => h) (Or.inl ⟨by rfl, ?_⟩) (by assumption) ?_
                rotate_left 1
                · (intro w' hSw; go_simp; try with_reducible rfl)
                try simp only [Act.put, List.setIfInBounds_toArray, List.set_cons_zero, List.set_cons_succ]
                refine wpAnyW_done (by kernel_rfl) ?_ _
                refine NoPanic.normal ?_
                clear hHeld
                go_wp2_with ((with_reducible refine gate9 ?_); refine stB (ty := 33) #[.slice none 0 0, .int .i64 0, .int .i64 0] rfl rfl rfl rfl HNS.out.res infoRPs rfl (cells3_one _ _ _ _ _) ?_; intro w2 ht hg; have HBE := Lib.hid (below_of_grown1 HNS.out.below hg HNS.out.below.size (Nat.le_refl _)); have HRE := Lib.hid ht; clear ht hg)
                exact bodyPost_ret (retRPs1 rfl rfl rfl rfl HRE.out) rfl ⟨_, rfl, RowP.nil _, HBE.out⟩
              · have hF := find_not (peer := peer) (by omega) hm
                rw [hF] at HFN
                have HN1 := Lib.hid (noDup_succ HND.out hlt hm)
                have HTK := Lib.hid (newL_take (peer := peer) hlt)
                have HCP0 : Hid (k = 0 → cellsPa (elN peer k l[k]) = #[.string l[k], .int .i64 2, .int .i64 0, .int .i64 0, .int .i64 0, .int .i64 1000, .int .i64 0, .bool false, .int .i64 4500, .int .i64 (Wi.keptI peer), .int .i64 0, .int .u32 0, .int .i64 0, .int .i64 0]) := Lib.hid (fun h => by subst h; rfl)
                have HCP1 : Hid (¬ k = 0 → cellsPa (elN peer k l[k]) = #[.string l[k], .int .i64 1, .int .i64 0, .int .i64 0, .int .i64 0, .int .i64 1000, .int .i64 0, .bool false, .int .i64 4500, .int .i64 (Wi.keptI peer), .int .i64 0, .int .u32 0, .int .i64 0, .int .i64 0]) := Lib.hid (fun h => by unfold elN stN; rw [if_neg h]; rfl)
                generalize elN peer k l[k] = x9 at *
                have HTM : Hid (∀ W : World, Calls Try.prog 32 #[] W fun e W' => e = .returned (.agg #[.int .i64 0, .int .i64 0, .int .i64 1000, .int .i64 0, .bool false]) ∧ Below W.heap.size W W') := Lib.hid (fun W => rnew_any W)
                have HWN : Hid (∀ W : World, Calls Try.prog 33 #[.int .i64 peer] W fun e W' => e = .returned (.agg #[.int .i64 4500, .int .i64 (Wi.keptI peer), .int .i64 0]) ∧ Below W.heap.size W W') := Lib.hid (fun W => Wi.rnewW_any peer W)
                generalize l[k] = t at *
                generalize Wi.keptI peer = kp at *
                obtain ⟨i0, hi0, hz0, hz1, hz2⟩ := info_parts infoRPaZ
                have HI := Lib.hid hi0
                have HZ0 := Lib.hid hz0
                have HZ1 := Lib.hid hz1
                have HZ2 := Lib.hid hz2
                clear hi0 hz0 hz1 hz2 hm hF
                by_cases hk0 : k = 0
                · have HCP := Lib.hid (HCP0.out hk0)
                  subst hk0
                  simp only [Nat.add_zero] at hc0 HCL
                  clear HCP0 HCP1 q4 q5 hlt hk
                  have q4 : (0 : Int) ≤ 0 := by decide
                  have q5 : (0 : Int) < (l.length : Int) := by omega
                  go_wp2_with fail
                  refine wp_region_noPanic ?_
                  refine wp_region_waits (S := fun V => Bx V (w.heap.size + 1) 33 #[sl, .int .i64 0, .int .i64 0] ∧ V.cell? ⟨b, off, none⟩ = some (.string t)) [] (by kernel_rfl) ⟨HNS.out.drew.box, hc0⟩ (fun hHeld => ?_)
                  refine wpAnyW_take (i := 0) (v := _) (by simp only [List.getElem?_toArray, List.getElem?_cons_zero]; rfl) (by kernel_rfl) (by kernel_rfl) (by kernel_rfl) (by kernel_rfl) (by kernel_rfl) (fun _ _ _ h => h) (yB (by rfl) rfl rfl (fun V h => h.1) Try.underlying33 rfl infoRPs) (by assumption) ?_
                  try simp only [Act.put, List.setIfInBounds_toArray, List.set_cons_zero, List.set_cons_succ]
                  refine wpAnyW_take (i := 1) (v := ?_) (by simp only [List.getElem?_toArray, List.getElem?_cons_succ, List.getElem?_cons_zero]; rfl) (by kernel_rfl) (by kernel_rfl) (by kernel_rfl) (by kernel_rfl) (by kernel_rfl) (fun _ _ _ h => h) (Or.inl ⟨by rfl, ?_⟩) (by assumption) ?_
                  rotate_left 1
                  · (intro w' hSw; go_simp; try with_reducible rfl)
                  try simp only [Act.put, List.setIfInBounds_toArray, List.set_cons_zero, List.set_cons_succ]
                  refine wpAnyW_take (i := 2) (v := ?_) (by simp only [List.getElem?_toArray, List.getElem?_cons_succ, List.getElem?_cons_zero]; rfl) (by kernel_rfl) (by kernel_rfl) (by kernel_rfl) (by kernel_rfl) (by kernel_rfl) (fun _ _ _ h => h) (Or.inl ⟨by rfl, ?_⟩) (by assumption) ?_
                  rotate_left 1
                  · (intro w' hSw; go_simp; try with_reducible rfl)
                  try simp only [Act.put, List.setIfInBounds_toArray, List.set_cons_zero, List.set_cons_succ]
                  refine wpAnyW_take (i := 3) (v := ?_) (by simp only [List.getElem?_toArray, List.getElem?_cons_succ, List.getElem?_cons_zero]; rfl) (by kernel_rfl) (by kernel_rfl) (by kernel_rfl) (by kernel_rfl) (by kernel_rfl) (fun _ _ _ h => h) (Or.inl ⟨by rfl, ?_⟩) (by assumption) ?_
                  rotate_left 1
                  · (intro w' hSw; go_simp; try with_reducible rfl)
                  try simp only [Act.put, List.setIfInBounds_toArray, List.set_cons_zero, List.set_cons_succ]
                  refine wpAnyW_take (i := 4) (v := ?_) (by simp only [List.getElem?_toArray, List.getElem?_cons_succ, List.getElem?_cons_zero]; rfl) (by kernel_rfl) (by kernel_rfl) (by kernel_rfl) (by kernel_rfl) (by kernel_rfl) (fun _ _ _ h => h) (Or.inl ⟨by rfl, ?_⟩) (by assumption) ?_
                  rotate_left 1
                  · (intro w' hSw; have hq := hSw.2; go_simp; try with_reducible rfl)
                  try simp only [Act.put, List.setIfInBounds_toArray, List.set_cons_zero, List.set_cons_succ]
                  refine wpAnyW_held (i := 5) (by kernel_rfl) (by simp only [List.getElem?_toArray, List.getElem?_cons_succ, List.getElem?_cons_zero]; rfl) (fun K hK => ?_)
                  rw [if_pos (by rfl)]
                  go_simp
                  refine (HFN.out _ (below_drawn (Below.refl _ _))).mono ?_
                  rintro _ w1 ⟨rfl, hb1⟩
                  clear hHeld
                  replace HNS := Lib.hid (HNS.out.drew.later hb1)
                  clear hb1 hc0
                  go_wp2_with fail
                  refine hK.out _ _ ⟨HNS.out.box, HCL.out _ HNS.out.below⟩ (fun hHeld => ?_)
                  clear hK K
                  try simp only [Act.put, List.setIfInBounds_toArray, List.set_cons_zero, List.set_cons_succ]
                  refine wpAnyW_take (i := 6) (v := ?_) (by simp only [List.getElem?_toArray, List.getElem?_cons_succ, List.getElem?_cons_zero]; rfl) (by kernel_rfl) (by kernel_rfl) (by kernel_rfl) (by kernel_rfl) (by kernel_rfl) (fun _ _ _ h => h) (Or.inl ⟨by rfl, ?_⟩) (by assumption) ?_
                  rotate_left 1
                  · (intro w' hSw; go_simp; try with_reducible rfl)
                  try simp only [Act.put, List.setIfInBounds_toArray, List.set_cons_zero, List.set_cons_succ]
                  refine wpAnyW_done (by kernel_rfl) ?_ _
                  refine NoPanic.normal ?_
                  clear hHeld
                  go_wp2_with fail
                  refine wp_region_noPanic ?_
                  refine wp_region_waits (S := fun V => Bx V (w.heap.size + 1) 33 #[sl, .int .i64 0, .int .i64 0] ∧ V.cell? ⟨b, off, none⟩ = some (.string t)) [14] (by kernel_rfl) ⟨HNS.out.drew.box, HCL.out _ HNS.out.drew.below⟩ (fun hHeld => ?_)
                  refine wpAnyW_take (i := 0) (v := ?_) (by simp only [List.getElem?_toArray, List.getElem?_cons_zero]; rfl) (by kernel_rfl) (by kernel_rfl) (by kernel_rfl) (by kernel_rfl) (by kernel_rfl) (fun _ _ _ h => h) (Or.inl ⟨by rfl, ?_⟩) (by assumption) ?_
                  rotate_left 1
                  · (intro w' hSw; go_simp; try with_reducible rfl)
                  try simp only [Act.put, List.setIfInBounds_toArray, List.set_cons_zero, List.set_cons_succ]
                  refine wpAnyW_take (i := 1) (v := ?_) (by simp only [List.getElem?_toArray, List.getElem?_cons_succ, List.getElem?_cons_zero]; rfl) (by kernel_rfl) (by kernel_rfl) (by kernel_rfl) (by kernel_rfl) (by kernel_rfl) (fun _ _ _ h => h) (Or.inl ⟨by rfl, ?_⟩) (by assumption) ?_
                  rotate_left 1
                  · (intro w' hSw; have hq : w'.cell? ⟨w.heap.size + 1, 0, none⟩ = some sl := hSw.1.cell 0 _ rfl; go_simp; try with_reducible rfl)
                  try simp only [Act.put, List.setIfInBounds_toArray, List.set_cons_zero, List.set_cons_succ]
                  refine wpAnyW_take (i := 2) (v := ?_) (by simp only [List.getElem?_toArray, List.getElem?_cons_succ, List.getElem?_cons_zero]; rfl) (by kernel_rfl) (by kernel_rfl) (by kernel_rfl) (by kernel_rfl) (by kernel_rfl) (fun _ _ _ h => h) (Or.inl ⟨by rfl, ?_⟩) (by assumption) ?_
                  rotate_left 1
                  · (intro w' hSw; go_simp; try with_reducible rfl)
                  try simp only [Act.put, List.setIfInBounds_toArray, List.set_cons_zero, List.set_cons_succ]
                  refine wpAnyW_take (i := 3) (v := ?_) (by simp only [List.getElem?_toArray, List.getElem?_cons_succ, List.getElem?_cons_zero]; rfl) (by kernel_rfl) (by kernel_rfl) (by kernel_rfl) (by kernel_rfl) (by kernel_rfl) (fun _ _ _ h => h) (Or.inl ⟨by rfl, ?_⟩) (by assumption) ?_
                  rotate_left 1
                  · (intro w' hSw; go_simp; try with_reducible rfl)
                  try simp only [Act.put, List.setIfInBounds_toArray, List.set_cons_zero, List.set_cons_succ]
                  refine wpAnyW_take (i := 4) (v := ?_) (by simp only [List.getElem?_toArray, List.getElem?_cons_succ, List.getElem?_cons_zero]; rfl) (by kernel_rfl) (by kernel_rfl) (by kernel_rfl) (by kernel_rfl) (by kernel_rfl) (fun _ _ _ h => h) (Or.inl ⟨by rfl, ?_⟩) (by assumption) ?_
                  rotate_left 1
                  · (intro w' hSw; go_simp; try with_reducible rfl)
                  try simp only [Act.put, List.setIfInBounds_toArray, List.set_cons_zero, List.set_cons_succ]
                  refine wpAnyW_take (i := 5) (v := ?_) (by simp only [List.getElem?_toArray, List.getElem?_cons_succ, List.getElem?_cons_zero]; rfl) (by kernel_rfl) (by kernel_rfl) (by kernel_rfl) (by kernel_rfl) (by kernel_rfl) (fun _ _ _ h => h) (Or.inl ⟨by rfl, ?_⟩) (by assumption) ?_
                  rotate_left 1
                  · (intro w' hSw; have hq := hSw.2; go_simp; try with_reducible rfl)
                  try simp only [Act.put, List.setIfInBounds_toArray, List.set_cons_zero, List.set_cons_succ]
                  refine wpAnyW_take (i := 6) (v := ?_) (by simp only [List.getElem?_toArray, List.getElem?_cons_succ, List.getElem?_cons_zero]; rfl) (by kernel_rfl) (by kernel_rfl) (by kernel_rfl) (by kernel_rfl) (by kernel_rfl) (fun _ _ _ h => h) (Or.inl ⟨by rfl, ?_⟩) (by assumption) ?_
                  rotate_left 1
                  · (intro w' hSw; go_simp; try with_reducible rfl)
                  try simp only [Act.put, List.setIfInBounds_toArray, List.set_cons_zero, List.set_cons_succ]
                  refine wpAnyW_take (i := 8) (v := ?_) (by simp only [List.getElem?_toArray, List.getElem?_cons_succ, List.getElem?_cons_zero]; rfl) (by kernel_rfl) (by kernel_rfl) (by kernel_rfl) (by kernel_rfl) (by kernel_rfl) (fun _ _ _ h => h) (Or.inl ⟨by rfl, ?_⟩) (by assumption) ?_
                  rotate_left 1
                  · (intro w' hSw; go_simp; try with_reducible rfl)
                  try simp only [Act.put, List.setIfInBounds_toArray, List.set_cons_zero, List.set_cons_succ]
                  refine wpAnyW_held (i := 7) (by kernel_rfl) (by simp only [List.getElem?_toArray, List.getElem?_cons_succ, List.getElem?_cons_zero]; rfl) (fun K hK => ?_)
                  rw [if_pos (by rfl)]
                  go_simp
                  refine (HTM.out _).mono ?_
                  rintro _ w1 ⟨rfl, hb1⟩
                  clear hHeld
                  replace HNS := Lib.hid (HNS.out.drew.later hb1)
                  clear hb1
                  go_wp2_with fail
                  refine hK.out _ _ ⟨HNS.out.box, HCL.out _ HNS.out.below⟩ (fun hHeld => ?_)
                  clear hK K
                  try simp only [Act.put, List.setIfInBounds_toArray, List.set_cons_zero, List.set_cons_succ]
                  refine wpAnyW_held (i := 9) (by kernel_rfl) (by simp only [List.getElem?_toArray, List.getElem?_cons_succ, List.getElem?_cons_zero]; rfl) (fun K hK => ?_)
                  rw [if_pos (by rfl)]
                  go_simp
                  refine (HWN.out _).mono ?_
                  rintro _ w2 ⟨rfl, hb1⟩
                  clear hHeld
                  replace HNS := Lib.hid (HNS.out.later hb1)
                  clear hb1
                  go_wp2_with fail
                  refine hK.out _ _ ⟨HNS.out.box, HCL.out _ HNS.out.below⟩ (fun hHeld => ?_)
                  clear hK K
                  try simp only [Act.put, List.setIfInBounds_toArray, List.set_cons_zero, List.set_cons_succ]
                  refine wpAnyW_take (i := 10) (v := ?_) (by simp only [List.getElem?_toArray, List.getElem?_cons_succ, List.getElem?_cons_zero]; rfl) (by kernel_rfl) (by kernel_rfl) (by kernel_rfl) (by kernel_rfl) (by kernel_rfl) (fun _ _ _ h => h) (Or.inl ⟨by rfl, ?_⟩) (by assumption) ?_
                  rotate_left 1
                  · (intro w' hSw; go_simp; try with_reducible rfl)
                  try simp only [Act.put, List.setIfInBounds_toArray, List.set_cons_zero, List.set_cons_succ]
                  refine wpAnyW_held (i := 11) (by kernel_rfl) (by simp only [List.getElem?_toArray, List.getElem?_cons_succ, List.getElem?_cons_zero]; rfl) (fun K hK => ?_)
                  rw [if_pos (by rfl)]
                  go_simp
                  refine hK.out _ _ ⟨HNS.out.box.old _, HCL.out _ (HNS.out.below.alloc HNS.out.below.size _)⟩ (fun hHeld => ?_)
                  clear hK K
                  try simp only [Act.put, List.setIfInBounds_toArray, List.set_cons_zero, List.set_cons_succ]
                  refine wpAnyW_held (i := 12) (by kernel_rfl) (by simp only [List.getElem?_toArray, List.getElem?_cons_succ, List.getElem?_cons_zero]; rfl) (fun K hK => ?_)
                  rw [if_pos (by rfl)]
                  refine wp_append_own _ (.tmp 57) (.tmp 67) 31 rfl (w.heap.size + 2) 76 i0 _ 14 120 Try.underlying31 HI.out HZ0.out HZ1.out HZ2.out rfl (by decide) sl 0 _ rfl (ownP_below HNS.out.row ((Below.refl _ _).alloc (Nat.le_refl _) _)) ⟨w2.heap.size, 0, none⟩ 1 1 (cellsPa x9).toList rfl (by rw [lenPa]) (fun j u hu => by
                    have hbx := Bx.fresh w2 76 #[.string t, .int .i64 2, .int .i64 0, .int .i64 0, .int .i64 0, .int .i64 1000, .int .i64 0, .bool false, .int .i64 4500, .int .i64 kp, .int .i64 0, .int .u32 0, .int .i64 0, .int .i64 0]
                    rw [addr_plain, Nat.zero_add, hbx.at, ← hu, HCP.out]
                    simp) (fun u hu => cells_one hu) (by unfold maxLen; omega) (by omega) (by rw [World.size_alloc]; have := HNS.out.size; omega) ?_
                  intro sl2 w3 hown hgr _
                  have HW2 := Lib.hid hown
                  have HNA := Lib.hid (HNS.out.later ((Below.refl w2.heap.size w2).alloc (Nat.le_refl _) (.cells #[.string t, .int .i64 2, .int .i64 0, .int .i64 0, .int .i64 0, .int .i64 1000, .int .i64 0, .bool false, .int .i64 4500, .int .i64 kp, .int .i64 0, .int .u32 0, .int .i64 0, .int .i64 0] 76)))
                  have HPT := Lib.hid (fun (W : World) h1 h2 => HNA.out.put (x := x9) (W'' := W) hown hgr h1 h2)
                  have HBX : Hid (Bx w3 (w.heap.size + 1) 33 #[sl, .int .i64 0, .int .i64 0]) := Lib.hid ((hgr.block _ HNA.out.box.lt (fun e => by
                    have h9 := HNA.out.row.lt _ e.symm
                    omega)).trans HNA.out.box)
                  have HC3 := Lib.hid (HCL.out w3 (HNA.out.below.grown hgr HNA.out.below.size fun j hj => by have := (HNA.out.row.lt j hj).1; omega))
                  clear hown hgr HNS hHeld HNA
                  refine hK.out _ _ ⟨HBX.out, HC3.out⟩ (fun hHeld => ?_)
                  clear hK K
                  try simp only [Act.put, List.setIfInBounds_toArray, List.set_cons_zero, List.set_cons_succ]
                  refine wpAnyW_held (i := 13) (by kernel_rfl) (by simp only [List.getElem?_toArray, List.getElem?_cons_succ, List.getElem?_cons_zero]; rfl) (fun K hK => ?_)
                  rw [if_pos (by rfl)]
                  go_simp
                  refine hK.out _ _ hHeld (fun hHeld => ?_)
                  clear hK K
                  try simp only [Act.put, List.setIfInBounds_toArray, List.set_cons_zero, List.set_cons_succ]
                  refine wpAnyW_freed (i := 14) (by kernel_rfl) (by kernel_rfl) (by simp only [List.getElem?_toArray, List.getElem?_cons_succ, List.getElem?_cons_zero]; rfl) (fun K hK => ?_)
                  rw [if_pos (by rfl)]
                  refine wpF sl2 rfl rfl rfl HBX.out (by show 0 < 3; decide) infoRSl (own_one HW2.out) ?_
                  intro w4 ht hg he
                  clear he
                  have HNX := Lib.hid (HPT.out _ ht hg)
                  clear ht hg HPT HBX hHeld
                  refine hK.out _ _ ?_
                  clear hK K
                  try simp only [Act.put, List.setIfInBounds_toArray, List.set_cons_zero, List.set_cons_succ]
                  refine wpAnyW_done (by kernel_rfl) ?_ _
                  refine NoPanic.normal ?_
                  go_wp2_with fail
                  go_roundw
                  case rel => exact ⟨1, by omega, by go_num, HN1, Lib.hid ⟨sl2, by rw [HTK.out]; exact HNX.out⟩⟩
                  case measure => simp [intOf]; omega
                · have HCP := Lib.hid (HCP1.out hk0)
                  have hkz : ¬ (k : Int) = 0 := by omega
                  clear HCP0 HCP1 hk0
                  go_wp2_with fail
                  refine wp_region_noPanic ?_
                  refine wp_region_waits (S := fun V => Bx V (w.heap.size + 1) 33 #[sl, .int .i64 0, .int .i64 0] ∧ V.cell? ⟨b, off + k, none⟩ = some (.string t)) [] (by kernel_rfl) ⟨HNS.out.drew.box, hc0⟩ (fun hHeld => ?_)
                  refine wpAnyW_take (i := 0) (v := _) (by simp only [List.getElem?_toArray, List.getElem?_cons_zero]; rfl) (by kernel_rfl) (by kernel_rfl) (by kernel_rfl) (by kernel_rfl) (by kernel_rfl) (fun _ _ _ h => h) (yB (by rfl) rfl rfl (fun V h => h.1) Try.underlying33 rfl infoRPs) (by assumption) ?_
                  try simp only [Act.put, List.setIfInBounds_toArray, List.set_cons_zero, List.set_cons_succ]
                  refine wpAnyW_take (i := 1) (v := ?_) (by simp only [List.getElem?_toArray, List.getElem?_cons_succ, List.getElem?_cons_zero]; rfl) (by kernel_rfl) (by kernel_rfl) (by kernel_rfl) (by kernel_rfl) (by kernel_rfl) (fun _ _ _ h => h) (Or.inl ⟨by rfl, ?_⟩) (by assumption) ?_
                  rotate_left 1
                  · (intro w' hSw; go_simp; try with_reducible rfl)
                  try simp only [Act.put, List.setIfInBounds_toArray, List.set_cons_zero, List.set_cons_succ]
                  refine wpAnyW_take (i := 2) (v := ?_) (by simp only [List.getElem?_toArray, List.getElem?_cons_succ, List.getElem?_cons_zero]; rfl) (by kernel_rfl) (by kernel_rfl) (by kernel_rfl) (by kernel_rfl) (by kernel_rfl) (fun _ _ _ h => h) (Or.inl ⟨by rfl, ?_⟩) (by assumption) ?_
                  rotate_left 1
                  · (intro w' hSw; go_simp; try with_reducible rfl)
                  try simp only [Act.put, List.setIfInBounds_toArray, List.set_cons_zero, List.set_cons_succ]
                  refine wpAnyW_take (i := 3) (v := ?_) (by simp only [List.getElem?_toArray, List.getElem?_cons_succ, List.getElem?_cons_zero]; rfl) (by kernel_rfl) (by kernel_rfl) (by kernel_rfl) (by kernel_rfl) (by kernel_rfl) (fun _ _ _ h => h) (Or.inl ⟨by rfl, ?_⟩) (by assumption) ?_
                  rotate_left 1
                  · (intro w' hSw; go_simp; try with_reducible rfl)
                  try simp only [Act.put, List.setIfInBounds_toArray, List.set_cons_zero, List.set_cons_succ]
                  refine wpAnyW_take (i := 4) (v := ?_) (by simp only [List.getElem?_toArray, List.getElem?_cons_succ, List.getElem?_cons_zero]; rfl) (by kernel_rfl) (by kernel_rfl) (by kernel_rfl) (by kernel_rfl) (by kernel_rfl) (fun _ _ _ h => h) (Or.inl ⟨by rfl, ?_⟩) (by assumption) ?_
                  rotate_left 1
                  · (intro w' hSw; have hq := hSw.2; go_simp; try with_reducible rfl)
                  try simp only [Act.put, List.setIfInBounds_toArray, List.set_cons_zero, List.set_cons_succ]
                  refine wpAnyW_held (i := 5) (by kernel_rfl) (by simp only [List.getElem?_toArray, List.getElem?_cons_succ, List.getElem?_cons_zero]; rfl) (fun K hK => ?_)
                  rw [if_pos (by rfl)]
                  go_simp
                  refine (HFN.out _ (below_drawn (Below.refl _ _))).mono ?_
                  rintro _ w1 ⟨rfl, hb1⟩
                  clear hHeld
                  replace HNS := Lib.hid (HNS.out.drew.later hb1)
                  clear hb1 hc0
                  go_wp2_with fail
                  refine hK.out _ _ ⟨HNS.out.box, HCL.out _ HNS.out.below⟩ (fun hHeld => ?_)
                  clear hK K
                  try simp only [Act.put, List.setIfInBounds_toArray, List.set_cons_zero, List.set_cons_succ]
                  refine wpAnyW_take (i := 6) (v := ?_) (by simp only [List.getElem?_toArray, List.getElem?_cons_succ, List.getElem?_cons_zero]; rfl) (by kernel_rfl) (by kernel_rfl) (by kernel_rfl) (by kernel_rfl) (by kernel_rfl) (fun _ _ _ h => h) (Or.inl ⟨by rfl, ?_⟩) (by assumption) ?_
                  rotate_left 1
                  · (intro w' hSw; go_simp; try with_reducible rfl)
                  try simp only [Act.put, List.setIfInBounds_toArray, List.set_cons_zero, List.set_cons_succ]
                  refine wpAnyW_done (by kernel_rfl) ?_ _
                  refine NoPanic.normal ?_
                  clear hHeld
                  go_wp2_with fail
                  refine wp_region_noPanic ?_
                  refine wp_region_waits (S := fun V => Bx V (w.heap.size + 1) 33 #[sl, .int .i64 0, .int .i64 0] ∧ V.cell? ⟨b, off + k, none⟩ = some (.string t)) [14] (by kernel_rfl) ⟨HNS.out.drew.box, HCL.out _ HNS.out.drew.below⟩ (fun hHeld => ?_)
                  refine wpAnyW_take (i := 0) (v := ?_) (by simp only [List.getElem?_toArray, List.getElem?_cons_zero]; rfl) (by kernel_rfl) (by kernel_rfl) (by kernel_rfl) (by kernel_rfl) (by kernel_rfl) (fun _ _ _ h => h) (Or.inl ⟨by rfl, ?_⟩) (by assumption) ?_
                  rotate_left 1
                  · (intro w' hSw; go_simp; try with_reducible rfl)
                  try simp only [Act.put, List.setIfInBounds_toArray, List.set_cons_zero, List.set_cons_succ]
                  refine wpAnyW_take (i := 1) (v := ?_) (by simp only [List.getElem?_toArray, List.getElem?_cons_succ, List.getElem?_cons_zero]; rfl) (by kernel_rfl) (by kernel_rfl) (by kernel_rfl) (by kernel_rfl) (by kernel_rfl) (fun _ _ _ h => h) (Or.inl ⟨by rfl, ?_⟩) (by assumption) ?_
                  rotate_left 1
                  · (intro w' hSw; have hq : w'.cell? ⟨w.heap.size + 1, 0, none⟩ = some sl := hSw.1.cell 0 _ rfl; go_simp; try with_reducible rfl)
                  try simp only [Act.put, List.setIfInBounds_toArray, List.set_cons_zero, List.set_cons_succ]
                  refine wpAnyW_take (i := 2) (v := ?_) (by simp only [List.getElem?_toArray, List.getElem?_cons_succ, List.getElem?_cons_zero]; rfl) (by kernel_rfl) (by kernel_rfl) (by kernel_rfl) (by kernel_rfl) (by kernel_rfl) (fun _ _ _ h => h) (Or.inl ⟨by rfl, ?_⟩) (by assumption) ?_
                  rotate_left 1
                  · (intro w' hSw; go_simp; try with_reducible rfl)
                  try simp only [Act.put, List.setIfInBounds_toArray, List.set_cons_zero, List.set_cons_succ]
                  refine wpAnyW_take (i := 3) (v := ?_) (by simp only [List.getElem?_toArray, List.getElem?_cons_succ, List.getElem?_cons_zero]; rfl) (by kernel_rfl) (by kernel_rfl) (by kernel_rfl) (by kernel_rfl) (by kernel_rfl) (fun _ _ _ h => h) (Or.inl ⟨by rfl, ?_⟩) (by assumption) ?_
                  rotate_left 1
                  · (intro w' hSw; go_simp; try with_reducible rfl)
                  try simp only [Act.put, List.setIfInBounds_toArray, List.set_cons_zero, List.set_cons_succ]
                  refine wpAnyW_take (i := 4) (v := ?_) (by simp only [List.getElem?_toArray, List.getElem?_cons_succ, List.getElem?_cons_zero]; rfl) (by kernel_rfl) (by kernel_rfl) (by kernel_rfl) (by kernel_rfl) (by kernel_rfl) (fun _ _ _ h => h) (Or.inl ⟨by rfl, ?_⟩) (by assumption) ?_
                  rotate_left 1
                  · (intro w' hSw; go_simp; try with_reducible rfl)
                  try simp only [Act.put, List.setIfInBounds_toArray, List.set_cons_zero, List.set_cons_succ]
                  refine wpAnyW_take (i := 5) (v := ?_) (by simp only [List.getElem?_toArray, List.getElem?_cons_succ, List.getElem?_cons_zero]; rfl) (by kernel_rfl) (by kernel_rfl) (by kernel_rfl) (by kernel_rfl) (by kernel_rfl) (fun _ _ _ h => h) (Or.inl ⟨by rfl, ?_⟩) (by assumption) ?_
                  rotate_left 1
                  · (intro w' hSw; have hq := hSw.2; go_simp; try with_reducible rfl)
                  try simp only [Act.put, List.setIfInBounds_toArray, List.set_cons_zero, List.set_cons_succ]
                  refine wpAnyW_take (i := 6) (v := ?_) (by simp only [List.getElem?_toArray, List.getElem?_cons_succ, List.getElem?_cons_zero]; rfl) (by kernel_rfl) (by kernel_rfl) (by kernel_rfl) (by kernel_rfl) (by kernel_rfl) (fun _ _ _ h => h) (Or.inl ⟨by rfl, ?_⟩) (by assumption) ?_
                  rotate_left 1
                  · (intro w' hSw; go_simp; try with_reducible rfl)
                  try simp only [Act.put, List.setIfInBounds_toArray, List.set_cons_zero, List.set_cons_succ]
                  refine wpAnyW_take (i := 8) (v := ?_) (by simp only [List.getElem?_toArray, List.getElem?_cons_succ, List.getElem?_cons_zero]; rfl) (by kernel_rfl) (by kernel_rfl) (by kernel_rfl) (by kernel_rfl) (by kernel_rfl) (fun _ _ _ h => h) (Or.inl ⟨by rfl, ?_⟩) (by assumption) ?_
                  rotate_left 1
                  · (intro w' hSw; go_simp; try with_reducible rfl)
                  try simp only [Act.put, List.setIfInBounds_toArray, List.set_cons_zero, List.set_cons_succ]
                  refine wpAnyW_held (i := 7) (by kernel_rfl) (by simp only [List.getElem?_toArray, List.getElem?_cons_succ, List.getElem?_cons_zero]; rfl) (fun K hK => ?_)
                  rw [if_pos (by rfl)]
                  go_simp
                  refine (HTM.out _).mono ?_
                  rintro _ w1 ⟨rfl, hb1⟩
                  clear hHeld
                  replace HNS := Lib.hid (HNS.out.drew.later hb1)
                  clear hb1
                  go_wp2_with fail
                  refine hK.out _ _ ⟨HNS.out.box, HCL.out _ HNS.out.below⟩ (fun hHeld => ?_)
                  clear hK K
                  try simp only [Act.put, List.setIfInBounds_toArray, List.set_cons_zero, List.set_cons_succ]
                  refine wpAnyW_held (i := 9) (by kernel_rfl) (by simp only [List.getElem?_toArray, List.getElem?_cons_succ, List.getElem?_cons_zero]; rfl) (fun K hK => ?_)
                  rw [if_pos (by rfl)]
                  go_simp
                  refine (HWN.out _).mono ?_
                  rintro _ w2 ⟨rfl, hb1⟩
                  clear hHeld
                  replace HNS := Lib.hid (HNS.out.later hb1)
                  clear hb1
                  go_wp2_with fail
                  refine hK.out _ _ ⟨HNS.out.box, HCL.out _ HNS.out.below⟩ (fun hHeld => ?_)
                  clear hK K
                  try simp only [Act.put, List.setIfInBounds_toArray, List.set_cons_zero, List.set_cons_succ]
                  refine wpAnyW_take (i := 10) (v := ?_) (by simp only [List.getElem?_toArray, List.getElem?_cons_succ, List.getElem?_cons_zero]; rfl) (by kernel_rfl) (by kernel_rfl) (by kernel_rfl) (by kernel_rfl) (by kernel_rfl) (fun _ _ _ h => h) (Or.inl ⟨by rfl, ?_⟩) (by assumption) ?_
                  rotate_left 1
                  · (intro w' hSw; go_simp; try with_reducible rfl)
                  try simp only [Act.put, List.setIfInBounds_toArray, List.set_cons_zero, List.set_cons_succ]
                  refine wpAnyW_held (i := 11) (by kernel_rfl) (by simp only [List.getElem?_toArray, List.getElem?_cons_succ, List.getElem?_cons_zero]; rfl) (fun K hK => ?_)
                  rw [if_pos (by rfl)]
                  go_simp
                  refine hK.out _ _ ⟨HNS.out.box.old _, HCL.out _ (HNS.out.below.alloc HNS.out.below.size _)⟩ (fun hHeld => ?_)
                  clear hK K
                  try simp only [Act.put, List.setIfInBounds_toArray, List.set_cons_zero, List.set_cons_succ]
                  refine wpAnyW_held (i := 12) (by kernel_rfl) (by simp only [List.getElem?_toArray, List.getElem?_cons_succ, List.getElem?_cons_zero]; rfl) (fun K hK => ?_)
                  rw [if_pos (by rfl)]
                  refine wp_append_own _ (.tmp 57) (.tmp 67) 31 rfl (w.heap.size + 2) 76 i0 _ 14 120 Try.underlying31 HI.out HZ0.out HZ1.out HZ2.out rfl (by decide) sl k _ rfl (ownP_below HNS.out.row ((Below.refl _ _).alloc (Nat.le_refl _) _)) ⟨w2.heap.size, 0, none⟩ 1 1 (cellsPa x9).toList rfl (by rw [lenPa]) (fun j u hu => by
                    have hbx := Bx.fresh w2 76 #[.string t, .int .i64 1, .int .i64 0, .int .i64 0, .int .i64 0, .int .i64 1000, .int .i64 0, .bool false, .int .i64 4500, .int .i64 kp, .int .i64 0, .int .u32 0, .int .i64 0, .int .i64 0]
                    rw [addr_plain, Nat.zero_add, hbx.at, ← hu, HCP.out]
                    simp) (fun u hu => cells_one hu) (by unfold maxLen; omega) (by omega) (by rw [World.size_alloc]; have := HNS.out.size; omega) ?_
                  intro sl2 w3 hown hgr _
                  have HW2 := Lib.hid hown
                  have HNA := Lib.hid (HNS.out.later ((Below.refl w2.heap.size w2).alloc (Nat.le_refl _) (.cells #[.string t, .int .i64 1, .int .i64 0, .int .i64 0, .int .i64 0, .int .i64 1000, .int .i64 0, .bool false, .int .i64 4500, .int .i64 kp, .int .i64 0, .int .u32 0, .int .i64 0, .int .i64 0] 76)))
                  have HPT := Lib.hid (fun (W : World) h1 h2 => HNA.out.put (x := x9) (W'' := W) hown hgr h1 h2)
                  have HBX : Hid (Bx w3 (w.heap.size + 1) 33 #[sl, .int .i64 0, .int .i64 0]) := Lib.hid ((hgr.block _ HNA.out.box.lt (fun e => by
                    have h9 := HNA.out.row.lt _ e.symm
                    omega)).trans HNA.out.box)
                  have HC3 := Lib.hid (HCL.out w3 (HNA.out.below.grown hgr HNA.out.below.size fun j hj => by have := (HNA.out.row.lt j hj).1; omega))
                  clear hown hgr HNS hHeld HNA
                  refine hK.out _ _ ⟨HBX.out, HC3.out⟩ (fun hHeld => ?_)
                  clear hK K
                  try simp only [Act.put, List.setIfInBounds_toArray, List.set_cons_zero, List.set_cons_succ]
                  refine wpAnyW_held (i := 13) (by kernel_rfl) (by simp only [List.getElem?_toArray, List.getElem?_cons_succ, List.getElem?_cons_zero]; rfl) (fun K hK => ?_)
                  rw [if_pos (by rfl)]
                  go_simp
                  refine hK.out _ _ hHeld (fun hHeld => ?_)
                  clear hK K
                  try simp only [Act.put, List.setIfInBounds_toArray, List.set_cons_zero, List.set_cons_succ]
                  refine wpAnyW_freed (i := 14) (by kernel_rfl) (by kernel_rfl) (by simp only [List.getElem?_toArray, List.getElem?_cons_succ, List.getElem?_cons_zero]; rfl) (fun K hK => ?_)
                  rw [if_pos (by rfl)]
                  refine wpF sl2 rfl rfl rfl HBX.out (by show 0 < 3; decide) infoRSl (own_one HW2.out) ?_
                  intro w4 ht hg he
                  clear he
                  have HNX := Lib.hid (HPT.out _ ht hg)
                  clear ht hg HPT HBX hHeld
                  refine hK.out _ _ ?_
                  clear hK K
                  try simp only [Act.put, List.setIfInBounds_toArray, List.set_cons_zero, List.set_cons_succ]
                  refine wpAnyW_done (by kernel_rfl) ?_ _
                  refine NoPanic.normal ?_
                  go_wp2_with fail
                  go_roundw
                  case rel => exact ⟨k + 1, by omega, by go_num, HN1, Lib.hid ⟨sl2, by rw [HTK.out]; exact HNX.out⟩⟩
                  case measure => simp [intOf]; omega
            · obtain rfl : k = l.length := by omega
              have e1 : E = 0 := HE0.out (dup_not HND.out)
              have e2 := HP0.out e1
              have HROW : Hid (wr.ownsRow (w.heap.size + 2) 76 14 sl l.length (flatP (newL l peer))) := Lib.hid (by have h := HNS.out.row; rw [HNL.out] at h; exact h)
              obtain ⟨A7, cap7, rfl, _, _⟩ := hsl
              subst e1 e2
              go_wp2_with (first
    | ((with_reducible refine gate9 ?_); refine ldB rfl rfl rfl HNS.out.box Try.underlying33 rfl infoRPs ?_)
    | ((with_reducible refine gate9 ?_); refine stB (ty := 33) #[.slice A7 l.length cap7, .int .i64 0, .int .i64 0] rfl rfl rfl rfl HNS.out.res infoRPs rfl (cells3_one _ _ _ _ _) ?_; intro w9 ht9 hg9; have HBE := Lib.hid (below_of_grown1 HNS.out.below hg9 HNS.out.below.size (Nat.le_refl _)); have HRW := Lib.hid (rowP_of_own (ownP_keep HROW.out hg9 (by omega))); have HRE := Lib.hid ht9; clear ht9 hg9))
              exact bodyPost_ret (retRPs1 rfl rfl rfl rfl HRE.out) rfl ⟨_, rfl, HRW.out, HBE.out⟩
end Go.Proofs.Yteiifkooegpdaaa
