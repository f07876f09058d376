/-
  What is built of a packet, and whether it is right: contracts.
-/
import Derived.Test.YtlbaockipeojhaaGreatHd
import Derived.Test.YtlbaockipeojhaaGreatCkBuild
import Derived.Test.YtlbaockipeojhaaGreatPkB
import Derived.Test.YtlbaockipeojhaaGreatCrcB
import Derived.Test.YtlbaockipeojhaaGreatGet
namespace Go.Proofs.YtlbaockipeojhaaGreat
open Go.RowKit
set_option linter.unusedVariables false
set_option linter.unusedSimpArgs false
set_option maxRecDepth 100000

theorem len_any8 (B b : Nat) (l : List UInt8) (w : World) (h : Bd w B b l) : Calls Tryz.prog 23 #[.pointer (some ⟨b, 0, none⟩)] w fun e w' => e = .returned (.int .i64 l.length) ∧ w' = w := by
  obtain ⟨p, hB, v, hbk, hown, hne⟩ : ∃ p, Lib.BuilderAtF 58 5 B b p (Lib.byteCells l) w := by
    rcases h with h | h
    · exact ⟨_, h⟩
    · exact ⟨_, h⟩
  rw [byteCells_len] at hown
  obtain ⟨ao, cap, rfl⟩ : ∃ ao cap, v = .slice ao l.length cap := by
    rcases hown.2 with ⟨hv, h0⟩ | ⟨g, cap, cur, fz, hv, _⟩
    · exact ⟨none, 0, by rw [hv, h0]⟩
    · exact ⟨_, _, hv⟩
  have c1 : w.cell? ⟨b, 1, none⟩ = some (.slice ao l.length cap) := by rw [cell_in hbk]; rfl
  clear h hbk hown hne
  go_enter Tryz.func23, Tryz.ntmps23
  go_wp2
  go_ret
  exact ⟨rfl, rfl⟩
theorem buildP_form {p : Pk} (h : formedP p.f p.t p.g p.types = false) : buildP p = (noB, 1) := by
  unfold buildP
  rw [if_neg (by rw [h]; simp)]
theorem buildP_bad {f t g : Nat} {l : List Cv} {k : Nat} (h : k < l.length) (hx : (buildC l[k].c).2 ≠ 0) : buildP ⟨f, t, g, ckV l⟩ = (noB, 1) := by
  unfold buildP
  rw [if_neg]
  rintro ⟨_, h2⟩
  exact hx (rightC_true.1 h2 _ (List.mem_map.2 ⟨l[k], List.getElem_mem h, rfl⟩))
theorem right_all {l : List Cv} (h : ∀ k (h : k < l.length), (buildC l[k].c).2 = 0) : rightC (ckV l) = true := by
  rw [rightC_true]
  intro c hc
  obtain ⟨x, hx, rfl⟩ := List.mem_map.1 hc
  obtain ⟨k, hk, rfl⟩ := List.getElem_of_mem hx
  exact h k hk
theorem buildP_good {f t g : Nat} {l : List Cv} (h1 : formedP f t g (typesV l) = true) (h2 : ∀ k (h : k < l.length), (buildC l[k].c).2 = 0) :
    buildP ⟨f, t, g, ckV l⟩ = if 1500 < 12 + (joinC (ckV l)).size then (noB, 4) else (sealed (headB f t g ++ joinC (ckV l)), 0) := by
  have h3 := right_all h2
  have h4 := packB_size ⟨f, t, g, ckV l⟩
  unfold buildP
  rw [if_pos ⟨by unfold Pk.types; rw [typesV_ck]; exact h1, h3⟩, h4]
  rfl
/-- The bytes of the head and of some chunks. -/
def upTo (f t g : Nat) (l : List Cv) (k : Nat) : List UInt8 := (headB f t g ++ joinC (ckV (l.take k))).data.toList
theorem upTo_zero (f t g : Nat) (l : List Cv) : upTo f t g l 0 = (headB f t g).data.toList := by
  unfold upTo
  rw [List.take_zero]
  simp [ckV, joinC, noB]
theorem upTo_next (f t g : Nat) (l : List Cv) (k : Nat) (h : k < l.length) : upTo f t g l (k + 1) = upTo f t g l k ++ (buildC l[k].c).1.data.toList := by
  unfold upTo
  rw [List.take_succ_eq_append_getElem h]
  have : ckV (l.take k ++ [l[k]]) = ckV (l.take k) ++ [l[k].c] := by unfold ckV; rw [List.map_append]; rfl
  rw [this, joinC_snoc]
  simp
theorem upTo_all (f t g : Nat) (l : List Cv) : upTo f t g l l.length = (headB f t g ++ joinC (ckV l)).data.toList := by
  unfold upTo
  rw [List.take_length]
theorem upTo_length (f t g : Nat) (l : List Cv) (k : Nat) (hk : k ≤ l.length) : (upTo f t g l k).length ≤ 12 + 1400 * k := by
  induction k with
  | zero => rw [upTo_zero]; exact Nat.le_refl _
  | succ k ih =>
    rw [upTo_next _ _ _ _ _ (by omega), List.length_append, ← size_list]
    have h1 := ih (by omega)
    have h2 : (buildC (l[k]'(by omega)).c).1.size ≤ 1400 := by
      by_cases h : (buildC (l[k]'(by omega)).c).2 = 0
      · exact (built_size h).2.1
      · rw [buildC_none h]; decide
    omega
set_option maxHeartbeats 16000000 in
theorem pbuild_any (f t g : Nat) (hf : f < 65536) (ht : t < 65536) (hg : g < 4294967296) (V : Value) (l : List Cv) (hl : l.length ≤ 100000) (hfit : ∀ x ∈ l, FitC x.c) (w : World) (h : Rk w V l) :
    Calls Tryz.prog 7 #[.agg (cellsP f t g V)] w fun e w' => e = .returned (.tuple #[.string (buildP ⟨f, t, g, ckV l⟩).1, .int .i64 ((buildP ⟨f, t, g, ckV l⟩).2 : Nat)]) ∧ Below w.heap.size w w' := by
  have HFO := Lib.hid (fun W hW => formed_any8 f t g V l hl W hW)
  have HHD := Lib.hid (fun W => head_any f t g hf ht hg V W)
  have HFT := Lib.hid hfit
  have HK := Lib.hid h
  have HT := Lib.hid (hdS_new f t g V w)
  have HPF := Lib.hid (fun hq => buildP_form (p := ⟨f, t, g, ckV l⟩) (by unfold Pk.types; rw [typesV_ck]; exact hq))
  have HPB := Lib.hid (fun k (hk : k < l.length) hx => buildP_bad (f := f) (t := t) (g := g) hk hx)
  have HPG := Lib.hid (fun h1 h2 => buildP_good (f := f) (t := t) (g := g) (l := l) h1 h2)
  have HMN := Lib.hid (fun hq => (formed_means.1 (show formedP f t g (typesV l) = true from hq)).2.2.2.1)
  rw [typesV_length] at HMN
  obtain ⟨A, cap, rfl, hcap, hmax, hcells⟩ := h.row
  have HC := Lib.hid hcells
  generalize buildP ⟨f, t, g, ckV l⟩ = R at *
  generalize hq : formedP f t g (typesV l) = q at *
  clear h hcells hfit hl
  dsimp only [cellsP] at *
  go_enter Tryz.func7, Tryz.ntmps7
  go_wp2_with fail
  refine (HFO.out _ (HK.out.below HT.out.below)).mono ?_
  rintro _ w1 ⟨rfl, hb1⟩
  replace HT := Lib.hid (HT.out.later hb1)
  clear hb1 HFO
  cases q
  · obtain rfl := HPF.out rfl
    have HB := Lib.hid HT.out.below
    go_wp2_with fail
    go_ret2
    exact ⟨rfl, HB.out⟩
  have hl50 := HMN.out rfl
  replace HPG := Lib.hid (fun h2 => HPG.out rfl h2)
  clear HPF HMN hq
  have c0 := HT.out.c0
  have c1 := HT.out.c1
  have c2 := HT.out.c2
  have c3 := HT.out.c3
  have hn0 : w.heap.size < w1.heap.size := (Array.getElem?_eq_some_iff.1 HT.out.own).1
  have HT2 := Lib.hid (HT.out.later ((Below.refl _ _).alloc (Nat.le_refl _) (.cells #[.pointer none, .slice none 0 0] 58)))
  have HI := Lib.hid (bd_fresh w1)
  have d0 := HT2.out.c0
  have d1 := HT2.out.c1
  have d2 := HT2.out.c2
  have d3 := HT2.out.c3
  clear HT c0 c1 c2 c3
  go_wp2_with fail
  refine (HHD.out _).mono ?_
  rintro _ w2 ⟨rfl, hb2⟩
  replace HT2 := Lib.hid (HT2.out.later hb2)
  replace HI := Lib.hid (HI.out.later hb2)
  have hs2 : w1.heap.size ≤ w2.heap.size := by have := hb2.size; rw [World.size_alloc] at this; omega
  clear hb2 HHD d0 d1 d2 d3
  go_wp2_with fail
  refine (string_any w1.heap.size w1.heap.size [] _ _ HI.out (by show 0 + 12 < 100000000; omega) hs2).mono ?_
  rintro _ w3 ⟨rfl, hi3, hr3⟩
  replace HI := Lib.hid (show Bd w3 w1.heap.size w1.heap.size (upTo f t g l 0) by rw [upTo_zero]; simpa using hi3)
  have HB := Lib.hid (HT2.out.below.trans (hr3.1.mono (by omega)))
  have c3 : w3.cell? ⟨w.heap.size, 3, none⟩ = some (.slice A l.length cap) := by
    have := (hr3.1.block w.heap.size hn0).trans HT2.out.own
    rw [cell_in this]; rfl
  have hs3 : w1.heap.size ≤ w3.heap.size := Nat.le_trans hs2 hr3.1.size
  clear hi3 hr3 HT2
  go_wp2_with fail
  go_loopw [18] (fun i wr => ∃ k : Nat, k ≤ l.length ∧ i = .int .i64 k ∧ Hid (Bd wr w1.heap.size w1.heap.size (upTo f t g l k) ∧ Below w.heap.size w wr ∧ w1.heap.size ≤ wr.heap.size ∧ ∀ j (hj : j < l.length), j < k → (buildC l[j].c).2 = 0))
    (fun i _ => l.length - (intOf i).toNat)
  case atStart => exact ⟨0, Nat.zero_le _, rfl, Lib.hid ⟨HI.out, HB.out, hs3, fun j hj hk => absurd hk (Nat.not_lt_zero _)⟩⟩
  case round =>
    obtain ⟨k, hk, rfl, HQ⟩ := hrel
    obtain ⟨hi, hb0, hsz, hall⟩ := HQ.out
    have HALL := Lib.hid hall
    clear hall HQ HI HB c3 hs3 hs2
    by_cases hlt : k < l.length
    · obtain ⟨b, off, rfl, hb, hr⟩ := HC.out (by omega)
      have hp := (HK.out.parts _ (List.getElem_mem hlt)).below hb0
      have hfit := HFT.out _ (List.getElem_mem hlt)
      have hnx := upTo_next f t g l k hlt
      have hul := upTo_length f t g l k hk
      have HPB1 := Lib.hid (HPB.out k hlt)
      have HALL2 := Lib.hid (show (buildC l[k].c).2 = 0 → ∀ j (hj : j < l.length), j < k + 1 → (buildC l[j].c).2 = 0 from fun hx j hj hk' => by
        by_cases e : j = k
        · subst e; exact hx
        · exact HALL.out j hj (by omega))
      obtain ⟨CL, hL⟩ := hasL l[k]
      have hr' : wr.rangeAt b (off + k * 14) CL := by rw [← hL.cells]; exact rangeAt_below (hr k hlt) hb hb0
      clear hr
      generalize l[k] = x at *
      have HR := Lib.hid hr'
      have HL := Lib.hid hL
      have HONE := Lib.hid (hL.one hp)
      have HP := Lib.hid (hp.below ((Below.refl _ _).alloc (Nat.le_refl _) (.cells CL.toArray 52)))
      have HU := Lib.hid (show ∀ W, Parts W x.c x.g x.d x.it → Calls Tryz.prog 22 #[.agg CL.toArray] W fun e w' => e = .returned (.tuple #[.string (buildC x.c).1, .int .i64 ((buildC x.c).2 : Nat)]) ∧ Below W.heap.size W w' from fun W hW => by
        rw [← hL.arr]; exact ckbuild_any x.c hfit.wf hfit.gl hfit.dl hfit.il hfit.iv hfit.tl _ _ _ W hW)
      have hble : (buildC x.c).1.size ≤ 1400 := by
        by_cases h : (buildC x.c).2 = 0
        · exact (built_size h).2.1
        · rw [buildC_none h]; decide
      have HI1 := Lib.hid (hi.alloc (.cells CL.toArray 52))
      have HB1 := Lib.hid (hb0.alloc (by have := hb0.size; omega) (.cells CL.toArray 52))
      have HNX := Lib.hid hnx
      generalize hU : upTo f t g l k = L at *
      generalize (buildC x.c).2 = ex at *
      generalize (buildC x.c).1 = sx at *
      have q1 : (k : Int) < (l.length : Int) := by omega
      have q2 : (0 : Int) ≤ (k : Int) := by omega
      clear hr' hp hL hfit HC HK HFT hi hb0 hnx HPB HALL hU
      go_wp2_with (first
        | (refine wpList_load_mid rfl 52 (.tmp 20) rfl b (off + k * 14) rfl CL _ HR.out Tryz.underlying52 rfl HL.out.size ?_)
        | (refine wpList_store_row rfl 52 (.tmp 6) (.tmp 21) rfl wr.heap.size CL.toArray rfl rfl 52 _ (heap_alloc_new _ _) HL.out.sizeA (ckZero.trans HL.out.fourteen.symm) HONE.out ?_; rw [World.setRow_alloc_new])
        | (refine wpList_load_row rfl 52 (.tmp 6) rfl wr.heap.size rfl 52 CL.toArray (0, 0) _ (heap_alloc_new _ _) Tryz.underlying52 rfl HL.out.sizeA ?_))
      refine (HU.out _ HP.out).mono ?_
      rintro _ w4 ⟨rfl, hb4⟩
      have HI4 := Lib.hid (HI1.out.later hb4)
      have HB4 := Lib.hid (HB1.out.trans (hb4.mono HB1.out.size))
      have hsz4 : w1.heap.size ≤ w4.heap.size := by have := hb4.size; rw [World.size_alloc] at this; omega
      clear hb4 HI1 HB1 HU HP HR
      by_cases hx : ex = 0
      case neg =>
        obtain rfl := HPB1.out hx
        have z : ((ex : Int) != 0) = true := bne_iff_ne.2 (by omega)
        go_wp2_with fail
        go_ret2
        exact ⟨rfl, HB4.out⟩
      subst hx
      have HALL3 := Lib.hid (HALL2.out rfl)
      clear HPB1 HALL2
      go_wp2_with fail
      refine (string_any w1.heap.size w1.heap.size L _ _ HI4.out (by omega) hsz4).mono ?_
      rintro _ w5 ⟨rfl, hi5, hr5⟩
      have HI5 := Lib.hid (show Bd w5 w1.heap.size w1.heap.size (upTo f t g l (k + 1)) by rw [HNX.out]; exact hi5)
      have HB5 := Lib.hid (HB4.out.trans (hr5.1.mono (by omega)))
      have hsz5 : w1.heap.size ≤ w5.heap.size := Nat.le_trans hsz4 hr5.1.size
      clear hi5 hr5 HI4 HB4
      go_wp2_with fail
      go_roundw
      case rel => exact ⟨k + 1, by omega, by go_num, Lib.hid ⟨HI5.out, HB5.out, hsz5, HALL3.out⟩⟩
      case measure => simp [intOf]; omega
    · obtain rfl : k = l.length := by omega
      have hR := HPG.out (fun j hj => HALL.out j hj hj)
      rw [upTo_all] at hi
      have hL : (headB f t g ++ joinC (ckV l)).data.toList.length = 12 + (joinC (ckV l)).size := by rw [← size_list, ByteArray.size_append]; rfl
      have hss : (headB f t g ++ joinC (ckV l)).size = 12 + (joinC (ckV l)).size := by rw [ByteArray.size_append]; rfl
      have hle := upTo_length f t g l l.length (Nat.le_refl _)
      rw [upTo_all, hL] at hle
      have HI1 := Lib.hid hi
      have HB1 := Lib.hid hb0
      have HSE := Lib.hid (fun (h12 : 12 ≤ (headB f t g ++ joinC (ckV l)).size) hs W => seal_any (headB f t g ++ joinC (ckV l)) h12 hs W)
      generalize hX : headB f t g ++ joinC (ckV l) = X at *
      generalize (joinC (ckV l)).size = n at *
      clear hi hb0 HPG HALL HPB HK HC HFT hX
      go_wp2_with fail
      refine (len_any8 w1.heap.size w1.heap.size _ _ HI1.out).mono ?_
      rintro _ w6 ⟨rfl, rfl⟩
      rw [hL]
      by_cases hlong : 1500 < 12 + n
      · rw [if_pos hlong] at hR
        subst hR
        have z : decide ((1500 : Int) < ((12 + n : Nat) : Int)) = true := decide_eq_true (by omega)
        go_wp2_with fail
        go_ret2
        exact ⟨rfl, HB1.out⟩
      · rw [if_neg hlong] at hR
        subst hR
        have z : decide ((1500 : Int) < ((12 + n : Nat) : Int)) = false := decide_eq_false (by omega)
        go_wp2_with fail
        refine (told_any w1.heap.size w1.heap.size _ _ HI1.out hsz).mono ?_
        rintro _ w7 ⟨rfl, hi7, hr7⟩
        have HB7 := Lib.hid (HB1.out.trans (hr7.1.mono (by omega)))
        clear hi7 hr7
        rw [ofB]
        go_wp2_with fail
        refine (HSE.out (by omega) (by omega) _).mono ?_
        rintro _ w8 ⟨rfl, hb8⟩
        have HB8 := Lib.hid (HB7.out.trans (hb8.mono HB7.out.size))
        clear hb8
        go_wp2_with fail
        go_ret2
        exact ⟨rfl, HB8.out⟩
theorem pright_any (f t g : Nat) (hf : f < 65536) (ht : t < 65536) (hg : g < 4294967296) (V : Value) (l : List Cv) (hl : l.length ≤ 100000) (hfit : ∀ x ∈ l, FitC x.c) (w : World) (h : Rk w V l) :
    Calls Tryz.prog 10 #[.agg (cellsP f t g V)] w fun e w' => e = .returned (.bool (decide ((buildP ⟨f, t, g, ckV l⟩).2 = 0))) ∧ Below w.heap.size w w' := by
  have HT := Lib.hid (hdS_new f t g V w)
  have H := Lib.hid (fun W hW => pbuild_any f t g hf ht hg V l hl hfit W hW)
  have HK := Lib.hid h
  obtain ⟨A, cap, rfl, hcap, hmax, hcells⟩ := h.row
  generalize buildP ⟨f, t, g, ckV l⟩ = R at *
  obtain ⟨s, e⟩ := R
  have z : ((e : Int) == 0) = decide (e = 0) := by rw [Bool.eq_iff_iff, beq_iff_eq, decide_eq_true_eq]; omega
  clear h hcells hfit hl
  dsimp only [cellsP] at *
  go_enter Tryz.func10, Tryz.ntmps10
  go_wp2_with fail
  refine (H.out _ (HK.out.below HT.out.below)).mono ?_
  rintro _ w1 ⟨rfl, hb1⟩
  have HB := Lib.hid (HT.out.below.trans (hb1.mono HT.out.below.size))
  clear hb1
  go_wp2_with fail
  go_ret
  exact ⟨rfl, HB.out⟩
end Go.Proofs.YtlbaockipeojhaaGreat
