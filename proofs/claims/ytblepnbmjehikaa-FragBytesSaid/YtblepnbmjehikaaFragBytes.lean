/-
  Bytes that were put in wait, or are in a message that was told: any pieces.
-/
import Derived.Test.YtblepnbmjehikaaLift
import Derived.Test.YtblepnbmjehikaaSo
import Derived.Deep.CutBlock
import Derived.Deep.CutRange
import Derived.Deep.Cut
namespace Go.Proofs.Ytblepnbmjehikaa.fragBytes
open Go.ChangeShapes Go.WideShapes Go.ChangeAt Go.RowKit
set_option linter.unusedVariables false
set_option linter.unusedSimpArgs false
set_option maxRecDepth 100000

set_option maxHeartbeats 16000000 in
theorem walk (l : List Pc) (v : Value) (w : World) (h : RowP w v l) : Calls Try.prog 6 #[v] w fun e w' => e = .returned (.bool true) ∧ Below w.heap.size w w' := by
  have HSH := Lib.hid shown_any
  have HV := Lib.hid h
  have HSM := Lib.hid (fun V W h => small_any l V W h)
  have HB := Lib.hid (Below.refl w.heap.size w)
  obtain ⟨A0, cap0, rfl, _, hmx0, _⟩ := id h
  have hmxI : (l.length : Int) ≤ 9223372036854775807 := by unfold maxLen at hmx0; omega
  clear h
  cases hsm : smallB l with
  | false =>
    rw [hsm] at HSM
    go_enter Try.func6, Try.ntmps6
    go_wp2_with (first
      | (go_at_call 9; (with_reducible refine (HSH.out _).mono ?_); rintro e w1 ⟨rfl, hb⟩; replace HB := Lib.hid (HB.out.trans (hb.mono HB.out.size)); clear hb)
      | (go_at_call 13; (with_reducible refine (HSM.out _ _ (HV.out.below HB.out)).mono ?_); rintro e w2 ⟨rfl, rfl⟩))
    go_ret
    exact ⟨rfl, HB.out⟩
  | true =>
    rw [hsm] at HSM
    obtain ⟨h60, hea⟩ := small_long hsm
    have HIN := Lib.hid (bag_inv hsm)
    have HNX := Lib.hid (bagL_next l)
    have HEA := Lib.hid hea
    clear hea hsm
    go_enter Try.func6, Try.ntmps6
    go_wp2_with (first
      | (go_at_call 9; (with_reducible refine (HSH.out _).mono ?_); rintro e w1 ⟨rfl, hb⟩; replace HB := Lib.hid (HB.out.trans (hb.mono HB.out.size)); clear hb)
      | (go_at_call 13; (with_reducible refine (HSM.out _ _ (HV.out.below HB.out)).mono ?_); rintro e w2 ⟨rfl, rfl⟩; obtain ⟨W9, hW9, HQ0, HB9, hs9⟩ := one_open w2 32 #[.slice none 0 0]; obtain ⟨g5, hg5⟩ : ∃ g, w2.heap.size = g := ⟨_, rfl⟩; rw [hg5] at HQ0)
      | ((with_reducible refine gate9 ?_); refine stB (ty := 32) #[.slice none 0 0] rfl rfl rfl rfl HQ0.out infoB rfl (cellsB_one _ _ _) ?_; intro w3 ht hg; replace HB9 := Lib.hid (below_of_grown1 HB9.out hg HB9.out.size (Nat.le_of_eq hg5)); replace HQ0 := Lib.hid ht; have hwg : w.heap.size ≤ g5 := (by have := HB.out.size; omega); replace HB := Lib.hid (HB.out.trans (HB9.out.mono HB.out.size)); clear ht hg HB9))
    clear hW9 hs9 hg5
    have HBA : Hid (BAt g5 (bagL (l.take 0)) w3) := Lib.hid ⟨none, 0, HQ0.out, RowP.nil _⟩
    clear HQ0
    go_loopw [6, 7, 8] (fun v6 v7 i wr => ∃ j inn ou : Nat, j ≤ l.length ∧ v6 = .int .i64 (inn : Int) ∧ v7 = .int .i64 (ou : Int) ∧ i = .int .i64 j ∧ Hid (inn = ou + bytesL (bagL (l.take j)) ∧ inn ≤ 1000 * j) ∧ Hid (BAt g5 (bagL (l.take j)) wr) ∧ Hid (Below w.heap.size w wr))
      (fun _ _ i _ => l.length - (intOf i).toNat)
    case atStart => exact ⟨0, 0, 0, Nat.zero_le _, rfl, rfl, rfl, Lib.hid ⟨rfl, Nat.le_refl _⟩, HBA, HB⟩
    case round =>
      clear HBA HB
      obtain ⟨j, inn, ou, hj, rfl, rfl, rfl, HIO, HBA, HB⟩ := hrel
      have hgs := HBA.out.lt
      have hij := HIN.out j hj
      by_cases hlt : j < l.length
      · obtain ⟨A, k, hbx, hrow⟩ := HBA.out
        have HQ := Lib.hid hbx
        have HRS := Lib.hid hrow
        clear hbx hrow HBA
        obtain ⟨b, off, cap', e9, hbw0, hc1, hc2, hrg⟩ := HV.out.at hlt
        cases e9
        have HRG := Lib.hid (range_below hrg hbw0 HB.out)
        have hbw : b < wr.heap.size := by have := HB.out.size; omega
        have hxs := HEA.out _ (List.getElem_mem hlt)
        have hb1 := hij.len
        have hb2 := hij.by'
        have HPU := Lib.hid (fun V W h => put_anyE (bagL (l.take j)) (by omega) hij.ok (l[j]'hlt) (by omega) V W h)
        have hpi := hij.put (by omega) hxs
        have HBY := Lib.hid (fun V W h => bytes_any (putP (bagL (l.take j)) (l[j]'hlt)).1 (by have := hpi.len; omega) (by have := hpi.by'; omega) V W h)
        obtain ⟨pb1, pb2, pb3⟩ := putP_bytes l[j] hij.ok (by omega)
        have hyl := hpi.len
        have hyb := hpi.by'
        have HN := Lib.hid (HNX.out j hlt)
        have HRX := Lib.hid hrg
        have q0 : (0 : Int) ≤ (j : Int) := by omega
        have q1 : (j : Int) < (l.length : Int) := by omega
        clear hrg hij hpi
        generalize l[j] = x at *
        generalize bagL (l.take j) = Bg at *
        generalize (putP Bg x).1 = Y at *
        generalize (putP Bg x).2 = ox at *
        generalize ox.getD zeroMg = mo at *
        generalize hyb2 : ox.isSome = yb at *
        clear hyb2
        obtain ⟨ms, hms⟩ : ∃ z, mo.tx.size = z := ⟨_, rfl⟩
        rw [hms] at pb1 pb3
        have HMS := Lib.hid hms
        go_wp2_with fail
        go_cut [9, 10, 11] from 29 (fun v9 v10 v11 wx => ∃ (ga gb : Nat) (A2 : Option Addr) (k2 : Nat), v9 = .pointer (some ⟨ga, 0, none⟩) ∧ v10 = .pointer (some ⟨gb, 0, none⟩) ∧ v11 = .bool yb ∧ Hid (Bx wx ga 32 #[.slice A2 Y.length k2] ∧ Bx wx gb 39 (cellsMg mo) ∧ Bx wx g5 32 #[.slice A Bg.length k] ∧ RowP wx (.slice A2 Y.length k2) Y ∧ Fresh (g5 + 1) (.slice A2 Y.length k2) ∧ Below wr.heap.size wr wx))
        case first =>
            clear pb1 pb2 pb3 hms
            have HS : (fun V => Bx V g5 32 #[.slice A Bg.length k] ∧ Below wr.heap.size wr V) wr.drew := ⟨HQ.out.drew, below_drawn (Below.refl _ _)⟩
            refine wp_region_noPanic ?_
            refine wp_region_waits (S := (fun V => Bx V g5 32 #[.slice A Bg.length k] ∧ Below wr.heap.size wr V)) [14] (by kernel_rfl) HS (fun hHeld => ?_)
            clear HS
            refine wpAnyW_take (i := 0) (v := _) (by simp only [List.getElem?_toArray, List.getElem?_cons_zero]; rfl) (by kernel_rfl) (by kernel_rfl) (by kernel_rfl) (by kernel_rfl) (by kernel_rfl) (fun _ _ _ h => h) (yB (ty := 32) (by rfl) rfl rfl (fun V h => h.1) Try.underlying32 rfl infoB) (by assumption) ?_
            try simp only [Act.put, List.setIfInBounds_toArray, List.set_cons_zero, List.set_cons_succ]
            refine wpAnyW_take (i := 1) (v := ?_) (by simp only [List.getElem?_toArray, List.getElem?_cons_succ, List.getElem?_cons_zero]; rfl) (by kernel_rfl) (by kernel_rfl) (by kernel_rfl) (by kernel_rfl) (by kernel_rfl) (fun _ _ _ h => h) (Or.inl ⟨by rfl, ?_⟩) (by assumption) ?_
            rotate_left 1
            · (intro w' hSw; go_simp; try with_reducible rfl)
            try simp only [Act.put, List.setIfInBounds_toArray, List.set_cons_zero, List.set_cons_succ]
            refine wpAnyW_take (i := 2) (v := ?_) (by simp only [List.getElem?_toArray, List.getElem?_cons_succ, List.getElem?_cons_zero]; rfl) (by kernel_rfl) (by kernel_rfl) (by kernel_rfl) (by kernel_rfl) (by kernel_rfl) (fun _ _ _ h => h) (Or.inl ⟨by rfl, ?_⟩) (by assumption) ?_
            rotate_left 1
            · (intro w' hSw; go_simp; try with_reducible rfl)
            try simp only [Act.put, List.setIfInBounds_toArray, List.set_cons_zero, List.set_cons_succ]
            refine wpAnyW_take (i := 3) (v := ?_) (by simp only [List.getElem?_toArray, List.getElem?_cons_succ, List.getElem?_cons_zero]; rfl) (by kernel_rfl) (by kernel_rfl) (by kernel_rfl) (by kernel_rfl) (by kernel_rfl) (fun _ _ _ h => h) (Or.inl ⟨by rfl, ?_⟩) (by assumption) ?_
            rotate_left 1
            · (intro w' hSw; go_simp; try with_reducible rfl)
            try simp only [Act.put, List.setIfInBounds_toArray, List.set_cons_zero, List.set_cons_succ]
            refine wpAnyW_take (i := 4) (v := _) (by simp only [List.getElem?_toArray, List.getElem?_cons_succ, List.getElem?_cons_zero]; rfl) (by kernel_rfl) (by kernel_rfl) (by kernel_rfl) (by kernel_rfl) (by kernel_rfl) (fun _ _ _ h => h) (yPc (ty := 43) (by rfl) rfl rfl (fun V h => range_below HRG.out hbw h.2) Try.underlying43 rfl infoP) (by assumption) ?_
            try simp only [Act.put, List.setIfInBounds_toArray, List.set_cons_zero, List.set_cons_succ]
            refine wpAnyW_three (i := 5) (i2 := 10) (i3 := 11) (by kernel_rfl) (by simp only [List.getElem?_toArray, List.getElem?_cons_succ, List.getElem?_cons_zero]; rfl) (by simp only [List.getElem?_toArray, List.getElem?_cons_succ, List.getElem?_cons_zero]; rfl) (by simp only [List.getElem?_toArray, List.getElem?_cons_succ, List.getElem?_cons_zero]; rfl) (fun K hK => ?_) (fun K hK => ?_) (fun K hK => ?_)
            · rw [if_pos (by rfl)]
              go_simp
              refine (HPU.out _ _ (HRS.out.below hHeld.2)).mono ?_
              rintro _ u5 ⟨A5, k5, rfl, hr, hf, hb⟩
              have HS : (fun V => Bx V g5 32 #[.slice A Bg.length k] ∧ Below wr.heap.size wr V) _ := ⟨hHeld.1.later hb, hHeld.2.trans (hb.mono hHeld.2.size)⟩
              have HR5 := Lib.hid hr
              have HF5 := Lib.hid (hf.less (show g5 + 1 ≤ _ by have := hHeld.2.size; omega))
              clear hHeld hr hf hb
              go_wp2_with fail
              refine hK.out _ _ HS (fun hHeld => ?_)
              clear hK K HS
              try simp only [Act.put, List.setIfInBounds_toArray, List.set_cons_zero, List.set_cons_succ]
              refine wpAnyW_take (i := 6) (v := ?_) (by simp only [List.getElem?_toArray, List.getElem?_cons_succ, List.getElem?_cons_zero]; rfl) (by kernel_rfl) (by kernel_rfl) (by kernel_rfl) (by kernel_rfl) (by kernel_rfl) (fun _ _ _ h => h) (Or.inl ⟨by rfl, ?_⟩) (by assumption) ?_
              rotate_left 1
              · (intro w' hSw; go_simp; try with_reducible rfl)
              try simp only [Act.put, List.setIfInBounds_toArray, List.set_cons_zero, List.set_cons_succ]
              refine wpAnyW_take (i := 7) (v := ?_) (by simp only [List.getElem?_toArray, List.getElem?_cons_succ, List.getElem?_cons_zero]; rfl) (by kernel_rfl) (by kernel_rfl) (by kernel_rfl) (by kernel_rfl) (by kernel_rfl) (fun _ _ _ h => h) (Or.inl ⟨by rfl, ?_⟩) (by assumption) ?_
              rotate_left 1
              · (intro w' hSw; go_simp; try with_reducible rfl)
              try simp only [Act.put, List.setIfInBounds_toArray, List.set_cons_zero, List.set_cons_succ]
              refine wpAnyW_take (i := 8) (v := ?_) (by simp only [List.getElem?_toArray, List.getElem?_cons_succ, List.getElem?_cons_zero]; rfl) (by kernel_rfl) (by kernel_rfl) (by kernel_rfl) (by kernel_rfl) (by kernel_rfl) (fun _ _ _ h => h) (Or.inl ⟨by rfl, ?_⟩) (by assumption) ?_
              rotate_left 1
              · (intro w' hSw; go_simp; try with_reducible rfl)
              try simp only [Act.put, List.setIfInBounds_toArray, List.set_cons_zero, List.set_cons_succ]
              refine wpAnyW_take (i := 9) (v := ?_) (by simp only [List.getElem?_toArray, List.getElem?_cons_succ, List.getElem?_cons_zero]; rfl) (by kernel_rfl) (by kernel_rfl) (by kernel_rfl) (by kernel_rfl) (by kernel_rfl) (fun _ _ _ h => h) (Or.inl ⟨by rfl, ?_⟩) (by assumption) ?_
              rotate_left 1
              · (intro w' hSw; go_simp; try with_reducible rfl)
              try simp only [Act.put, List.setIfInBounds_toArray, List.set_cons_zero, List.set_cons_succ]
              refine wpAnyW_two (i := 10) (i2 := 11) (by kernel_rfl) (by simp only [List.getElem?_toArray, List.getElem?_cons_succ, List.getElem?_cons_zero]; rfl) (by simp only [List.getElem?_toArray, List.getElem?_cons_succ, List.getElem?_cons_zero]; rfl) (fun K hK => ?_) (fun K hK => ?_)
              · rw [if_pos (by rfl)]
                obtain ⟨v1, hv1, HXa, HBv1, hsv1⟩ := one_open u5 32 #[.slice none 0 0]
                obtain ⟨ga, hga⟩ : ∃ g, u5.heap.size = g := ⟨_, rfl⟩
                rw [hga] at HXa hsv1
                have HS : (fun V => Bx V g5 32 #[.slice A Bg.length k] ∧ Below wr.heap.size wr V) _ := ⟨hHeld.1.later HBv1.out, hHeld.2.trans (HBv1.out.mono hHeld.2.size)⟩
                have hzga : wr.heap.size ≤ ga := by have := hHeld.2.size; omega
                have HNga := Lib.hid (Apart.new HR5.out (Nat.le_of_eq hga))
                replace HR5 := Lib.hid (RowP.below HR5.out HBv1.out)
                clear hHeld HBv1 hsv1
                go_simp
                refine hK.out _ _ HS (fun hHeld => ?_)
                clear hK K HS
                try simp only [Act.put, List.setIfInBounds_toArray, List.set_cons_zero, List.set_cons_succ]
                clear hga
                refine wpAnyW_held (i := 11) (by kernel_rfl) (by simp only [List.getElem?_toArray, List.getElem?_cons_succ, List.getElem?_cons_zero]; rfl) (fun K hK => ?_)
                rw [if_pos (by rfl)]
                obtain ⟨v2, hv2, HXb, HBv2, hsv2⟩ := one_open v1 39 #[.int .u32 0, .bool false, .int .u16 0, .int .u16 0, .int .u32 0, .string ⟨#[]⟩]
                obtain ⟨gb, hgb⟩ : ∃ g, v1.heap.size = g := ⟨_, rfl⟩
                rw [hgb] at HXb hsv2
                have HS : (fun V => Bx V g5 32 #[.slice A Bg.length k] ∧ Below wr.heap.size wr V) _ := ⟨hHeld.1.later HBv2.out, hHeld.2.trans (HBv2.out.mono hHeld.2.size)⟩
                have hzgb : wr.heap.size ≤ gb := by have := hHeld.2.size; omega
                have HNgb := Lib.hid (Apart.new HR5.out (Nat.le_of_eq hgb))
                replace HR5 := Lib.hid (RowP.below HR5.out HBv2.out)
                have hneab : ga ≠ gb := by have := HXa.out.lt; omega
                replace HXa := Lib.hid (HXa.out.later HBv2.out)
                clear hHeld HBv2 hsv2
                go_simp
                refine hK.out _ _ HS (fun hHeld => ?_)
                clear hK K HS
                try simp only [Act.put, List.setIfInBounds_toArray, List.set_cons_zero, List.set_cons_succ]
                clear hgb
                refine wpAnyW_held (i := 12) (by kernel_rfl) (by simp only [List.getElem?_toArray, List.getElem?_cons_succ, List.getElem?_cons_zero]; rfl) (fun K hK => ?_)
                rw [if_pos (by rfl)]
                refine wpB (ty := 32) #[.slice A5 Y.length k5] rfl rfl rfl HXa.out infoB rfl (cellsB_one _ _ _) ?_
                intro y1 ht hg
                have HS : (fun V => Bx V g5 32 #[.slice A Bg.length k] ∧ Below wr.heap.size wr V) _ := ⟨hHeld.1.kept hg (by omega), below_of_grown1 hHeld.2 hg hHeld.2.size hzga⟩
                replace HXb := Lib.hid (HXb.out.kept hg (by omega))
                replace HR5 := Lib.hid (RowP.keptA HR5.out HNga.out hg)
                replace HXa := Lib.hid ht
                clear ht hg hHeld
                refine hK.out _ _ HS (fun hHeld => ?_)
                clear hK K HS
                try simp only [Act.put, List.setIfInBounds_toArray, List.set_cons_zero, List.set_cons_succ]
                refine wpAnyW_held (i := 13) (by kernel_rfl) (by simp only [List.getElem?_toArray, List.getElem?_cons_succ, List.getElem?_cons_zero]; rfl) (fun K hK => ?_)
                rw [if_pos (by rfl)]
                refine wpB (ty := 39) (cellsMg mo) rfl rfl rfl HXb.out infoM rfl (cellsMg_one _) ?_
                intro y2 ht hg
                have HS : (fun V => Bx V g5 32 #[.slice A Bg.length k] ∧ Below wr.heap.size wr V) _ := ⟨hHeld.1.kept hg (by omega), below_of_grown1 hHeld.2 hg hHeld.2.size hzgb⟩
                replace HXa := Lib.hid (HXa.out.kept hg (by omega))
                replace HR5 := Lib.hid (RowP.keptA HR5.out HNgb.out hg)
                replace HXb := Lib.hid ht
                clear ht hg hHeld
                refine hK.out _ _ HS (fun hHeld => ?_)
                clear hK K HS
                try simp only [Act.put, List.setIfInBounds_toArray, List.set_cons_zero, List.set_cons_succ]
                refine wpAnyW_freed (i := 14) (by kernel_rfl) (by kernel_rfl) (by simp only [List.getElem?_toArray, List.getElem?_cons_succ, List.getElem?_cons_zero]; rfl) (fun K hK => ?_)
                rw [if_pos (by rfl)]
                go_simp
                have HE := Lib.hid hHeld
                refine hK.out _ _ ?_
                clear hK K hHeld
                try simp only [Act.put, List.setIfInBounds_toArray, List.set_cons_zero, List.set_cons_succ]
                refine wpAnyW_done (by kernel_rfl) ?_ _
                refine NoPanic.normal ?_
                go_wp2_with fail
                go_meet
                exact ⟨ga, gb, A5, k5, rfl, rfl, rfl, Lib.hid ⟨HXa.out, HXb.out, HE.out.1, HR5.out, HF5.out, HE.out.2⟩⟩
              · rw [if_pos (by rfl)]
                obtain ⟨v1, hv1, HXb, HBv1, hsv1⟩ := one_open u5 39 #[.int .u32 0, .bool false, .int .u16 0, .int .u16 0, .int .u32 0, .string ⟨#[]⟩]
                obtain ⟨gb, hgb⟩ : ∃ g, u5.heap.size = g := ⟨_, rfl⟩
                rw [hgb] at HXb hsv1
                have HS : (fun V => Bx V g5 32 #[.slice A Bg.length k] ∧ Below wr.heap.size wr V) _ := ⟨hHeld.1.later HBv1.out, hHeld.2.trans (HBv1.out.mono hHeld.2.size)⟩
                have hzgb : wr.heap.size ≤ gb := by have := hHeld.2.size; omega
                have HNgb := Lib.hid (Apart.new HR5.out (Nat.le_of_eq hgb))
                replace HR5 := Lib.hid (RowP.below HR5.out HBv1.out)
                clear hHeld HBv1 hsv1
                go_simp
                refine hK.out _ _ HS (fun hHeld => ?_)
                clear hK K HS
                try simp only [Act.put, List.setIfInBounds_toArray, List.set_cons_zero, List.set_cons_succ]
                clear hgb
                refine wpAnyW_held (i := 10) (by kernel_rfl) (by simp only [List.getElem?_toArray, List.getElem?_cons_succ, List.getElem?_cons_zero]; rfl) (fun K hK => ?_)
                rw [if_pos (by rfl)]
                obtain ⟨v2, hv2, HXa, HBv2, hsv2⟩ := one_open v1 32 #[.slice none 0 0]
                obtain ⟨ga, hga⟩ : ∃ g, v1.heap.size = g := ⟨_, rfl⟩
                rw [hga] at HXa hsv2
                have HS : (fun V => Bx V g5 32 #[.slice A Bg.length k] ∧ Below wr.heap.size wr V) _ := ⟨hHeld.1.later HBv2.out, hHeld.2.trans (HBv2.out.mono hHeld.2.size)⟩
                have hzga : wr.heap.size ≤ ga := by have := hHeld.2.size; omega
                have HNga := Lib.hid (Apart.new HR5.out (Nat.le_of_eq hga))
                replace HR5 := Lib.hid (RowP.below HR5.out HBv2.out)
                have hneab : gb ≠ ga := by have := HXb.out.lt; omega
                replace HXb := Lib.hid (HXb.out.later HBv2.out)
                clear hHeld HBv2 hsv2
                go_simp
                refine hK.out _ _ HS (fun hHeld => ?_)
                clear hK K HS
                try simp only [Act.put, List.setIfInBounds_toArray, List.set_cons_zero, List.set_cons_succ]
                clear hga
                refine wpAnyW_held (i := 12) (by kernel_rfl) (by simp only [List.getElem?_toArray, List.getElem?_cons_succ, List.getElem?_cons_zero]; rfl) (fun K hK => ?_)
                rw [if_pos (by rfl)]
                refine wpB (ty := 32) #[.slice A5 Y.length k5] rfl rfl rfl HXa.out infoB rfl (cellsB_one _ _ _) ?_
                intro y1 ht hg
                have HS : (fun V => Bx V g5 32 #[.slice A Bg.length k] ∧ Below wr.heap.size wr V) _ := ⟨hHeld.1.kept hg (by omega), below_of_grown1 hHeld.2 hg hHeld.2.size hzga⟩
                replace HXb := Lib.hid (HXb.out.kept hg (by omega))
                replace HR5 := Lib.hid (RowP.keptA HR5.out HNga.out hg)
                replace HXa := Lib.hid ht
                clear ht hg hHeld
                refine hK.out _ _ HS (fun hHeld => ?_)
                clear hK K HS
                try simp only [Act.put, List.setIfInBounds_toArray, List.set_cons_zero, List.set_cons_succ]
                refine wpAnyW_held (i := 13) (by kernel_rfl) (by simp only [List.getElem?_toArray, List.getElem?_cons_succ, List.getElem?_cons_zero]; rfl) (fun K hK => ?_)
                rw [if_pos (by rfl)]
                refine wpB (ty := 39) (cellsMg mo) rfl rfl rfl HXb.out infoM rfl (cellsMg_one _) ?_
                intro y2 ht hg
                have HS : (fun V => Bx V g5 32 #[.slice A Bg.length k] ∧ Below wr.heap.size wr V) _ := ⟨hHeld.1.kept hg (by omega), below_of_grown1 hHeld.2 hg hHeld.2.size hzgb⟩
                replace HXa := Lib.hid (HXa.out.kept hg (by omega))
                replace HR5 := Lib.hid (RowP.keptA HR5.out HNgb.out hg)
                replace HXb := Lib.hid ht
                clear ht hg hHeld
                refine hK.out _ _ HS (fun hHeld => ?_)
                clear hK K HS
                try simp only [Act.put, List.setIfInBounds_toArray, List.set_cons_zero, List.set_cons_succ]
                refine wpAnyW_freed (i := 14) (by kernel_rfl) (by kernel_rfl) (by simp only [List.getElem?_toArray, List.getElem?_cons_succ, List.getElem?_cons_zero]; rfl) (fun K hK => ?_)
                rw [if_pos (by rfl)]
                go_simp
                have HE := Lib.hid hHeld
                refine hK.out _ _ ?_
                clear hK K hHeld
                try simp only [Act.put, List.setIfInBounds_toArray, List.set_cons_zero, List.set_cons_succ]
                refine wpAnyW_done (by kernel_rfl) ?_ _
                refine NoPanic.normal ?_
                go_wp2_with fail
                go_meet
                exact ⟨ga, gb, A5, k5, rfl, rfl, rfl, Lib.hid ⟨HXa.out, HXb.out, HE.out.1, HR5.out, HF5.out, HE.out.2⟩⟩
            · rw [if_pos (by rfl)]
              obtain ⟨v0, hv0, HXa, HBv0, hsv0⟩ := one_open wr.drew 32 #[.slice none 0 0]
              obtain ⟨ga, hga⟩ : ∃ g, wr.drew.heap.size = g := ⟨_, rfl⟩
              rw [hga] at HXa hsv0
              have HS : (fun V => Bx V g5 32 #[.slice A Bg.length k] ∧ Below wr.heap.size wr V) _ := ⟨hHeld.1.later HBv0.out, hHeld.2.trans (HBv0.out.mono hHeld.2.size)⟩
              have hzga : wr.heap.size ≤ ga := by have := hHeld.2.size; omega
              clear hHeld HBv0 hsv0
              go_simp
              refine hK.out _ _ HS (fun hHeld => ?_)
              clear hK K HS
              try simp only [Act.put, List.setIfInBounds_toArray, List.set_cons_zero, List.set_cons_succ]
              clear hga
              refine wpAnyW_two (i := 5) (i2 := 11) (by kernel_rfl) (by simp only [List.getElem?_toArray, List.getElem?_cons_succ, List.getElem?_cons_zero]; rfl) (by simp only [List.getElem?_toArray, List.getElem?_cons_succ, List.getElem?_cons_zero]; rfl) (fun K hK => ?_) (fun K hK => ?_)
              · rw [if_pos (by rfl)]
                go_simp
                refine (HPU.out _ _ (HRS.out.below hHeld.2)).mono ?_
                rintro _ u5 ⟨A5, k5, rfl, hr, hf, hb⟩
                have HS : (fun V => Bx V g5 32 #[.slice A Bg.length k] ∧ Below wr.heap.size wr V) _ := ⟨hHeld.1.later hb, hHeld.2.trans (hb.mono hHeld.2.size)⟩
                have HR5 := Lib.hid hr
                have HNga := Lib.hid (Apart.freshOf hr hf (show ga < _ by have := HXa.out.lt; omega))
                replace HXa := Lib.hid (HXa.out.later hb)
                have HF5 := Lib.hid (hf.less (show g5 + 1 ≤ _ by have := hHeld.2.size; omega))
                clear hHeld hr hf hb
                go_wp2_with fail
                refine hK.out _ _ HS (fun hHeld => ?_)
                clear hK K HS
                try simp only [Act.put, List.setIfInBounds_toArray, List.set_cons_zero, List.set_cons_succ]
                refine wpAnyW_take (i := 6) (v := ?_) (by simp only [List.getElem?_toArray, List.getElem?_cons_succ, List.getElem?_cons_zero]; rfl) (by kernel_rfl) (by kernel_rfl) (by kernel_rfl) (by kernel_rfl) (by kernel_rfl) (fun _ _ _ h => h) (Or.inl ⟨by rfl, ?_⟩) (by assumption) ?_
                rotate_left 1
                · (intro w' hSw; go_simp; try with_reducible rfl)
                try simp only [Act.put, List.setIfInBounds_toArray, List.set_cons_zero, List.set_cons_succ]
                refine wpAnyW_take (i := 7) (v := ?_) (by simp only [List.getElem?_toArray, List.getElem?_cons_succ, List.getElem?_cons_zero]; rfl) (by kernel_rfl) (by kernel_rfl) (by kernel_rfl) (by kernel_rfl) (by kernel_rfl) (fun _ _ _ h => h) (Or.inl ⟨by rfl, ?_⟩) (by assumption) ?_
                rotate_left 1
                · (intro w' hSw; go_simp; try with_reducible rfl)
                try simp only [Act.put, List.setIfInBounds_toArray, List.set_cons_zero, List.set_cons_succ]
                refine wpAnyW_take (i := 8) (v := ?_) (by simp only [List.getElem?_toArray, List.getElem?_cons_succ, List.getElem?_cons_zero]; rfl) (by kernel_rfl) (by kernel_rfl) (by kernel_rfl) (by kernel_rfl) (by kernel_rfl) (fun _ _ _ h => h) (Or.inl ⟨by rfl, ?_⟩) (by assumption) ?_
                rotate_left 1
                · (intro w' hSw; go_simp; try with_reducible rfl)
                try simp only [Act.put, List.setIfInBounds_toArray, List.set_cons_zero, List.set_cons_succ]
                refine wpAnyW_take (i := 9) (v := ?_) (by simp only [List.getElem?_toArray, List.getElem?_cons_succ, List.getElem?_cons_zero]; rfl) (by kernel_rfl) (by kernel_rfl) (by kernel_rfl) (by kernel_rfl) (by kernel_rfl) (fun _ _ _ h => h) (Or.inl ⟨by rfl, ?_⟩) (by assumption) ?_
                rotate_left 1
                · (intro w' hSw; go_simp; try with_reducible rfl)
                try simp only [Act.put, List.setIfInBounds_toArray, List.set_cons_zero, List.set_cons_succ]
                refine wpAnyW_held (i := 11) (by kernel_rfl) (by simp only [List.getElem?_toArray, List.getElem?_cons_succ, List.getElem?_cons_zero]; rfl) (fun K hK => ?_)
                rw [if_pos (by rfl)]
                obtain ⟨v2, hv2, HXb, HBv2, hsv2⟩ := one_open u5 39 #[.int .u32 0, .bool false, .int .u16 0, .int .u16 0, .int .u32 0, .string ⟨#[]⟩]
                obtain ⟨gb, hgb⟩ : ∃ g, u5.heap.size = g := ⟨_, rfl⟩
                rw [hgb] at HXb hsv2
                have HS : (fun V => Bx V g5 32 #[.slice A Bg.length k] ∧ Below wr.heap.size wr V) _ := ⟨hHeld.1.later HBv2.out, hHeld.2.trans (HBv2.out.mono hHeld.2.size)⟩
                have hzgb : wr.heap.size ≤ gb := by have := hHeld.2.size; omega
                have HNgb := Lib.hid (Apart.new HR5.out (Nat.le_of_eq hgb))
                replace HR5 := Lib.hid (RowP.below HR5.out HBv2.out)
                have hneab : ga ≠ gb := by have := HXa.out.lt; omega
                replace HXa := Lib.hid (HXa.out.later HBv2.out)
                clear hHeld HBv2 hsv2
                go_simp
                refine hK.out _ _ HS (fun hHeld => ?_)
                clear hK K HS
                try simp only [Act.put, List.setIfInBounds_toArray, List.set_cons_zero, List.set_cons_succ]
                clear hgb
                refine wpAnyW_held (i := 12) (by kernel_rfl) (by simp only [List.getElem?_toArray, List.getElem?_cons_succ, List.getElem?_cons_zero]; rfl) (fun K hK => ?_)
                rw [if_pos (by rfl)]
                refine wpB (ty := 32) #[.slice A5 Y.length k5] rfl rfl rfl HXa.out infoB rfl (cellsB_one _ _ _) ?_
                intro y1 ht hg
                have HS : (fun V => Bx V g5 32 #[.slice A Bg.length k] ∧ Below wr.heap.size wr V) _ := ⟨hHeld.1.kept hg (by omega), below_of_grown1 hHeld.2 hg hHeld.2.size hzga⟩
                replace HXb := Lib.hid (HXb.out.kept hg (by omega))
                replace HR5 := Lib.hid (RowP.keptA HR5.out HNga.out hg)
                replace HXa := Lib.hid ht
                clear ht hg hHeld
                refine hK.out _ _ HS (fun hHeld => ?_)
                clear hK K HS
                try simp only [Act.put, List.setIfInBounds_toArray, List.set_cons_zero, List.set_cons_succ]
                refine wpAnyW_held (i := 13) (by kernel_rfl) (by simp only [List.getElem?_toArray, List.getElem?_cons_succ, List.getElem?_cons_zero]; rfl) (fun K hK => ?_)
                rw [if_pos (by rfl)]
                refine wpB (ty := 39) (cellsMg mo) rfl rfl rfl HXb.out infoM rfl (cellsMg_one _) ?_
                intro y2 ht hg
                have HS : (fun V => Bx V g5 32 #[.slice A Bg.length k] ∧ Below wr.heap.size wr V) _ := ⟨hHeld.1.kept hg (by omega), below_of_grown1 hHeld.2 hg hHeld.2.size hzgb⟩
                replace HXa := Lib.hid (HXa.out.kept hg (by omega))
                replace HR5 := Lib.hid (RowP.keptA HR5.out HNgb.out hg)
                replace HXb := Lib.hid ht
                clear ht hg hHeld
                refine hK.out _ _ HS (fun hHeld => ?_)
                clear hK K HS
                try simp only [Act.put, List.setIfInBounds_toArray, List.set_cons_zero, List.set_cons_succ]
                refine wpAnyW_freed (i := 14) (by kernel_rfl) (by kernel_rfl) (by simp only [List.getElem?_toArray, List.getElem?_cons_succ, List.getElem?_cons_zero]; rfl) (fun K hK => ?_)
                rw [if_pos (by rfl)]
                go_simp
                have HE := Lib.hid hHeld
                refine hK.out _ _ ?_
                clear hK K hHeld
                try simp only [Act.put, List.setIfInBounds_toArray, List.set_cons_zero, List.set_cons_succ]
                refine wpAnyW_done (by kernel_rfl) ?_ _
                refine NoPanic.normal ?_
                go_wp2_with fail
                go_meet
                exact ⟨ga, gb, A5, k5, rfl, rfl, rfl, Lib.hid ⟨HXa.out, HXb.out, HE.out.1, HR5.out, HF5.out, HE.out.2⟩⟩
              · rw [if_pos (by rfl)]
                obtain ⟨v1, hv1, HXb, HBv1, hsv1⟩ := one_open v0 39 #[.int .u32 0, .bool false, .int .u16 0, .int .u16 0, .int .u32 0, .string ⟨#[]⟩]
                obtain ⟨gb, hgb⟩ : ∃ g, v0.heap.size = g := ⟨_, rfl⟩
                rw [hgb] at HXb hsv1
                have HS : (fun V => Bx V g5 32 #[.slice A Bg.length k] ∧ Below wr.heap.size wr V) _ := ⟨hHeld.1.later HBv1.out, hHeld.2.trans (HBv1.out.mono hHeld.2.size)⟩
                have hzgb : wr.heap.size ≤ gb := by have := hHeld.2.size; omega
                have hneab : ga ≠ gb := by have := HXa.out.lt; omega
                replace HXa := Lib.hid (HXa.out.later HBv1.out)
                clear hHeld HBv1 hsv1
                go_simp
                refine hK.out _ _ HS (fun hHeld => ?_)
                clear hK K HS
                try simp only [Act.put, List.setIfInBounds_toArray, List.set_cons_zero, List.set_cons_succ]
                clear hgb
                refine wpAnyW_held (i := 5) (by kernel_rfl) (by simp only [List.getElem?_toArray, List.getElem?_cons_succ, List.getElem?_cons_zero]; rfl) (fun K hK => ?_)
                rw [if_pos (by rfl)]
                go_simp
                refine (HPU.out _ _ (HRS.out.below hHeld.2)).mono ?_
                rintro _ u5 ⟨A5, k5, rfl, hr, hf, hb⟩
                have HS : (fun V => Bx V g5 32 #[.slice A Bg.length k] ∧ Below wr.heap.size wr V) _ := ⟨hHeld.1.later hb, hHeld.2.trans (hb.mono hHeld.2.size)⟩
                have HR5 := Lib.hid hr
                have HNga := Lib.hid (Apart.freshOf hr hf (show ga < _ by have := HXa.out.lt; omega))
                replace HXa := Lib.hid (HXa.out.later hb)
                have HNgb := Lib.hid (Apart.freshOf hr hf (show gb < _ by have := HXb.out.lt; omega))
                replace HXb := Lib.hid (HXb.out.later hb)
                have HF5 := Lib.hid (hf.less (show g5 + 1 ≤ _ by have := hHeld.2.size; omega))
                clear hHeld hr hf hb
                go_wp2_with fail
                refine hK.out _ _ HS (fun hHeld => ?_)
                clear hK K HS
                try simp only [Act.put, List.setIfInBounds_toArray, List.set_cons_zero, List.set_cons_succ]
                refine wpAnyW_take (i := 6) (v := ?_) (by simp only [List.getElem?_toArray, List.getElem?_cons_succ, List.getElem?_cons_zero]; rfl) (by kernel_rfl) (by kernel_rfl) (by kernel_rfl) (by kernel_rfl) (by kernel_rfl) (fun _ _ _ h => h) (Or.inl ⟨by rfl, ?_⟩) (by assumption) ?_
                rotate_left 1
                · (intro w' hSw; go_simp; try with_reducible rfl)
                try simp only [Act.put, List.setIfInBounds_toArray, List.set_cons_zero, List.set_cons_succ]
                refine wpAnyW_take (i := 7) (v := ?_) (by simp only [List.getElem?_toArray, List.getElem?_cons_succ, List.getElem?_cons_zero]; rfl) (by kernel_rfl) (by kernel_rfl) (by kernel_rfl) (by kernel_rfl) (by kernel_rfl) (fun _ _ _ h => h) (Or.inl ⟨by rfl, ?_⟩) (by assumption) ?_
                rotate_left 1
                · (intro w' hSw; go_simp; try with_reducible rfl)
                try simp only [Act.put, List.setIfInBounds_toArray, List.set_cons_zero, List.set_cons_succ]
                refine wpAnyW_take (i := 8) (v := ?_) (by simp only [List.getElem?_toArray, List.getElem?_cons_succ, List.getElem?_cons_zero]; rfl) (by kernel_rfl) (by kernel_rfl) (by kernel_rfl) (by kernel_rfl) (by kernel_rfl) (fun _ _ _ h => h) (Or.inl ⟨by rfl, ?_⟩) (by assumption) ?_
                rotate_left 1
                · (intro w' hSw; go_simp; try with_reducible rfl)
                try simp only [Act.put, List.setIfInBounds_toArray, List.set_cons_zero, List.set_cons_succ]
                refine wpAnyW_take (i := 9) (v := ?_) (by simp only [List.getElem?_toArray, List.getElem?_cons_succ, List.getElem?_cons_zero]; rfl) (by kernel_rfl) (by kernel_rfl) (by kernel_rfl) (by kernel_rfl) (by kernel_rfl) (fun _ _ _ h => h) (Or.inl ⟨by rfl, ?_⟩) (by assumption) ?_
                rotate_left 1
                · (intro w' hSw; go_simp; try with_reducible rfl)
                try simp only [Act.put, List.setIfInBounds_toArray, List.set_cons_zero, List.set_cons_succ]
                refine wpAnyW_held (i := 12) (by kernel_rfl) (by simp only [List.getElem?_toArray, List.getElem?_cons_succ, List.getElem?_cons_zero]; rfl) (fun K hK => ?_)
                rw [if_pos (by rfl)]
                refine wpB (ty := 32) #[.slice A5 Y.length k5] rfl rfl rfl HXa.out infoB rfl (cellsB_one _ _ _) ?_
                intro y1 ht hg
                have HS : (fun V => Bx V g5 32 #[.slice A Bg.length k] ∧ Below wr.heap.size wr V) _ := ⟨hHeld.1.kept hg (by omega), below_of_grown1 hHeld.2 hg hHeld.2.size hzga⟩
                replace HXb := Lib.hid (HXb.out.kept hg (by omega))
                replace HR5 := Lib.hid (RowP.keptA HR5.out HNga.out hg)
                replace HXa := Lib.hid ht
                clear ht hg hHeld
                refine hK.out _ _ HS (fun hHeld => ?_)
                clear hK K HS
                try simp only [Act.put, List.setIfInBounds_toArray, List.set_cons_zero, List.set_cons_succ]
                refine wpAnyW_held (i := 13) (by kernel_rfl) (by simp only [List.getElem?_toArray, List.getElem?_cons_succ, List.getElem?_cons_zero]; rfl) (fun K hK => ?_)
                rw [if_pos (by rfl)]
                refine wpB (ty := 39) (cellsMg mo) rfl rfl rfl HXb.out infoM rfl (cellsMg_one _) ?_
                intro y2 ht hg
                have HS : (fun V => Bx V g5 32 #[.slice A Bg.length k] ∧ Below wr.heap.size wr V) _ := ⟨hHeld.1.kept hg (by omega), below_of_grown1 hHeld.2 hg hHeld.2.size hzgb⟩
                replace HXa := Lib.hid (HXa.out.kept hg (by omega))
                replace HR5 := Lib.hid (RowP.keptA HR5.out HNgb.out hg)
                replace HXb := Lib.hid ht
                clear ht hg hHeld
                refine hK.out _ _ HS (fun hHeld => ?_)
                clear hK K HS
                try simp only [Act.put, List.setIfInBounds_toArray, List.set_cons_zero, List.set_cons_succ]
                refine wpAnyW_freed (i := 14) (by kernel_rfl) (by kernel_rfl) (by simp only [List.getElem?_toArray, List.getElem?_cons_succ, List.getElem?_cons_zero]; rfl) (fun K hK => ?_)
                rw [if_pos (by rfl)]
                go_simp
                have HE := Lib.hid hHeld
                refine hK.out _ _ ?_
                clear hK K hHeld
                try simp only [Act.put, List.setIfInBounds_toArray, List.set_cons_zero, List.set_cons_succ]
                refine wpAnyW_done (by kernel_rfl) ?_ _
                refine NoPanic.normal ?_
                go_wp2_with fail
                go_meet
                exact ⟨ga, gb, A5, k5, rfl, rfl, rfl, Lib.hid ⟨HXa.out, HXb.out, HE.out.1, HR5.out, HF5.out, HE.out.2⟩⟩
            · rw [if_pos (by rfl)]
              obtain ⟨v0, hv0, HXb, HBv0, hsv0⟩ := one_open wr.drew 39 #[.int .u32 0, .bool false, .int .u16 0, .int .u16 0, .int .u32 0, .string ⟨#[]⟩]
              obtain ⟨gb, hgb⟩ : ∃ g, wr.drew.heap.size = g := ⟨_, rfl⟩
              rw [hgb] at HXb hsv0
              have HS : (fun V => Bx V g5 32 #[.slice A Bg.length k] ∧ Below wr.heap.size wr V) _ := ⟨hHeld.1.later HBv0.out, hHeld.2.trans (HBv0.out.mono hHeld.2.size)⟩
              have hzgb : wr.heap.size ≤ gb := by have := hHeld.2.size; omega
              clear hHeld HBv0 hsv0
              go_simp
              refine hK.out _ _ HS (fun hHeld => ?_)
              clear hK K HS
              try simp only [Act.put, List.setIfInBounds_toArray, List.set_cons_zero, List.set_cons_succ]
              clear hgb
              refine wpAnyW_two (i := 5) (i2 := 10) (by kernel_rfl) (by simp only [List.getElem?_toArray, List.getElem?_cons_succ, List.getElem?_cons_zero]; rfl) (by simp only [List.getElem?_toArray, List.getElem?_cons_succ, List.getElem?_cons_zero]; rfl) (fun K hK => ?_) (fun K hK => ?_)
              · rw [if_pos (by rfl)]
                go_simp
                refine (HPU.out _ _ (HRS.out.below hHeld.2)).mono ?_
                rintro _ u5 ⟨A5, k5, rfl, hr, hf, hb⟩
                have HS : (fun V => Bx V g5 32 #[.slice A Bg.length k] ∧ Below wr.heap.size wr V) _ := ⟨hHeld.1.later hb, hHeld.2.trans (hb.mono hHeld.2.size)⟩
                have HR5 := Lib.hid hr
                have HNgb := Lib.hid (Apart.freshOf hr hf (show gb < _ by have := HXb.out.lt; omega))
                replace HXb := Lib.hid (HXb.out.later hb)
                have HF5 := Lib.hid (hf.less (show g5 + 1 ≤ _ by have := hHeld.2.size; omega))
                clear hHeld hr hf hb
                go_wp2_with fail
                refine hK.out _ _ HS (fun hHeld => ?_)
                clear hK K HS
                try simp only [Act.put, List.setIfInBounds_toArray, List.set_cons_zero, List.set_cons_succ]
                refine wpAnyW_take (i := 6) (v := ?_) (by simp only [List.getElem?_toArray, List.getElem?_cons_succ, List.getElem?_cons_zero]; rfl) (by kernel_rfl) (by kernel_rfl) (by kernel_rfl) (by kernel_rfl) (by kernel_rfl) (fun _ _ _ h => h) (Or.inl ⟨by rfl, ?_⟩) (by assumption) ?_
                rotate_left 1
                · (intro w' hSw; go_simp; try with_reducible rfl)
                try simp only [Act.put, List.setIfInBounds_toArray, List.set_cons_zero, List.set_cons_succ]
                refine wpAnyW_take (i := 7) (v := ?_) (by simp only [List.getElem?_toArray, List.getElem?_cons_succ, List.getElem?_cons_zero]; rfl) (by kernel_rfl) (by kernel_rfl) (by kernel_rfl) (by kernel_rfl) (by kernel_rfl) (fun _ _ _ h => h) (Or.inl ⟨by rfl, ?_⟩) (by assumption) ?_
                rotate_left 1
                · (intro w' hSw; go_simp; try with_reducible rfl)
                try simp only [Act.put, List.setIfInBounds_toArray, List.set_cons_zero, List.set_cons_succ]
                refine wpAnyW_take (i := 8) (v := ?_) (by simp only [List.getElem?_toArray, List.getElem?_cons_succ, List.getElem?_cons_zero]; rfl) (by kernel_rfl) (by kernel_rfl) (by kernel_rfl) (by kernel_rfl) (by kernel_rfl) (fun _ _ _ h => h) (Or.inl ⟨by rfl, ?_⟩) (by assumption) ?_
                rotate_left 1
                · (intro w' hSw; go_simp; try with_reducible rfl)
                try simp only [Act.put, List.setIfInBounds_toArray, List.set_cons_zero, List.set_cons_succ]
                refine wpAnyW_take (i := 9) (v := ?_) (by simp only [List.getElem?_toArray, List.getElem?_cons_succ, List.getElem?_cons_zero]; rfl) (by kernel_rfl) (by kernel_rfl) (by kernel_rfl) (by kernel_rfl) (by kernel_rfl) (fun _ _ _ h => h) (Or.inl ⟨by rfl, ?_⟩) (by assumption) ?_
                rotate_left 1
                · (intro w' hSw; go_simp; try with_reducible rfl)
                try simp only [Act.put, List.setIfInBounds_toArray, List.set_cons_zero, List.set_cons_succ]
                refine wpAnyW_held (i := 10) (by kernel_rfl) (by simp only [List.getElem?_toArray, List.getElem?_cons_succ, List.getElem?_cons_zero]; rfl) (fun K hK => ?_)
                rw [if_pos (by rfl)]
                obtain ⟨v2, hv2, HXa, HBv2, hsv2⟩ := one_open u5 32 #[.slice none 0 0]
                obtain ⟨ga, hga⟩ : ∃ g, u5.heap.size = g := ⟨_, rfl⟩
                rw [hga] at HXa hsv2
                have HS : (fun V => Bx V g5 32 #[.slice A Bg.length k] ∧ Below wr.heap.size wr V) _ := ⟨hHeld.1.later HBv2.out, hHeld.2.trans (HBv2.out.mono hHeld.2.size)⟩
                have hzga : wr.heap.size ≤ ga := by have := hHeld.2.size; omega
                have HNga := Lib.hid (Apart.new HR5.out (Nat.le_of_eq hga))
                replace HR5 := Lib.hid (RowP.below HR5.out HBv2.out)
                have hneab : gb ≠ ga := by have := HXb.out.lt; omega
                replace HXb := Lib.hid (HXb.out.later HBv2.out)
                clear hHeld HBv2 hsv2
                go_simp
                refine hK.out _ _ HS (fun hHeld => ?_)
                clear hK K HS
                try simp only [Act.put, List.setIfInBounds_toArray, List.set_cons_zero, List.set_cons_succ]
                clear hga
                refine wpAnyW_held (i := 12) (by kernel_rfl) (by simp only [List.getElem?_toArray, List.getElem?_cons_succ, List.getElem?_cons_zero]; rfl) (fun K hK => ?_)
                rw [if_pos (by rfl)]
                refine wpB (ty := 32) #[.slice A5 Y.length k5] rfl rfl rfl HXa.out infoB rfl (cellsB_one _ _ _) ?_
                intro y1 ht hg
                have HS : (fun V => Bx V g5 32 #[.slice A Bg.length k] ∧ Below wr.heap.size wr V) _ := ⟨hHeld.1.kept hg (by omega), below_of_grown1 hHeld.2 hg hHeld.2.size hzga⟩
                replace HXb := Lib.hid (HXb.out.kept hg (by omega))
                replace HR5 := Lib.hid (RowP.keptA HR5.out HNga.out hg)
                replace HXa := Lib.hid ht
                clear ht hg hHeld
                refine hK.out _ _ HS (fun hHeld => ?_)
                clear hK K HS
                try simp only [Act.put, List.setIfInBounds_toArray, List.set_cons_zero, List.set_cons_succ]
                refine wpAnyW_held (i := 13) (by kernel_rfl) (by simp only [List.getElem?_toArray, List.getElem?_cons_succ, List.getElem?_cons_zero]; rfl) (fun K hK => ?_)
                rw [if_pos (by rfl)]
                refine wpB (ty := 39) (cellsMg mo) rfl rfl rfl HXb.out infoM rfl (cellsMg_one _) ?_
                intro y2 ht hg
                have HS : (fun V => Bx V g5 32 #[.slice A Bg.length k] ∧ Below wr.heap.size wr V) _ := ⟨hHeld.1.kept hg (by omega), below_of_grown1 hHeld.2 hg hHeld.2.size hzgb⟩
                replace HXa := Lib.hid (HXa.out.kept hg (by omega))
                replace HR5 := Lib.hid (RowP.keptA HR5.out HNgb.out hg)
                replace HXb := Lib.hid ht
                clear ht hg hHeld
                refine hK.out _ _ HS (fun hHeld => ?_)
                clear hK K HS
                try simp only [Act.put, List.setIfInBounds_toArray, List.set_cons_zero, List.set_cons_succ]
                refine wpAnyW_freed (i := 14) (by kernel_rfl) (by kernel_rfl) (by simp only [List.getElem?_toArray, List.getElem?_cons_succ, List.getElem?_cons_zero]; rfl) (fun K hK => ?_)
                rw [if_pos (by rfl)]
                go_simp
                have HE := Lib.hid hHeld
                refine hK.out _ _ ?_
                clear hK K hHeld
                try simp only [Act.put, List.setIfInBounds_toArray, List.set_cons_zero, List.set_cons_succ]
                refine wpAnyW_done (by kernel_rfl) ?_ _
                refine NoPanic.normal ?_
                go_wp2_with fail
                go_meet
                exact ⟨ga, gb, A5, k5, rfl, rfl, rfl, Lib.hid ⟨HXa.out, HXb.out, HE.out.1, HR5.out, HF5.out, HE.out.2⟩⟩
              · rw [if_pos (by rfl)]
                obtain ⟨v1, hv1, HXa, HBv1, hsv1⟩ := one_open v0 32 #[.slice none 0 0]
                obtain ⟨ga, hga⟩ : ∃ g, v0.heap.size = g := ⟨_, rfl⟩
                rw [hga] at HXa hsv1
                have HS : (fun V => Bx V g5 32 #[.slice A Bg.length k] ∧ Below wr.heap.size wr V) _ := ⟨hHeld.1.later HBv1.out, hHeld.2.trans (HBv1.out.mono hHeld.2.size)⟩
                have hzga : wr.heap.size ≤ ga := by have := hHeld.2.size; omega
                have hneab : gb ≠ ga := by have := HXb.out.lt; omega
                replace HXb := Lib.hid (HXb.out.later HBv1.out)
                clear hHeld HBv1 hsv1
                go_simp
                refine hK.out _ _ HS (fun hHeld => ?_)
                clear hK K HS
                try simp only [Act.put, List.setIfInBounds_toArray, List.set_cons_zero, List.set_cons_succ]
                clear hga
                refine wpAnyW_held (i := 5) (by kernel_rfl) (by simp only [List.getElem?_toArray, List.getElem?_cons_succ, List.getElem?_cons_zero]; rfl) (fun K hK => ?_)
                rw [if_pos (by rfl)]
                go_simp
                refine (HPU.out _ _ (HRS.out.below hHeld.2)).mono ?_
                rintro _ u5 ⟨A5, k5, rfl, hr, hf, hb⟩
                have HS : (fun V => Bx V g5 32 #[.slice A Bg.length k] ∧ Below wr.heap.size wr V) _ := ⟨hHeld.1.later hb, hHeld.2.trans (hb.mono hHeld.2.size)⟩
                have HR5 := Lib.hid hr
                have HNgb := Lib.hid (Apart.freshOf hr hf (show gb < _ by have := HXb.out.lt; omega))
                replace HXb := Lib.hid (HXb.out.later hb)
                have HNga := Lib.hid (Apart.freshOf hr hf (show ga < _ by have := HXa.out.lt; omega))
                replace HXa := Lib.hid (HXa.out.later hb)
                have HF5 := Lib.hid (hf.less (show g5 + 1 ≤ _ by have := hHeld.2.size; omega))
                clear hHeld hr hf hb
                go_wp2_with fail
                refine hK.out _ _ HS (fun hHeld => ?_)
                clear hK K HS
                try simp only [Act.put, List.setIfInBounds_toArray, List.set_cons_zero, List.set_cons_succ]
                refine wpAnyW_take (i := 6) (v := ?_) (by simp only [List.getElem?_toArray, List.getElem?_cons_succ, List.getElem?_cons_zero]; rfl) (by kernel_rfl) (by kernel_rfl) (by kernel_rfl) (by kernel_rfl) (by kernel_rfl) (fun _ _ _ h => h) (Or.inl ⟨by rfl, ?_⟩) (by assumption) ?_
                rotate_left 1
                · (intro w' hSw; go_simp; try with_reducible rfl)
                try simp only [Act.put, List.setIfInBounds_toArray, List.set_cons_zero, List.set_cons_succ]
                refine wpAnyW_take (i := 7) (v := ?_) (by simp only [List.getElem?_toArray, List.getElem?_cons_succ, List.getElem?_cons_zero]; rfl) (by kernel_rfl) (by kernel_rfl) (by kernel_rfl) (by kernel_rfl) (by kernel_rfl) (fun _ _ _ h => h) (Or.inl ⟨by rfl, ?_⟩) (by assumption) ?_
                rotate_left 1
                · (intro w' hSw; go_simp; try with_reducible rfl)
                try simp only [Act.put, List.setIfInBounds_toArray, List.set_cons_zero, List.set_cons_succ]
                refine wpAnyW_take (i := 8) (v := ?_) (by simp only [List.getElem?_toArray, List.getElem?_cons_succ, List.getElem?_cons_zero]; rfl) (by kernel_rfl) (by kernel_rfl) (by kernel_rfl) (by kernel_rfl) (by kernel_rfl) (fun _ _ _ h => h) (Or.inl ⟨by rfl, ?_⟩) (by assumption) ?_
                rotate_left 1
                · (intro w' hSw; go_simp; try with_reducible rfl)
                try simp only [Act.put, List.setIfInBounds_toArray, List.set_cons_zero, List.set_cons_succ]
                refine wpAnyW_take (i := 9) (v := ?_) (by simp only [List.getElem?_toArray, List.getElem?_cons_succ, List.getElem?_cons_zero]; rfl) (by kernel_rfl) (by kernel_rfl) (by kernel_rfl) (by kernel_rfl) (by kernel_rfl) (fun _ _ _ h => h) (Or.inl ⟨by rfl, ?_⟩) (by assumption) ?_
                rotate_left 1
                · (intro w' hSw; go_simp; try with_reducible rfl)
                try simp only [Act.put, List.setIfInBounds_toArray, List.set_cons_zero, List.set_cons_succ]
                refine wpAnyW_held (i := 12) (by kernel_rfl) (by simp only [List.getElem?_toArray, List.getElem?_cons_succ, List.getElem?_cons_zero]; rfl) (fun K hK => ?_)
                rw [if_pos (by rfl)]
                refine wpB (ty := 32) #[.slice A5 Y.length k5] rfl rfl rfl HXa.out infoB rfl (cellsB_one _ _ _) ?_
                intro y1 ht hg
                have HS : (fun V => Bx V g5 32 #[.slice A Bg.length k] ∧ Below wr.heap.size wr V) _ := ⟨hHeld.1.kept hg (by omega), below_of_grown1 hHeld.2 hg hHeld.2.size hzga⟩
                replace HXb := Lib.hid (HXb.out.kept hg (by omega))
                replace HR5 := Lib.hid (RowP.keptA HR5.out HNga.out hg)
                replace HXa := Lib.hid ht
                clear ht hg hHeld
                refine hK.out _ _ HS (fun hHeld => ?_)
                clear hK K HS
                try simp only [Act.put, List.setIfInBounds_toArray, List.set_cons_zero, List.set_cons_succ]
                refine wpAnyW_held (i := 13) (by kernel_rfl) (by simp only [List.getElem?_toArray, List.getElem?_cons_succ, List.getElem?_cons_zero]; rfl) (fun K hK => ?_)
                rw [if_pos (by rfl)]
                refine wpB (ty := 39) (cellsMg mo) rfl rfl rfl HXb.out infoM rfl (cellsMg_one _) ?_
                intro y2 ht hg
                have HS : (fun V => Bx V g5 32 #[.slice A Bg.length k] ∧ Below wr.heap.size wr V) _ := ⟨hHeld.1.kept hg (by omega), below_of_grown1 hHeld.2 hg hHeld.2.size hzgb⟩
                replace HXa := Lib.hid (HXa.out.kept hg (by omega))
                replace HR5 := Lib.hid (RowP.keptA HR5.out HNgb.out hg)
                replace HXb := Lib.hid ht
                clear ht hg hHeld
                refine hK.out _ _ HS (fun hHeld => ?_)
                clear hK K HS
                try simp only [Act.put, List.setIfInBounds_toArray, List.set_cons_zero, List.set_cons_succ]
                refine wpAnyW_freed (i := 14) (by kernel_rfl) (by kernel_rfl) (by simp only [List.getElem?_toArray, List.getElem?_cons_succ, List.getElem?_cons_zero]; rfl) (fun K hK => ?_)
                rw [if_pos (by rfl)]
                go_simp
                have HE := Lib.hid hHeld
                refine hK.out _ _ ?_
                clear hK K hHeld
                try simp only [Act.put, List.setIfInBounds_toArray, List.set_cons_zero, List.set_cons_succ]
                refine wpAnyW_done (by kernel_rfl) ?_ _
                refine NoPanic.normal ?_
                go_wp2_with fail
                go_meet
                exact ⟨ga, gb, A5, k5, rfl, rfl, rfl, Lib.hid ⟨HXa.out, HXb.out, HE.out.1, HR5.out, HF5.out, HE.out.2⟩⟩
        case rest =>
          obtain ⟨ga, gb, A2, k2, rfl, rfl, rfl, HH⟩ := hcut
          obtain ⟨ha, hmb, hq5, hr5, hf5, hbb⟩ := HH.out
          have HXA := Lib.hid ha
          have a0 := ha.cell 0 (.slice A2 Y.length k2) rfl
          have b5 := hmb.cell 5 (.string mo.tx) rfl
          have q5 := hq5.cell 0 (.slice A Bg.length k) rfl
          replace HQ := Lib.hid hq5
          have HR5 := Lib.hid hr5
          have HF5 := Lib.hid hf5
          replace HB := Lib.hid (HB.out.trans (hbb.mono HB.out.size))
          have x7 := (range_below HRX.out hbw0 HB.out) 7 (.string x.tx) rfl
          have hgx := hbb.size
          clear ha hmb hq5 hr5 hf5 hbb HH HRS HRX
          generalize hbyY : bytesL Y = bY at *
          generalize hbyB : bytesL Bg = bB at *
          have szI : (x.tx.size : Int) ≤ 1000 := by omega
          have hioA : inn ≤ ou + bB := by have := HIO.out.1; omega
          have hioB : ou + bB ≤ inn := by have := HIO.out.1; omega
          have hioC : inn ≤ 1000 * j := HIO.out.2
          clear HIO
          cases yb with
          | true =>
            have hm0 : 0 < ms := by simpa using pb3.symm
            have hemp : mo.tx.toList.isEmpty = false := empty_no (by omega)
            have hsA := Nat.le_of_eq (pb1 (.inl rfl))
            have hsB := Nat.le_of_eq (pb1 (.inl rfl)).symm
            clear pb1 pb2 pb3
            have s1 : IntKind.i64.wrap ((inn : Int) + (x.tx.size : Int)) = ((inn + x.tx.size : Nat) : Int) := by rw [IntKind.wrap_i64]; omega
            have s2 : IntKind.i64.wrap ((ou : Int) + (mo.tx.size : Int)) = ((ou + ms : Nat) : Int) := by rw [IntKind.wrap_i64]; omega
            have s3 : IntKind.i64.wrap (((ou + ms : Nat) : Int) + (bY : Int)) = ((inn + x.tx.size : Nat) : Int) := by rw [IntKind.wrap_i64]; omega
            go_wp2_with (first
              | ((with_reducible refine gate9 ?_); refine ldB (ty := 32) (cs := #[.slice A2 Y.length k2]) rfl rfl rfl HXA.out Try.underlying32 rfl infoB ?_)
              | ((with_reducible refine gate9 ?_); refine stB (ty := 32) #[.slice A2 Y.length k2] rfl rfl rfl rfl HQ.out infoB rfl (cellsB_one _ _ _) ?_; intro w9 ht hg; replace HR5 := Lib.hid (RowP.stays HR5.out HF5.out hg (by omega)); replace HB := Lib.hid (below_of_grown1 HB.out hg HB.out.size hwg); replace HQ := Lib.hid ht; clear ht hg)
              | ((with_reducible refine gate9 ?_); refine ldB (ty := 32) (cs := #[.slice A2 Y.length k2]) rfl rfl rfl HQ.out Try.underlying32 rfl infoB ?_)
              | (go_at_call 21; (with_reducible refine (HBY.out _ _ HR5.out).mono ?_); rintro e w10 ⟨rfl, hb⟩; replace HQ := Lib.hid (HQ.out.later hb); replace HR5 := Lib.hid (RowP.below HR5.out hb); replace HB := Lib.hid (HB.out.trans (hb.mono HB.out.size)); clear hb))
            go_roundw
            case rel => exact ⟨j + 1, inn + x.tx.size, ou + ms, by omega, by first | rfl | (congr 1; omega), by first | rfl | (congr 1; omega), by go_num, Lib.hid ⟨by rw [HN.out]; omega, by omega⟩, Lib.hid ⟨A2, k2, by rw [HN.out]; exact HQ.out, by rw [HN.out]; exact HR5.out⟩, HB⟩
            case measure => simp [intOf]; omega
          | false =>
            have hm0 : ms ≤ 0 := by have := pb3; simp at this; omega
            have hemp : mo.tx.toList.isEmpty = true := empty_yes (by omega)
            by_cases hlg : Bg.length < Y.length
            · have hsum := pb1 (.inr hlg)
              have g1 : (Bg.length : Int) < (Y.length : Int) := by omega
              clear pb1 pb2 pb3
              have s1 : IntKind.i64.wrap ((inn : Int) + (x.tx.size : Int)) = ((inn + x.tx.size : Nat) : Int) := by rw [IntKind.wrap_i64]; omega
              have s2 : IntKind.i64.wrap ((ou : Int) + (mo.tx.size : Int)) = ((ou + ms : Nat) : Int) := by rw [IntKind.wrap_i64]; omega
              have s3 : IntKind.i64.wrap (((ou + ms : Nat) : Int) + (bY : Int)) = ((inn + x.tx.size : Nat) : Int) := by rw [IntKind.wrap_i64]; omega
              go_wp2_with (first
                | ((with_reducible refine gate9 ?_); refine ldB (ty := 32) (cs := #[.slice A2 Y.length k2]) rfl rfl rfl HXA.out Try.underlying32 rfl infoB ?_)
                | ((with_reducible refine gate9 ?_); refine stB (ty := 32) #[.slice A2 Y.length k2] rfl rfl rfl rfl HQ.out infoB rfl (cellsB_one _ _ _) ?_; intro w9 ht hg; replace HR5 := Lib.hid (RowP.stays HR5.out HF5.out hg (by omega)); replace HB := Lib.hid (below_of_grown1 HB.out hg HB.out.size hwg); replace HQ := Lib.hid ht; clear ht hg)
                | ((with_reducible refine gate9 ?_); refine ldB (ty := 32) (cs := #[.slice A2 Y.length k2]) rfl rfl rfl HQ.out Try.underlying32 rfl infoB ?_)
                | (go_at_call 21; (with_reducible refine (HBY.out _ _ HR5.out).mono ?_); rintro e w10 ⟨rfl, hb⟩; replace HQ := Lib.hid (HQ.out.later hb); replace HR5 := Lib.hid (RowP.below HR5.out hb); replace HB := Lib.hid (HB.out.trans (hb.mono HB.out.size)); clear hb))
              go_roundw
              case rel => exact ⟨j + 1, inn + x.tx.size, ou + ms, by omega, by first | rfl | (congr 1; omega), by first | rfl | (congr 1; omega), by go_num, Lib.hid ⟨by rw [HN.out]; omega, by omega⟩, Lib.hid ⟨A2, k2, by rw [HN.out]; exact HQ.out, by rw [HN.out]; exact HR5.out⟩, HB⟩
              case measure => simp [intOf]; omega
            · have hsE := pb2 (fun h => by rcases h with h | h; cases h; exact hlg h)
              have hsA := Nat.le_of_eq hsE
              have hsB := Nat.le_of_eq hsE.symm
              clear hsE
              have g1 : ¬ (Bg.length : Int) < (Y.length : Int) := by omega
              clear pb1 pb2 pb3
              have s2 : IntKind.i64.wrap ((ou : Int) + (mo.tx.size : Int)) = ((ou + ms : Nat) : Int) := by rw [IntKind.wrap_i64]; omega
              have s3 : IntKind.i64.wrap (((ou + ms : Nat) : Int) + (bY : Int)) = (inn : Int) := by rw [IntKind.wrap_i64]; omega
              go_wp2_with (first
                | ((with_reducible refine gate9 ?_); refine ldB (ty := 32) (cs := #[.slice A2 Y.length k2]) rfl rfl rfl HXA.out Try.underlying32 rfl infoB ?_)
                | ((with_reducible refine gate9 ?_); refine stB (ty := 32) #[.slice A2 Y.length k2] rfl rfl rfl rfl HQ.out infoB rfl (cellsB_one _ _ _) ?_; intro w9 ht hg; replace HR5 := Lib.hid (RowP.stays HR5.out HF5.out hg (by omega)); replace HB := Lib.hid (below_of_grown1 HB.out hg HB.out.size hwg); replace HQ := Lib.hid ht; clear ht hg)
                | ((with_reducible refine gate9 ?_); refine ldB (ty := 32) (cs := #[.slice A2 Y.length k2]) rfl rfl rfl HQ.out Try.underlying32 rfl infoB ?_)
                | (go_at_call 21; (with_reducible refine (HBY.out _ _ HR5.out).mono ?_); rintro e w10 ⟨rfl, hb⟩; replace HQ := Lib.hid (HQ.out.later hb); replace HR5 := Lib.hid (RowP.below HR5.out hb); replace HB := Lib.hid (HB.out.trans (hb.mono HB.out.size)); clear hb))
              go_roundw
              case rel => exact ⟨j + 1, inn, ou + ms, by omega, by first | rfl | (congr 1; omega), by first | rfl | (congr 1; omega), by go_num, Lib.hid ⟨by rw [HN.out]; omega, by omega⟩, Lib.hid ⟨A2, k2, by rw [HN.out]; exact HQ.out, by rw [HN.out]; exact HR5.out⟩, HB⟩
              case measure => simp [intOf]; omega
      · obtain rfl : j = l.length := by omega
        go_wp2_with fail
        go_ret
        exact ⟨rfl, HB.out⟩

set_option maxRecDepth 100000 in
theorem lifted (os : Os) (started : os.Started) (H : Type) (enc : TypeId × Value → H) :
    ReturnsInHanded {} Try.checked os 6 .any (Rows.fragBytesSpec.pre6 enc Try.prog Try.f6 Rows.fragBytesRow.domain false) (Rows.fragBytesSpec.post enc Try.prog Try.f6 false true false false) := by
  refine returnsInHanded_of_change_sized (C := Try.checked) own started (by kernel_rfl) Try.func6
    (ChangeSpec.witness6 (enc := enc) (C := Try.checked) false ⟨#[], #[.slice none 0 0], []⟩ 8 (by kernel_rfl) (by kernel_rfl) (by kernel_rfl) (by kernel_rfl)) ?_
  intro W base args ds gs before hval0 hW _ hreach _
  have hval : ∀ (j : Nat) t v, Try.f6.params[j]? = some t → args[j]? = some v → Value.okWide Try.prog W .any base t v := hval0
  obtain ⟨p, q, hA0, _, _, _, _⟩ := id hW
  have hA : DataW.TrodAll enc Try.prog W 0 (fun _ => true) true Try.f6.params.toList args.toList ds p := hA0
  rw [Try.params6] at hA hval
  obtain ⟨v0, vs0, d0, ds0, p0, q0, hargs, rfl, rfl, h0, r0⟩ := trodAll_cons hA
  obtain ⟨rfl, rfl, rfl⟩ := trodAll_nil r0
  obtain rfl : args = #[v0] := by cases args; simp_all
  obtain ⟨l0, w0, m0⟩ := pieces_in (hval 0 29 v0 rfl rfl) h0
  refine (walk l0 v0 W w0).mono fun e W' ⟨he, hg⟩ => ?_
  subst he
  exact ⟨_, rfl, law_post laidOut Try.underlying4 (by kernel_rfl) (by kernel_rfl) rfl hW (by simp [Rows.fragBytesSpec]) hg⟩

theorem proved : Rows.FragBytesSaid :=
  OpenClaim.holds_of_wide 6 Try.f6 rfl rfl rfl rfl rfl rfl rfl ⟨rfl, rfl, rfl, rfl, rfl⟩ rfl rfl rfl rfl rfl (by kernel_rfl) Try.func6 (by kernel_rfl)
    (of_decide_eq_true (by kernel_rfl)) (by unfold Func.isWrapper; first | (rw [if_pos (by decide +kernel)]; kernel_rfl) | (rw [if_neg (by decide +kernel)]; exact ⟨rfl, rfl⟩))
    (fun os started H enc _ => lifted os started H enc)
#print axioms proved
end Go.Proofs.Ytblepnbmjehikaa.fragBytes
