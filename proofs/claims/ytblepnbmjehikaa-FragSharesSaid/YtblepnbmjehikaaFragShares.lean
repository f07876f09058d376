/-
  What is put into a bag changes nothing of the bag that it was put into: any pieces, any two pieces.
-/
import Derived.Test.YtblepnbmjehikaaLift
import Derived.Test.YtblepnbmjehikaaSn
namespace Go.Proofs.Ytblepnbmjehikaa.fragShares
open Go.ChangeShapes Go.WideShapes Go.ChangeAt Go.RowKit
set_option linter.unusedVariables false
set_option linter.unusedSimpArgs false
set_option maxRecDepth 100000

set_option maxHeartbeats 8000000 in
theorem walk (l : List Pc) (p q : Pc) (v : Value) (w : World) (h : RowP w v l) : Calls Try.prog 8 #[v, .agg (cellsPc p), .agg (cellsPc q)] w fun e w' => e = .returned (.bool true) ∧ Below w.heap.size w w' := by
  obtain ⟨W, hW, HP4, HP5, HB, hs⟩ := two_open w 43 43 (cellsPc p) (cellsPc q)
  have HSH := Lib.hid shown_any
  have HV := Lib.hid h
  have HSM := Lib.hid (fun V W h => small_any l V W h)
  obtain ⟨A0, cap0, rfl, _, hmx0, _⟩ := id h
  have hmxI : (l.length : Int) ≤ 9223372036854775807 := by unfold maxLen at hmx0; omega
  clear h hs
  cases hsm : smallB l with
  | false =>
    rw [hsm] at HSM
    go_enter Try.func8, Try.ntmps8
    go_wp2_with (first
      | (go_at_call 9; (with_reducible refine (HSH.out _).mono ?_); rintro e w1 ⟨rfl, hb⟩; replace HB := Lib.hid (HB.out.trans (hb.mono HB.out.size)); clear hb)
      | (go_at_call 13; (with_reducible refine (HSM.out _ _ (HV.out.below HB.out)).mono ?_); rintro e w2 ⟨rfl, rfl⟩))
    go_ret
    exact ⟨rfl, HB.out⟩
  | true =>
    rw [hsm] at HSM
    obtain ⟨h60, hea⟩ := small_long hsm
    have hp7 := fun (W : World) (h : Bx W w.heap.size 43 (cellsPc p)) => h.cell 7 (.string p.tx) rfl
    by_cases hpq : p.tx.size ≤ 1000 ∧ q.tx.size ≤ 1000
    · obtain ⟨hp1, hq1⟩ := hpq
      have z1 : ¬ (1000 : Int) < (p.tx.size : Int) := by omega
      have z2 : ¬ (1000 : Int) < (q.tx.size : Int) := by omega
      have HIN := Lib.hid (bag_inv hsm)
      have HNX := Lib.hid (bagL_next l)
      have HEA := Lib.hid hea
      have HFU : Hid (bagL (l.take l.length) = bagL l) := Lib.hid (by rw [List.take_length])
      clear hea hsm hp7
      go_enter Try.func8, Try.ntmps8
      go_wp2_with (first
        | (go_at_call 9; (with_reducible refine (HSH.out _).mono ?_); rintro e w1 ⟨rfl, hb⟩; replace HB := Lib.hid (HB.out.trans (hb.mono HB.out.size)); replace HP4 := Lib.hid (HP4.out.later hb); replace HP5 := Lib.hid (HP5.out.later hb); have p7 := HP4.out.cell 7 (.string p.tx) rfl; have q7 := HP5.out.cell 7 (.string q.tx) rfl; clear hb)
        | (go_at_call 13; (with_reducible refine (HSM.out _ _ (HV.out.below HB.out)).mono ?_); rintro e w2 ⟨rfl, rfl⟩; obtain ⟨W9, hW9, HQ0, HB9, hs9⟩ := one_open w2 32 #[.slice none 0 0]; obtain ⟨g9, hg9⟩ : ∃ g, w2.heap.size = g := ⟨_, rfl⟩; rw [hg9] at HQ0; have hp4g := HP5.out.lt; rw [hg9] at hp4g)
        | ((with_reducible refine gate9 ?_); refine stB (ty := 32) #[.slice none 0 0] rfl rfl rfl rfl HQ0.out infoB rfl (cellsB_one _ _ _) ?_; intro w3 ht hg; replace HB9 := Lib.hid (below_of_grown1 HB9.out hg HB9.out.size (Nat.le_of_eq hg9)); replace HQ0 := Lib.hid ht; replace HP4 := Lib.hid (HP4.out.later HB9.out); replace HP5 := Lib.hid (HP5.out.later HB9.out); replace HB := Lib.hid (HB.out.trans (HB9.out.mono HB.out.size)); clear ht hg HB9))
      clear p7 q7 hW9 hs9 hg9 hW
      have hwg : w.heap.size ≤ g9 := by omega
      have HBA : Hid (BAt g9 (bagL (l.take 0)) w3) := Lib.hid ⟨none, 0, HQ0.out, RowP.nil _⟩
      clear HQ0
      go_loopw [10] (fun i wr => ∃ j : Nat, j ≤ l.length ∧ i = .int .i64 j ∧ Hid (BAt g9 (bagL (l.take j)) wr) ∧ Hid (Below w.heap.size w wr) ∧ Hid (Bx wr w.heap.size 43 (cellsPc p)) ∧ Hid (Bx wr (w.heap.size + 1) 43 (cellsPc q)))
        (fun i _ => l.length - (intOf i).toNat)
      case atStart => exact ⟨0, Nat.zero_le _, rfl, HBA, HB, HP4, HP5⟩
      case round =>
        clear HBA HB HP4 HP5
        obtain ⟨j, hj, rfl, HBA, HB, HP4, HP5⟩ := hrel
        have hgs := HBA.out.lt
        have hij := HIN.out j hj
        by_cases hlt : j < l.length
        · obtain ⟨A, k, hbx, hrow⟩ := HBA.out
          have HQ := Lib.hid hbx
          have HRS := Lib.hid hrow
          clear hbx hrow HBA
          obtain ⟨b, off, cap', e9, hbw0, hc1, hc2, hrg⟩ := HV.out.at hlt
          cases e9
          have HRG := Lib.hid (range_below hrg hbw0 HB.out)
          have hbw : b < wr.heap.size := by have := HB.out.size; omega
          have hxs := HEA.out _ (List.getElem_mem hlt)
          have HPU := Lib.hid (fun V W h => put_anyE (bagL (l.take j)) (by have := hij.len; omega) hij.ok l[j] (by have := hij.by'; omega) V W h)
          have HN := Lib.hid (HNX.out j hlt)
          have q0 : (0 : Int) ≤ (j : Int) := by omega
          have q1 : (j : Int) < (l.length : Int) := by omega
          clear hrg hij hxs
          generalize l[j] = x at *
          generalize bagL (l.take j) = Bg at *
          generalize (putP Bg x).1 = Y at *
          generalize (putP Bg x).2 = ox at *
          generalize ox.getD zeroMg = mo at *
          go_wp2_with fail
          have HS : (fun V => Bx V g9 32 #[.slice A Bg.length k] ∧ Below wr.heap.size wr V) wr.drew := ⟨HQ.out.drew, below_drawn (Below.refl _ _)⟩
          refine wp_region_noPanic ?_
          refine wp_region_waits (S := (fun V => Bx V g9 32 #[.slice A Bg.length k] ∧ Below wr.heap.size wr V)) [10] (by kernel_rfl) HS (fun hHeld => ?_)
          clear HS
          refine wpAnyW_take (i := 0) (v := _) (by simp only [List.getElem?_toArray, List.getElem?_cons_zero]; rfl) (by kernel_rfl) (by kernel_rfl) (by kernel_rfl) (by kernel_rfl) (by kernel_rfl) (fun _ _ _ h => h) (yB (ty := 32) (by rfl) rfl rfl (fun V h => h.1) Try.underlying32 rfl infoB) (by assumption) ?_
          try simp only [Act.put, List.setIfInBounds_toArray, List.set_cons_zero, List.set_cons_succ]
          refine wpAnyW_take (i := 1) (v := ?_) (by simp only [List.getElem?_toArray, List.getElem?_cons_succ, List.getElem?_cons_zero]; rfl) (by kernel_rfl) (by kernel_rfl) (by kernel_rfl) (by kernel_rfl) (by kernel_rfl) (fun _ _ _ h => h) (Or.inl ⟨by rfl, ?_⟩) (by assumption) ?_
          rotate_left 1
          · (intro w' hSw; go_simp; try with_reducible rfl)
          try simp only [Act.put, List.setIfInBounds_toArray, List.set_cons_zero, List.set_cons_succ]
          refine wpAnyW_take (i := 2) (v := ?_) (by simp only [List.getElem?_toArray, List.getElem?_cons_succ, List.getElem?_cons_zero]; rfl) (by kernel_rfl) (by kernel_rfl) (by kernel_rfl) (by kernel_rfl) (by kernel_rfl) (fun _ _ _ h => h) (Or.inl ⟨by rfl, ?_⟩) (by assumption) ?_
          rotate_left 1
          · (intro w' hSw; go_simp; try with_reducible rfl)
          try simp only [Act.put, List.setIfInBounds_toArray, List.set_cons_zero, List.set_cons_succ]
          refine wpAnyW_take (i := 3) (v := ?_) (by simp only [List.getElem?_toArray, List.getElem?_cons_succ, List.getElem?_cons_zero]; rfl) (by kernel_rfl) (by kernel_rfl) (by kernel_rfl) (by kernel_rfl) (by kernel_rfl) (fun _ _ _ h => h) (Or.inl ⟨by rfl, ?_⟩) (by assumption) ?_
          rotate_left 1
          · (intro w' hSw; go_simp; try with_reducible rfl)
          try simp only [Act.put, List.setIfInBounds_toArray, List.set_cons_zero, List.set_cons_succ]
          refine wpAnyW_take (i := 4) (v := _) (by simp only [List.getElem?_toArray, List.getElem?_cons_succ, List.getElem?_cons_zero]; rfl) (by kernel_rfl) (by kernel_rfl) (by kernel_rfl) (by kernel_rfl) (by kernel_rfl) (fun _ _ _ h => h) (yPc (ty := 43) (by rfl) rfl rfl (fun V h => range_below HRG.out hbw h.2) Try.underlying43 rfl infoP) (by assumption) ?_
          try simp only [Act.put, List.setIfInBounds_toArray, List.set_cons_zero, List.set_cons_succ]
          refine wpAnyW_held (i := 5) (by kernel_rfl) (by simp only [List.getElem?_toArray, List.getElem?_cons_succ, List.getElem?_cons_zero]; rfl) (fun K hK => ?_)
          rw [if_pos (by rfl)]
          go_simp
          refine (HPU.out _ _ (HRS.out.below hHeld.2)).mono ?_
          rintro _ w5 ⟨A5, k5, rfl, hr, hf, hb⟩
          have HS : (fun V => Bx V g9 32 #[.slice A Bg.length k] ∧ Below wr.heap.size wr V) _ := ⟨hHeld.1.later hb, hHeld.2.trans (hb.mono hHeld.2.size)⟩
          have HR5 := Lib.hid hr
          have HF5 := Lib.hid (hf.less (show g9 + 1 ≤ _ by have := hHeld.2.size; omega))
          clear hHeld hr hf hb
          go_wp2_with fail
          refine hK.out _ _ HS (fun hHeld => ?_)
          clear hK K HS
          try simp only [Act.put, List.setIfInBounds_toArray, List.set_cons_zero, List.set_cons_succ]
          refine wpAnyW_take (i := 6) (v := ?_) (by simp only [List.getElem?_toArray, List.getElem?_cons_succ, List.getElem?_cons_zero]; rfl) (by kernel_rfl) (by kernel_rfl) (by kernel_rfl) (by kernel_rfl) (by kernel_rfl) (fun _ _ _ h => h) (Or.inl ⟨by rfl, ?_⟩) (by assumption) ?_
          rotate_left 1
          · (intro w' hSw; go_simp; try with_reducible rfl)
          try simp only [Act.put, List.setIfInBounds_toArray, List.set_cons_zero, List.set_cons_succ]
          refine wpAnyW_take (i := 7) (v := ?_) (by simp only [List.getElem?_toArray, List.getElem?_cons_succ, List.getElem?_cons_zero]; rfl) (by kernel_rfl) (by kernel_rfl) (by kernel_rfl) (by kernel_rfl) (by kernel_rfl) (fun _ _ _ h => h) (Or.inl ⟨by rfl, ?_⟩) (by assumption) ?_
          rotate_left 1
          · (intro w' hSw; go_simp; try with_reducible rfl)
          try simp only [Act.put, List.setIfInBounds_toArray, List.set_cons_zero, List.set_cons_succ]
          refine wpAnyW_takeY (i := 8) (v := ?_) (by simp only [List.getElem?_toArray, List.getElem?_cons_succ, List.getElem?_cons_zero]; rfl) (by kernel_rfl) (by kernel_rfl) (by kernel_rfl) (by kernel_rfl) (fun _ _ _ h => h) (Or.inl ⟨by rfl, ?_⟩) (fun _ => by assumption) ?_
          rotate_left 1
          · (intro w' hSw; go_simp; try with_reducible rfl)
          try simp only [Act.put, List.setIfInBounds_toArray, List.set_cons_zero, List.set_cons_succ]
          refine wpAnyW_takeY (i := 9) (v := ?_) (by simp only [List.getElem?_toArray, List.getElem?_cons_succ, List.getElem?_cons_zero]; rfl) (by kernel_rfl) (by kernel_rfl) (by kernel_rfl) (by kernel_rfl) (fun _ _ _ h => h) (Or.inl ⟨by rfl, ?_⟩) (fun _ => by assumption) ?_
          rotate_left 1
          · (intro w' hSw; go_simp; try with_reducible rfl)
          try simp only [Act.put, List.setIfInBounds_toArray, List.set_cons_zero, List.set_cons_succ]
          refine wpAnyW_freed (i := 10) (by kernel_rfl) (by kernel_rfl) (by simp only [List.getElem?_toArray, List.getElem?_cons_succ, List.getElem?_cons_zero]; rfl) (fun K hK => ?_)
          rw [if_pos (by rfl)]
          refine wpB (ty := 32) #[.slice A5 Y.length k5] rfl rfl rfl hHeld.1 infoB rfl (cellsB_one _ _ _) ?_
          intro y1 ht hg
          have HG9 := Lib.hid ht
          replace HR5 := Lib.hid (RowP.stays HR5.out HF5.out hg (by omega))
          have HE := Lib.hid (below_of_grown1 (HB.out.trans (hHeld.2.mono HB.out.size)) hg (HB.out.trans (hHeld.2.mono HB.out.size)).size hwg)
          replace HP4 := Lib.hid ((HP4.out.later hHeld.2).kept hg (by omega))
          replace HP5 := Lib.hid ((HP5.out.later hHeld.2).kept hg (by omega))
          clear ht hg
          refine hK.out _ _ ?_
          clear hK K hHeld
          try simp only [Act.put, List.setIfInBounds_toArray, List.set_cons_zero, List.set_cons_succ]
          refine wpAnyW_done (by kernel_rfl) ?_ _
          refine NoPanic.normal ?_
          go_wp2_with fail
          go_roundw
          case rel => exact ⟨j + 1, by omega, by go_num, Lib.hid ⟨A5, k5, by rw [HN.out]; exact HG9.out, by rw [HN.out]; exact HR5.out⟩, HE, HP4, HP5⟩
          case measure => simp [intOf]; omega
        · obtain rfl : j = l.length := by omega
          rw [HFU.out] at HBA hij
          obtain ⟨AB, kB, hbx, hrow⟩ := HBA.out
          have HBG := Lib.hid hbx
          have HRB := Lib.hid hrow
          have hi1 := hij.len
          have hi2 := hij.by'
          have hX := hij.put (by omega) hp1
          have hY := hij.put (by omega) hq1
          have hyl := (putP_ok q hij.ok (by omega)).2
          have HPUp := Lib.hid (fun V W h => put_anyE (bagL l) (by omega) hij.ok p (by omega) V W h)
          have HPUq := Lib.hid (fun V W h => put_anyE (bagL l) (by omega) hij.ok q (by omega) V W h)
          have HBY := Lib.hid (fun V W h => bytes_any (bagL l) (by omega) (by omega) V W h)
          have HBX := Lib.hid (fun V W h => bytes_any (putP (bagL l) p).1 (by have := hX.len; omega) (by have := hX.by'; omega) V W h)
          clear hbx hrow HBA hij hX hY
          generalize bagL l = Bg at *
          generalize (putP Bg p).1 = X at *
          generalize (putP Bg q).1 = Y at *
          generalize (putP Bg p).2 = ox at *
          generalize (putP Bg q).2 = oy at *
          generalize ox.getD zeroMg = mx at *
          generalize oy.getD zeroMg = my at *
          generalize ox.isSome = bx at *
          generalize oy.isSome = by2 at *
          generalize bytesL Bg = bB at *
          generalize bytesL X = bX at *
          have b0 := HBG.out.cell 0 (.slice AB Bg.length kB) rfl
          have y1 : (Y.length : Int) ≤ (Bg.length : Int) + 1 := by omega
          have y2 : IntKind.i64.wrap ((Bg.length : Int) + 1) = (Bg.length : Int) + 1 := by rw [IntKind.wrap_i64]; omega
          have y3 : decide ((Y.length : Int) ≤ (Bg.length : Int) + 1) = true := decide_eq_true y1
          clear b0
          go_wp2_with (first
            | (go_at_call 21; (with_reducible refine (HBY.out _ _ HRB.out).mono ?_); rintro e w6 ⟨rfl, hb⟩; replace HBG := Lib.hid (HBG.out.later hb); replace HP4 := Lib.hid (HP4.out.later hb); replace HP5 := Lib.hid (HP5.out.later hb); replace HRB := Lib.hid (RowP.below HRB.out hb); replace HB := Lib.hid (HB.out.trans (hb.mono HB.out.size)); have b0 := HBG.out.cell 0 (.slice AB Bg.length kB) rfl; clear hb)
            | ((with_reducible refine gate9 ?_); refine ldB (ty := 32) (cs := #[.slice AB Bg.length kB]) rfl rfl rfl HBG.out Try.underlying32 rfl infoB ?_)
            | ((with_reducible refine gate9 ?_); refine ldB (ty := 43) rfl rfl rfl HP4.out Try.underlying43 rfl infoP ?_))
          refine (HPUp.out _ _ HRB.out).mono ?_
          rintro e w13 ⟨A13, k13, rfl, hr, hf, hb⟩
          have HR13 := Lib.hid hr
          replace HBG := Lib.hid (HBG.out.later hb)
          replace HP4 := Lib.hid (HP4.out.later hb)
          replace HP5 := Lib.hid (HP5.out.later hb)
          replace HRB := Lib.hid (RowP.below HRB.out hb)
          replace HB := Lib.hid (HB.out.trans (hb.mono HB.out.size))
          clear hr hf hb
          obtain ⟨W13, hW13, HX13, HM13, HC13, hs13⟩ := two_open w13 32 39 #[.slice none 0 0] #[.int .u32 0, .bool false, .int .u16 0, .int .u16 0, .int .u32 0, .string ⟨#[]⟩]
          obtain ⟨g13, hg13⟩ : ∃ g, w13.heap.size = g := ⟨_, rfl⟩
          rw [hg13] at HX13 HM13
          go_wp2_with (first
            | ((with_reducible refine gate9 ?_); refine stB (ty := 32) #[.slice A13 X.length k13] rfl rfl rfl rfl HX13.out infoB rfl (cellsB_one _ _ _) ?_; intro w131 ht hg; replace HC13 := Lib.hid (below_of_grown1 HC13.out hg HC13.out.size (Nat.le_of_eq hg13)); replace HM13 := Lib.hid (HM13.out.kept hg (by omega)); replace HX13 := Lib.hid ht; clear ht hg)
            | ((with_reducible refine gate9 ?_); refine stB (ty := 39) (cellsMg mx) rfl rfl rfl rfl HM13.out infoM rfl (cellsMg_one _) ?_; intro w132 ht hg; replace HC13 := Lib.hid (below_of_grown1 HC13.out hg HC13.out.size (by omega)); replace HX13 := Lib.hid (HX13.out.kept hg (by omega)); replace HM13 := Lib.hid ht; have hb := HC13.out; replace HBG := Lib.hid (HBG.out.later hb); replace HP4 := Lib.hid (HP4.out.later hb); replace HP5 := Lib.hid (HP5.out.later hb); replace HR13 := Lib.hid (RowP.below HR13.out hb); replace HRB := Lib.hid (RowP.below HRB.out hb); replace HB := Lib.hid (HB.out.trans (hb.mono HB.out.size)); clear ht hg hb)
            | ((with_reducible refine gate9 ?_); refine ldB (ty := 32) (cs := #[.slice AB Bg.length kB]) rfl rfl rfl HBG.out Try.underlying32 rfl infoB ?_)
            | ((with_reducible refine gate9 ?_); refine ldB (ty := 43) rfl rfl rfl HP5.out Try.underlying43 rfl infoP ?_))
          clear b0
          refine (HPUq.out _ _ HRB.out).mono ?_
          rintro e w16 ⟨A16, k16, rfl, hr, hf, hb⟩
          have HR16 := Lib.hid hr
          replace HBG := Lib.hid (HBG.out.later hb)
          replace HP4 := Lib.hid (HP4.out.later hb)
          replace HP5 := Lib.hid (HP5.out.later hb)
          replace HX13 := Lib.hid (HX13.out.later hb)
          replace HM13 := Lib.hid (HM13.out.later hb)
          replace HR13 := Lib.hid (RowP.below HR13.out hb)
          replace HRB := Lib.hid (RowP.below HRB.out hb)
          replace HB := Lib.hid (HB.out.trans (hb.mono HB.out.size))
          clear hr hf hb
          obtain ⟨W16, hW16, HX16, HM16, HC16, hs16⟩ := two_open w16 32 39 #[.slice none 0 0] #[.int .u32 0, .bool false, .int .u16 0, .int .u16 0, .int .u32 0, .string ⟨#[]⟩]
          obtain ⟨g16, hg16⟩ : ∃ g, w16.heap.size = g := ⟨_, rfl⟩
          rw [hg16] at HX16 HM16
          go_wp2_with (first
            | ((with_reducible refine gate9 ?_); refine stB (ty := 32) #[.slice A16 Y.length k16] rfl rfl rfl rfl HX16.out infoB rfl (cellsB_one _ _ _) ?_; intro w161 ht hg; replace HC16 := Lib.hid (below_of_grown1 HC16.out hg HC16.out.size (Nat.le_of_eq hg16)); replace HM16 := Lib.hid (HM16.out.kept hg (by omega)); replace HX16 := Lib.hid ht; clear ht hg)
            | ((with_reducible refine gate9 ?_); refine stB (ty := 39) (cellsMg my) rfl rfl rfl rfl HM16.out infoM rfl (cellsMg_one _) ?_; intro w162 ht hg; replace HC16 := Lib.hid (below_of_grown1 HC16.out hg HC16.out.size (by omega)); replace HX16 := Lib.hid (HX16.out.kept hg (by omega)); replace HM16 := Lib.hid ht; have hb := HC16.out; replace HBG := Lib.hid (HBG.out.later hb); replace HP4 := Lib.hid (HP4.out.later hb); replace HP5 := Lib.hid (HP5.out.later hb); replace HX13 := Lib.hid (HX13.out.later hb); replace HM13 := Lib.hid (HM13.out.later hb); replace HR13 := Lib.hid (RowP.below HR13.out hb); replace HR16 := Lib.hid (RowP.below HR16.out hb); replace HRB := Lib.hid (RowP.below HRB.out hb); replace HB := Lib.hid (HB.out.trans (hb.mono HB.out.size)); clear ht hg hb)
            | ((with_reducible refine gate9 ?_); refine ldB (ty := 32) (cs := #[.slice AB Bg.length kB]) rfl rfl rfl HBG.out Try.underlying32 rfl infoB ?_)
            | ((with_reducible refine gate9 ?_); refine ldB (ty := 43) rfl rfl rfl HP4.out Try.underlying43 rfl infoP ?_))
          refine (HPUp.out _ _ HRB.out).mono ?_
          rintro e w19 ⟨A19, k19, rfl, hr, hf, hb⟩
          have HR19 := Lib.hid hr
          replace HBG := Lib.hid (HBG.out.later hb)
          replace HP4 := Lib.hid (HP4.out.later hb)
          replace HP5 := Lib.hid (HP5.out.later hb)
          replace HX13 := Lib.hid (HX13.out.later hb)
          replace HM13 := Lib.hid (HM13.out.later hb)
          replace HR13 := Lib.hid (RowP.below HR13.out hb)
          replace HX16 := Lib.hid (HX16.out.later hb)
          replace HM16 := Lib.hid (HM16.out.later hb)
          replace HRB := Lib.hid (RowP.below HRB.out hb)
          replace HB := Lib.hid (HB.out.trans (hb.mono HB.out.size))
          clear hr hf hb
          obtain ⟨W19, hW19, HX19, HM19, HC19, hs19⟩ := two_open w19 32 39 #[.slice none 0 0] #[.int .u32 0, .bool false, .int .u16 0, .int .u16 0, .int .u32 0, .string ⟨#[]⟩]
          obtain ⟨g19, hg19⟩ : ∃ g, w19.heap.size = g := ⟨_, rfl⟩
          rw [hg19] at HX19 HM19
          go_wp2_with (first
            | ((with_reducible refine gate9 ?_); refine stB (ty := 32) #[.slice A19 X.length k19] rfl rfl rfl rfl HX19.out infoB rfl (cellsB_one _ _ _) ?_; intro w191 ht hg; replace HC19 := Lib.hid (below_of_grown1 HC19.out hg HC19.out.size (Nat.le_of_eq hg19)); replace HM19 := Lib.hid (HM19.out.kept hg (by omega)); replace HX19 := Lib.hid ht; clear ht hg)
            | ((with_reducible refine gate9 ?_); refine stB (ty := 39) (cellsMg mx) rfl rfl rfl rfl HM19.out infoM rfl (cellsMg_one _) ?_; intro w192 ht hg; replace HC19 := Lib.hid (below_of_grown1 HC19.out hg HC19.out.size (by omega)); replace HX19 := Lib.hid (HX19.out.kept hg (by omega)); replace HM19 := Lib.hid ht; have hb := HC19.out; replace HBG := Lib.hid (HBG.out.later hb); replace HP4 := Lib.hid (HP4.out.later hb); replace HP5 := Lib.hid (HP5.out.later hb); replace HX13 := Lib.hid (HX13.out.later hb); replace HM13 := Lib.hid (HM13.out.later hb); replace HR13 := Lib.hid (RowP.below HR13.out hb); replace HX16 := Lib.hid (HX16.out.later hb); replace HM16 := Lib.hid (HM16.out.later hb); replace HR19 := Lib.hid (RowP.below HR19.out hb); replace HRB := Lib.hid (RowP.below HRB.out hb); replace HB := Lib.hid (HB.out.trans (hb.mono HB.out.size)); clear ht hg hb))
          clear hW13 hW16 hW19 hs13 hs16 hs19 hg13 hg16 hg19
          have HS : (fun V => Bx V g9 32 #[.slice AB Bg.length kB] ∧ Bx V g13 32 #[.slice A13 X.length k13] ∧ Bx V (g13 + 1) 39 (cellsMg mx) ∧ Bx V g16 32 #[.slice A16 Y.length k16] ∧ Bx V g19 32 #[.slice A19 X.length k19] ∧ Bx V (g19 + 1) 39 (cellsMg mx) ∧ Below w192.heap.size w192 V) w192.drew := ⟨HBG.out.drew, HX13.out.drew, HM13.out.drew, HX16.out.drew, HX19.out.drew, HM19.out.drew, below_drawn (Below.refl _ _)⟩
          refine wp_region_noPanic ?_
          refine wp_region_waits (S := (fun V => Bx V g9 32 #[.slice AB Bg.length kB] ∧ Bx V g13 32 #[.slice A13 X.length k13] ∧ Bx V (g13 + 1) 39 (cellsMg mx) ∧ Bx V g16 32 #[.slice A16 Y.length k16] ∧ Bx V g19 32 #[.slice A19 X.length k19] ∧ Bx V (g19 + 1) 39 (cellsMg mx) ∧ Below w192.heap.size w192 V)) [45] (by kernel_rfl) HS (fun hHeld => ?_)
          clear HS
          refine wpAnyW_take (i := 0) (v := _) (by simp only [List.getElem?_toArray, List.getElem?_cons_zero]; rfl) (by kernel_rfl) (by kernel_rfl) (by kernel_rfl) (by kernel_rfl) (by kernel_rfl) (fun _ _ _ h => h) (yB (ty := 32) (by rfl) rfl rfl (fun V h => h.1) Try.underlying32 rfl infoB) (by assumption) ?_
          try simp only [Act.put, List.setIfInBounds_toArray, List.set_cons_zero, List.set_cons_succ]
          refine wpAnyW_take (i := 2) (v := ?_) (by simp only [List.getElem?_toArray, List.getElem?_cons_succ, List.getElem?_cons_zero]; rfl) (by kernel_rfl) (by kernel_rfl) (by kernel_rfl) (by kernel_rfl) (by kernel_rfl) (fun _ _ _ h => h) (Or.inl ⟨by rfl, ?_⟩) (by assumption) ?_
          rotate_left 1
          · (intro w' hSw; go_simp; try with_reducible rfl)
          try simp only [Act.put, List.setIfInBounds_toArray, List.set_cons_zero, List.set_cons_succ]
          refine wpAnyW_held (i := 1) (by kernel_rfl) (by simp only [List.getElem?_toArray, List.getElem?_cons_succ, List.getElem?_cons_zero]; rfl) (fun K hK => ?_)
          rw [if_pos (by rfl)]
          go_simp
          refine (HBY.out _ _ (HRB.out.below hHeld.2.2.2.2.2.2)).mono ?_
          rintro _ w8 ⟨rfl, hb⟩
          have HS : (fun V => Bx V g9 32 #[.slice AB Bg.length kB] ∧ Bx V g13 32 #[.slice A13 X.length k13] ∧ Bx V (g13 + 1) 39 (cellsMg mx) ∧ Bx V g16 32 #[.slice A16 Y.length k16] ∧ Bx V g19 32 #[.slice A19 X.length k19] ∧ Bx V (g19 + 1) 39 (cellsMg mx) ∧ Below w192.heap.size w192 V) _ := ⟨hHeld.1.later hb, hHeld.2.1.later hb, hHeld.2.2.1.later hb, hHeld.2.2.2.1.later hb, hHeld.2.2.2.2.1.later hb, hHeld.2.2.2.2.2.1.later hb, hHeld.2.2.2.2.2.2.trans (hb.mono hHeld.2.2.2.2.2.2.size)⟩
          clear hHeld hb
          go_wp2_with fail
          refine hK.out _ _ HS (fun hHeld => ?_)
          clear hK K HS
          try simp only [Act.put, List.setIfInBounds_toArray, List.set_cons_zero, List.set_cons_succ]
          refine wpAnyW_take (i := 3) (v := ?_) (by simp only [List.getElem?_toArray, List.getElem?_cons_succ, List.getElem?_cons_zero]; rfl) (by kernel_rfl) (by kernel_rfl) (by kernel_rfl) (by kernel_rfl) (by kernel_rfl) (fun _ _ _ h => h) (Or.inl ⟨by rfl, ?_⟩) (by assumption) ?_
          rotate_left 1
          · (intro w' hSw; go_simp; try with_reducible rfl)
          try simp only [Act.put, List.setIfInBounds_toArray, List.set_cons_zero, List.set_cons_succ]
          refine wpAnyW_take (i := 4) (v := ?_) (by simp only [List.getElem?_toArray, List.getElem?_cons_succ, List.getElem?_cons_zero]; rfl) (by kernel_rfl) (by kernel_rfl) (by kernel_rfl) (by kernel_rfl) (by kernel_rfl) (fun _ _ _ h => h) (Or.inl ⟨by rfl, ?_⟩) (by assumption) ?_
          rotate_left 1
          · (intro w' hSw; go_simp; try with_reducible rfl)
          try simp only [Act.put, List.setIfInBounds_toArray, List.set_cons_zero, List.set_cons_succ]
          refine wpAnyW_take (i := 5) (v := ?_) (by simp only [List.getElem?_toArray, List.getElem?_cons_succ, List.getElem?_cons_zero]; rfl) (by kernel_rfl) (by kernel_rfl) (by kernel_rfl) (by kernel_rfl) (by kernel_rfl) (fun _ _ _ h => h) (Or.inl ⟨by rfl, ?_⟩) (by assumption) ?_
          rotate_left 1
          · (intro w' hSw; go_simp; try with_reducible rfl)
          try simp only [Act.put, List.setIfInBounds_toArray, List.set_cons_zero, List.set_cons_succ]
          refine wpAnyW_take (i := 6) (v := ?_) (by simp only [List.getElem?_toArray, List.getElem?_cons_succ, List.getElem?_cons_zero]; rfl) (by kernel_rfl) (by kernel_rfl) (by kernel_rfl) (by kernel_rfl) (by kernel_rfl) (fun _ _ _ h => h) (Or.inl ⟨by rfl, ?_⟩) (by assumption) ?_
          rotate_left 1
          · (intro w' hSw; have hq := hSw.1.cell 0 (.slice AB Bg.length kB) rfl; go_simp; try with_reducible rfl)
          try simp only [Act.put, List.setIfInBounds_toArray, List.set_cons_zero, List.set_cons_succ]
          refine wpAnyW_take (i := 7) (v := ?_) (by simp only [List.getElem?_toArray, List.getElem?_cons_succ, List.getElem?_cons_zero]; rfl) (by kernel_rfl) (by kernel_rfl) (by kernel_rfl) (by kernel_rfl) (by kernel_rfl) (fun _ _ _ h => h) (Or.inl ⟨by rfl, ?_⟩) (by assumption) ?_
          rotate_left 1
          · (intro w' hSw; go_simp; try with_reducible rfl)
          try simp only [Act.put, List.setIfInBounds_toArray, List.set_cons_zero, List.set_cons_succ]
          refine wpAnyW_take (i := 8) (v := ?_) (by simp only [List.getElem?_toArray, List.getElem?_cons_succ, List.getElem?_cons_zero]; rfl) (by kernel_rfl) (by kernel_rfl) (by kernel_rfl) (by kernel_rfl) (by kernel_rfl) (fun _ _ _ h => h) (Or.inl ⟨by rfl, ?_⟩) (by assumption) ?_
          rotate_left 1
          · (intro w' hSw; go_simp; try with_reducible rfl)
          try simp only [Act.put, List.setIfInBounds_toArray, List.set_cons_zero, List.set_cons_succ]
          refine wpAnyW_take (i := 9) (v := ?_) (by simp only [List.getElem?_toArray, List.getElem?_cons_succ, List.getElem?_cons_zero]; rfl) (by kernel_rfl) (by kernel_rfl) (by kernel_rfl) (by kernel_rfl) (by kernel_rfl) (fun _ _ _ h => h) (Or.inl ⟨by rfl, ?_⟩) (by assumption) ?_
          rotate_left 1
          · (intro w' hSw; go_simp; try with_reducible rfl)
          try simp only [Act.put, List.setIfInBounds_toArray, List.set_cons_zero, List.set_cons_succ]
          refine wpAnyW_take (i := 10) (v := ?_) (by simp only [List.getElem?_toArray, List.getElem?_cons_succ, List.getElem?_cons_zero]; rfl) (by kernel_rfl) (by kernel_rfl) (by kernel_rfl) (by kernel_rfl) (by kernel_rfl) (fun _ _ _ h => h) (Or.inl ⟨by rfl, ?_⟩) (by assumption) ?_
          rotate_left 1
          · (intro w' hSw; go_simp; try with_reducible rfl)
          try simp only [Act.put, List.setIfInBounds_toArray, List.set_cons_zero, List.set_cons_succ]
          refine wpAnyW_take (i := 11) (v := ?_) (by simp only [List.getElem?_toArray, List.getElem?_cons_succ, List.getElem?_cons_zero]; rfl) (by kernel_rfl) (by kernel_rfl) (by kernel_rfl) (by kernel_rfl) (by kernel_rfl) (fun _ _ _ h => h) (Or.inl ⟨by rfl, ?_⟩) (by assumption) ?_
          rotate_left 1
          · (intro w' hSw; go_simp; try with_reducible rfl)
          try simp only [Act.put, List.setIfInBounds_toArray, List.set_cons_zero, List.set_cons_succ]
          refine wpAnyW_take (i := 12) (v := ?_) (by simp only [List.getElem?_toArray, List.getElem?_cons_succ, List.getElem?_cons_zero]; rfl) (by kernel_rfl) (by kernel_rfl) (by kernel_rfl) (by kernel_rfl) (by kernel_rfl) (fun _ _ _ h => h) (Or.inl ⟨by rfl, ?_⟩) (by assumption) ?_
          rotate_left 1
          · (intro w' hSw; go_simp; try with_reducible rfl)
          try simp only [Act.put, List.setIfInBounds_toArray, List.set_cons_zero, List.set_cons_succ]
          refine wpAnyW_take (i := 13) (v := ?_) (by simp only [List.getElem?_toArray, List.getElem?_cons_succ, List.getElem?_cons_zero]; rfl) (by kernel_rfl) (by kernel_rfl) (by kernel_rfl) (by kernel_rfl) (by kernel_rfl) (fun _ _ _ h => h) (Or.inl ⟨by rfl, ?_⟩) (by assumption) ?_
          rotate_left 1
          · (intro w' hSw; go_simp; try with_reducible rfl)
          try simp only [Act.put, List.setIfInBounds_toArray, List.set_cons_zero, List.set_cons_succ]
          refine wpAnyW_take (i := 14) (v := ?_) (by simp only [List.getElem?_toArray, List.getElem?_cons_succ, List.getElem?_cons_zero]; rfl) (by kernel_rfl) (by kernel_rfl) (by kernel_rfl) (by kernel_rfl) (by kernel_rfl) (fun _ _ _ h => h) (Or.inl ⟨by rfl, ?_⟩) (by assumption) ?_
          rotate_left 1
          · (intro w' hSw; go_simp; try with_reducible rfl)
          try simp only [Act.put, List.setIfInBounds_toArray, List.set_cons_zero, List.set_cons_succ]
          refine wpAnyW_take (i := 15) (v := ?_) (by simp only [List.getElem?_toArray, List.getElem?_cons_succ, List.getElem?_cons_zero]; rfl) (by kernel_rfl) (by kernel_rfl) (by kernel_rfl) (by kernel_rfl) (by kernel_rfl) (fun _ _ _ h => h) (Or.inl ⟨by rfl, ?_⟩) (by assumption) ?_
          rotate_left 1
          · (intro w' hSw; go_simp; try with_reducible rfl)
          try simp only [Act.put, List.setIfInBounds_toArray, List.set_cons_zero, List.set_cons_succ]
          refine wpAnyW_take (i := 16) (v := ?_) (by simp only [List.getElem?_toArray, List.getElem?_cons_succ, List.getElem?_cons_zero]; rfl) (by kernel_rfl) (by kernel_rfl) (by kernel_rfl) (by kernel_rfl) (by kernel_rfl) (fun _ _ _ h => h) (Or.inl ⟨by rfl, ?_⟩) (by assumption) ?_
          rotate_left 1
          · (intro w' hSw; go_simp; try with_reducible rfl)
          try simp only [Act.put, List.setIfInBounds_toArray, List.set_cons_zero, List.set_cons_succ]
          refine wpAnyW_take (i := 17) (v := _) (by simp only [List.getElem?_toArray, List.getElem?_cons_succ, List.getElem?_cons_zero]; rfl) (by kernel_rfl) (by kernel_rfl) (by kernel_rfl) (by kernel_rfl) (by kernel_rfl) (fun _ _ _ h => h) (yB (ty := 39) (by rfl) rfl rfl (fun V h => h.2.2.1) Try.underlying39 rfl infoM) (by assumption) ?_
          try simp only [Act.put, List.setIfInBounds_toArray, List.set_cons_zero, List.set_cons_succ]
          refine wpAnyW_take (i := 18) (v := _) (by simp only [List.getElem?_toArray, List.getElem?_cons_succ, List.getElem?_cons_zero]; rfl) (by kernel_rfl) (by kernel_rfl) (by kernel_rfl) (by kernel_rfl) (by kernel_rfl) (fun _ _ _ h => h) (yB (ty := 39) (by rfl) rfl rfl (fun V h => h.2.2.2.2.2.1) Try.underlying39 rfl infoM) (by assumption) ?_
          try simp only [Act.put, List.setIfInBounds_toArray, List.set_cons_zero, List.set_cons_succ]
          refine wpAnyW_take (i := 19) (v := .bool true) (by simp only [List.getElem?_toArray, List.getElem?_cons_succ, List.getElem?_cons_zero]; rfl) (by kernel_rfl) (by kernel_rfl) (by kernel_rfl) (by kernel_rfl) (by kernel_rfl) (fun _ _ _ h => h) (Or.inl ⟨by rfl, ?_⟩) (by assumption) ?_
          · (intro w' hSw; exact run_bin_at (u := .agg (cellsMg mx)) (v := .agg (cellsMg mx)) rfl rfl rfl (guard_mg _ _ _ _ _ w') (eql_mg mx w'))
          try simp only [Act.put, List.setIfInBounds_toArray, List.set_cons_zero, List.set_cons_succ]
          refine wpAnyW_take (i := 20) (v := ?_) (by simp only [List.getElem?_toArray, List.getElem?_cons_succ, List.getElem?_cons_zero]; rfl) (by kernel_rfl) (by kernel_rfl) (by kernel_rfl) (by kernel_rfl) (by kernel_rfl) (fun _ _ _ h => h) (Or.inl ⟨by rfl, ?_⟩) (by assumption) ?_
          rotate_left 1
          · (intro w' hSw; go_simp; try with_reducible rfl)
          try simp only [Act.put, List.setIfInBounds_toArray, List.set_cons_zero, List.set_cons_succ]
          refine wpAnyW_take (i := 21) (v := ?_) (by simp only [List.getElem?_toArray, List.getElem?_cons_succ, List.getElem?_cons_zero]; rfl) (by kernel_rfl) (by kernel_rfl) (by kernel_rfl) (by kernel_rfl) (by kernel_rfl) (fun _ _ _ h => h) (Or.inl ⟨by rfl, ?_⟩) (by assumption) ?_
          rotate_left 1
          · (intro w' hSw; go_simp; try with_reducible rfl)
          try simp only [Act.put, List.setIfInBounds_toArray, List.set_cons_zero, List.set_cons_succ]
          refine wpAnyW_take (i := 22) (v := ?_) (by simp only [List.getElem?_toArray, List.getElem?_cons_succ, List.getElem?_cons_zero]; rfl) (by kernel_rfl) (by kernel_rfl) (by kernel_rfl) (by kernel_rfl) (by kernel_rfl) (fun _ _ _ h => h) (Or.inl ⟨by rfl, ?_⟩) (by assumption) ?_
          rotate_left 1
          · (intro w' hSw; go_simp; try with_reducible rfl)
          try simp only [Act.put, List.setIfInBounds_toArray, List.set_cons_zero, List.set_cons_succ]
          refine wpAnyW_take (i := 23) (v := ?_) (by simp only [List.getElem?_toArray, List.getElem?_cons_succ, List.getElem?_cons_zero]; rfl) (by kernel_rfl) (by kernel_rfl) (by kernel_rfl) (by kernel_rfl) (by kernel_rfl) (fun _ _ _ h => h) (Or.inl ⟨by rfl, ?_⟩) (by assumption) ?_
          rotate_left 1
          · (intro w' hSw; have hq := hSw.2.1.cell 0 (.slice A13 X.length k13) rfl; go_simp; try with_reducible rfl)
          try simp only [Act.put, List.setIfInBounds_toArray, List.set_cons_zero, List.set_cons_succ]
          refine wpAnyW_take (i := 24) (v := ?_) (by simp only [List.getElem?_toArray, List.getElem?_cons_succ, List.getElem?_cons_zero]; rfl) (by kernel_rfl) (by kernel_rfl) (by kernel_rfl) (by kernel_rfl) (by kernel_rfl) (fun _ _ _ h => h) (Or.inl ⟨by rfl, ?_⟩) (by assumption) ?_
          rotate_left 1
          · (intro w' hSw; go_simp; try with_reducible rfl)
          try simp only [Act.put, List.setIfInBounds_toArray, List.set_cons_zero, List.set_cons_succ]
          refine wpAnyW_take (i := 25) (v := ?_) (by simp only [List.getElem?_toArray, List.getElem?_cons_succ, List.getElem?_cons_zero]; rfl) (by kernel_rfl) (by kernel_rfl) (by kernel_rfl) (by kernel_rfl) (by kernel_rfl) (fun _ _ _ h => h) (Or.inl ⟨by rfl, ?_⟩) (by assumption) ?_
          rotate_left 1
          · (intro w' hSw; go_simp; try with_reducible rfl)
          try simp only [Act.put, List.setIfInBounds_toArray, List.set_cons_zero, List.set_cons_succ]
          refine wpAnyW_take (i := 26) (v := ?_) (by simp only [List.getElem?_toArray, List.getElem?_cons_succ, List.getElem?_cons_zero]; rfl) (by kernel_rfl) (by kernel_rfl) (by kernel_rfl) (by kernel_rfl) (by kernel_rfl) (fun _ _ _ h => h) (Or.inl ⟨by rfl, ?_⟩) (by assumption) ?_
          rotate_left 1
          · (intro w' hSw; have hq := hSw.2.2.2.2.1.cell 0 (.slice A19 X.length k19) rfl; go_simp; try with_reducible rfl)
          try simp only [Act.put, List.setIfInBounds_toArray, List.set_cons_zero, List.set_cons_succ]
          refine wpAnyW_take (i := 27) (v := ?_) (by simp only [List.getElem?_toArray, List.getElem?_cons_succ, List.getElem?_cons_zero]; rfl) (by kernel_rfl) (by kernel_rfl) (by kernel_rfl) (by kernel_rfl) (by kernel_rfl) (fun _ _ _ h => h) (Or.inl ⟨by rfl, ?_⟩) (by assumption) ?_
          rotate_left 1
          · (intro w' hSw; go_simp; try with_reducible rfl)
          try simp only [Act.put, List.setIfInBounds_toArray, List.set_cons_zero, List.set_cons_succ]
          refine wpAnyW_take (i := 28) (v := ?_) (by simp only [List.getElem?_toArray, List.getElem?_cons_succ, List.getElem?_cons_zero]; rfl) (by kernel_rfl) (by kernel_rfl) (by kernel_rfl) (by kernel_rfl) (by kernel_rfl) (fun _ _ _ h => h) (Or.inl ⟨by rfl, ?_⟩) (by assumption) ?_
          rotate_left 1
          · (intro w' hSw; go_simp; try with_reducible rfl)
          try simp only [Act.put, List.setIfInBounds_toArray, List.set_cons_zero, List.set_cons_succ]
          refine wpAnyW_take (i := 29) (v := ?_) (by simp only [List.getElem?_toArray, List.getElem?_cons_succ, List.getElem?_cons_zero]; rfl) (by kernel_rfl) (by kernel_rfl) (by kernel_rfl) (by kernel_rfl) (by kernel_rfl) (fun _ _ _ h => h) (Or.inl ⟨by rfl, ?_⟩) (by assumption) ?_
          rotate_left 1
          · (intro w' hSw; go_simp; try with_reducible rfl)
          try simp only [Act.put, List.setIfInBounds_toArray, List.set_cons_zero, List.set_cons_succ]
          refine wpAnyW_take (i := 30) (v := ?_) (by simp only [List.getElem?_toArray, List.getElem?_cons_succ, List.getElem?_cons_zero]; rfl) (by kernel_rfl) (by kernel_rfl) (by kernel_rfl) (by kernel_rfl) (by kernel_rfl) (fun _ _ _ h => h) (Or.inl ⟨by rfl, ?_⟩) (by assumption) ?_
          rotate_left 1
          · (intro w' hSw; go_simp; try with_reducible rfl)
          try simp only [Act.put, List.setIfInBounds_toArray, List.set_cons_zero, List.set_cons_succ]
          refine wpAnyW_take (i := 31) (v := _) (by simp only [List.getElem?_toArray, List.getElem?_cons_succ, List.getElem?_cons_zero]; rfl) (by kernel_rfl) (by kernel_rfl) (by kernel_rfl) (by kernel_rfl) (by kernel_rfl) (fun _ _ _ h => h) (yB (ty := 32) (by rfl) rfl rfl (fun V h => h.2.1) Try.underlying32 rfl infoB) (by assumption) ?_
          try simp only [Act.put, List.setIfInBounds_toArray, List.set_cons_zero, List.set_cons_succ]
          refine wpAnyW_take (i := 33) (v := _) (by simp only [List.getElem?_toArray, List.getElem?_cons_succ, List.getElem?_cons_zero]; rfl) (by kernel_rfl) (by kernel_rfl) (by kernel_rfl) (by kernel_rfl) (by kernel_rfl) (fun _ _ _ h => h) (yB (ty := 32) (by rfl) rfl rfl (fun V h => h.2.2.2.2.1) Try.underlying32 rfl infoB) (by assumption) ?_
          try simp only [Act.put, List.setIfInBounds_toArray, List.set_cons_zero, List.set_cons_succ]
          refine wpAnyW_held (i := 32) (by kernel_rfl) (by simp only [List.getElem?_toArray, List.getElem?_cons_succ, List.getElem?_cons_zero]; rfl) (fun K hK => ?_)
          rw [if_pos (by rfl)]
          go_simp
          refine (HBX.out _ _ (HR13.out.below hHeld.2.2.2.2.2.2)).mono ?_
          rintro _ w8 ⟨rfl, hb⟩
          have HS : (fun V => Bx V g9 32 #[.slice AB Bg.length kB] ∧ Bx V g13 32 #[.slice A13 X.length k13] ∧ Bx V (g13 + 1) 39 (cellsMg mx) ∧ Bx V g16 32 #[.slice A16 Y.length k16] ∧ Bx V g19 32 #[.slice A19 X.length k19] ∧ Bx V (g19 + 1) 39 (cellsMg mx) ∧ Below w192.heap.size w192 V) _ := ⟨hHeld.1.later hb, hHeld.2.1.later hb, hHeld.2.2.1.later hb, hHeld.2.2.2.1.later hb, hHeld.2.2.2.2.1.later hb, hHeld.2.2.2.2.2.1.later hb, hHeld.2.2.2.2.2.2.trans (hb.mono hHeld.2.2.2.2.2.2.size)⟩
          clear hHeld hb
          go_wp2_with fail
          refine hK.out _ _ HS (fun hHeld => ?_)
          clear hK K HS
          try simp only [Act.put, List.setIfInBounds_toArray, List.set_cons_zero, List.set_cons_succ]
          refine wpAnyW_held (i := 34) (by kernel_rfl) (by simp only [List.getElem?_toArray, List.getElem?_cons_succ, List.getElem?_cons_zero]; rfl) (fun K hK => ?_)
          rw [if_pos (by rfl)]
          go_simp
          refine (HBX.out _ _ (HR19.out.below hHeld.2.2.2.2.2.2)).mono ?_
          rintro _ w8 ⟨rfl, hb⟩
          have HS : (fun V => Bx V g9 32 #[.slice AB Bg.length kB] ∧ Bx V g13 32 #[.slice A13 X.length k13] ∧ Bx V (g13 + 1) 39 (cellsMg mx) ∧ Bx V g16 32 #[.slice A16 Y.length k16] ∧ Bx V g19 32 #[.slice A19 X.length k19] ∧ Bx V (g19 + 1) 39 (cellsMg mx) ∧ Below w192.heap.size w192 V) _ := ⟨hHeld.1.later hb, hHeld.2.1.later hb, hHeld.2.2.1.later hb, hHeld.2.2.2.1.later hb, hHeld.2.2.2.2.1.later hb, hHeld.2.2.2.2.2.1.later hb, hHeld.2.2.2.2.2.2.trans (hb.mono hHeld.2.2.2.2.2.2.size)⟩
          clear hHeld hb
          go_wp2_with fail
          refine hK.out _ _ HS (fun hHeld => ?_)
          clear hK K HS
          try simp only [Act.put, List.setIfInBounds_toArray, List.set_cons_zero, List.set_cons_succ]
          refine wpAnyW_take (i := 35) (v := ?_) (by simp only [List.getElem?_toArray, List.getElem?_cons_succ, List.getElem?_cons_zero]; rfl) (by kernel_rfl) (by kernel_rfl) (by kernel_rfl) (by kernel_rfl) (by kernel_rfl) (fun _ _ _ h => h) (Or.inl ⟨by rfl, ?_⟩) (by assumption) ?_
          rotate_left 1
          · (intro w' hSw; go_simp; try with_reducible rfl)
          try simp only [Act.put, List.setIfInBounds_toArray, List.set_cons_zero, List.set_cons_succ]
          refine wpAnyW_take (i := 36) (v := ?_) (by simp only [List.getElem?_toArray, List.getElem?_cons_succ, List.getElem?_cons_zero]; rfl) (by kernel_rfl) (by kernel_rfl) (by kernel_rfl) (by kernel_rfl) (by kernel_rfl) (fun _ _ _ h => h) (Or.inl ⟨by rfl, ?_⟩) (by assumption) ?_
          rotate_left 1
          · (intro w' hSw; go_simp; try with_reducible rfl)
          try simp only [Act.put, List.setIfInBounds_toArray, List.set_cons_zero, List.set_cons_succ]
          refine wpAnyW_take (i := 37) (v := ?_) (by simp only [List.getElem?_toArray, List.getElem?_cons_succ, List.getElem?_cons_zero]; rfl) (by kernel_rfl) (by kernel_rfl) (by kernel_rfl) (by kernel_rfl) (by kernel_rfl) (fun _ _ _ h => h) (Or.inl ⟨by rfl, ?_⟩) (by assumption) ?_
          rotate_left 1
          · (intro w' hSw; go_simp; try with_reducible rfl)
          try simp only [Act.put, List.setIfInBounds_toArray, List.set_cons_zero, List.set_cons_succ]
          refine wpAnyW_take (i := 38) (v := ?_) (by simp only [List.getElem?_toArray, List.getElem?_cons_succ, List.getElem?_cons_zero]; rfl) (by kernel_rfl) (by kernel_rfl) (by kernel_rfl) (by kernel_rfl) (by kernel_rfl) (fun _ _ _ h => h) (Or.inl ⟨by rfl, ?_⟩) (by assumption) ?_
          rotate_left 1
          · (intro w' hSw; go_simp; try with_reducible rfl)
          try simp only [Act.put, List.setIfInBounds_toArray, List.set_cons_zero, List.set_cons_succ]
          refine wpAnyW_take (i := 39) (v := ?_) (by simp only [List.getElem?_toArray, List.getElem?_cons_succ, List.getElem?_cons_zero]; rfl) (by kernel_rfl) (by kernel_rfl) (by kernel_rfl) (by kernel_rfl) (by kernel_rfl) (fun _ _ _ h => h) (Or.inl ⟨by rfl, ?_⟩) (by assumption) ?_
          rotate_left 1
          · (intro w' hSw; have hq := hSw.2.2.2.1.cell 0 (.slice A16 Y.length k16) rfl; go_simp; try with_reducible rfl)
          try simp only [Act.put, List.setIfInBounds_toArray, List.set_cons_zero, List.set_cons_succ]
          refine wpAnyW_take (i := 40) (v := ?_) (by simp only [List.getElem?_toArray, List.getElem?_cons_succ, List.getElem?_cons_zero]; rfl) (by kernel_rfl) (by kernel_rfl) (by kernel_rfl) (by kernel_rfl) (by kernel_rfl) (fun _ _ _ h => h) (Or.inl ⟨by rfl, ?_⟩) (by assumption) ?_
          rotate_left 1
          · (intro w' hSw; go_simp; try with_reducible rfl)
          try simp only [Act.put, List.setIfInBounds_toArray, List.set_cons_zero, List.set_cons_succ]
          refine wpAnyW_take (i := 41) (v := ?_) (by simp only [List.getElem?_toArray, List.getElem?_cons_succ, List.getElem?_cons_zero]; rfl) (by kernel_rfl) (by kernel_rfl) (by kernel_rfl) (by kernel_rfl) (by kernel_rfl) (fun _ _ _ h => h) (Or.inl ⟨by rfl, ?_⟩) (by assumption) ?_
          rotate_left 1
          · (intro w' hSw; go_simp; try with_reducible rfl)
          try simp only [Act.put, List.setIfInBounds_toArray, List.set_cons_zero, List.set_cons_succ]
          refine wpAnyW_take (i := 42) (v := ?_) (by simp only [List.getElem?_toArray, List.getElem?_cons_succ, List.getElem?_cons_zero]; rfl) (by kernel_rfl) (by kernel_rfl) (by kernel_rfl) (by kernel_rfl) (by kernel_rfl) (fun _ _ _ h => h) (Or.inl ⟨by rfl, ?_⟩) (by assumption) ?_
          rotate_left 1
          · (intro w' hSw; go_simp; try with_reducible rfl)
          try simp only [Act.put, List.setIfInBounds_toArray, List.set_cons_zero, List.set_cons_succ]
          refine wpAnyW_take (i := 43) (v := ?_) (by simp only [List.getElem?_toArray, List.getElem?_cons_succ, List.getElem?_cons_zero]; rfl) (by kernel_rfl) (by kernel_rfl) (by kernel_rfl) (by kernel_rfl) (by kernel_rfl) (fun _ _ _ h => h) (Or.inl ⟨by rfl, ?_⟩) (by assumption) ?_
          rotate_left 1
          · (intro w' hSw; go_simp; try with_reducible rfl)
          try simp only [Act.put, List.setIfInBounds_toArray, List.set_cons_zero, List.set_cons_succ]
          refine wpAnyW_take (i := 44) (v := ?_) (by simp only [List.getElem?_toArray, List.getElem?_cons_succ, List.getElem?_cons_zero]; rfl) (by kernel_rfl) (by kernel_rfl) (by kernel_rfl) (by kernel_rfl) (by kernel_rfl) (fun _ _ _ h => h) (Or.inl ⟨by rfl, ?_⟩) (by assumption) ?_
          rotate_left 1
          · (intro w' hSw; go_simp; try with_reducible rfl)
          try simp only [Act.put, List.setIfInBounds_toArray, List.set_cons_zero, List.set_cons_succ]
          refine wpAnyW_freed (i := 45) (by kernel_rfl) (by kernel_rfl) (by simp only [List.getElem?_toArray, List.getElem?_cons_succ, List.getElem?_cons_zero]; rfl) (fun K hK => ?_)
          rw [if_pos (by rfl)]
          go_simp
          have HE := Lib.hid (HB.out.trans (hHeld.2.2.2.2.2.2.mono HB.out.size))
          refine hK.out _ _ ?_
          clear hK K hHeld
          try simp only [Act.put, List.setIfInBounds_toArray, List.set_cons_zero, List.set_cons_succ]
          refine wpAnyW_done (by kernel_rfl) ?_ _
          refine NoPanic.normal ?_
          go_wp2_with fail
          go_ret
          exact ⟨rfl, HE.out⟩
    · by_cases hp1 : p.tx.size ≤ 1000
      · have z1 : ¬ (1000 : Int) < (p.tx.size : Int) := by omega
        have z2 : (1000 : Int) < (q.tx.size : Int) := by omega
        clear hpq hp1 hea hp7 hsm
        go_enter Try.func8, Try.ntmps8
        go_wp2_with (first
          | (go_at_call 9; (with_reducible refine (HSH.out _).mono ?_); rintro e w1 ⟨rfl, hb⟩; replace HB := Lib.hid (HB.out.trans (hb.mono HB.out.size)); replace HP4 := Lib.hid (HP4.out.later hb); replace HP5 := Lib.hid (HP5.out.later hb); have p7 := HP4.out.cell 7 (.string p.tx) rfl; have q7 := HP5.out.cell 7 (.string q.tx) rfl; clear hb)
          | (go_at_call 13; (with_reducible refine (HSM.out _ _ (HV.out.below HB.out)).mono ?_); rintro e w2 ⟨rfl, rfl⟩))
        go_ret
        exact ⟨rfl, HB.out⟩
      · have z1 : (1000 : Int) < (p.tx.size : Int) := by omega
        clear hpq hp1 hea hp7 hsm
        go_enter Try.func8, Try.ntmps8
        go_wp2_with (first
          | (go_at_call 9; (with_reducible refine (HSH.out _).mono ?_); rintro e w1 ⟨rfl, hb⟩; replace HB := Lib.hid (HB.out.trans (hb.mono HB.out.size)); replace HP4 := Lib.hid (HP4.out.later hb); replace HP5 := Lib.hid (HP5.out.later hb); have p7 := HP4.out.cell 7 (.string p.tx) rfl; have q7 := HP5.out.cell 7 (.string q.tx) rfl; clear hb)
          | (go_at_call 13; (with_reducible refine (HSM.out _ _ (HV.out.below HB.out)).mono ?_); rintro e w2 ⟨rfl, rfl⟩))
        go_ret
        exact ⟨rfl, HB.out⟩

set_option maxRecDepth 100000 in
theorem lifted (os : Os) (started : os.Started) (H : Type) (enc : TypeId × Value → H) :
    ReturnsInHanded {} Try.checked os 8 .any (Rows.fragSharesSpec.pre6 enc Try.prog Try.f8 Rows.fragSharesRow.domain false) (Rows.fragSharesSpec.post enc Try.prog Try.f8 false true false false) := by
  refine returnsInHanded_of_change_sized (C := Try.checked) own started (by kernel_rfl) Try.func8
    (ChangeSpec.witness6 (enc := enc) (C := Try.checked) false ⟨#[], #[.slice none 0 0, .agg #[.int .u32 0, .bool false, .bool false, .bool false, .int .u16 0, .int .u16 0, .int .u32 0, .string ⟨#[]⟩], .agg #[.int .u32 0, .bool false, .bool false, .bool false, .int .u16 0, .int .u16 0, .int .u32 0, .string ⟨#[]⟩]], []⟩ 8 (by kernel_rfl) (by kernel_rfl) (by kernel_rfl) (by kernel_rfl)) ?_
  intro W base args ds gs before hval0 hW _ hreach _
  have hval : ∀ (j : Nat) t v, Try.f8.params[j]? = some t → args[j]? = some v → Value.okWide Try.prog W .any base t v := hval0
  obtain ⟨p, q, hA0, _, _, _, _⟩ := id hW
  have hA : DataW.TrodAll enc Try.prog W 0 (fun _ => true) true Try.f8.params.toList args.toList ds p := hA0
  rw [Try.params8] at hA hval
  obtain ⟨v0, vs0, d0, ds0, p0, q0, hargs, rfl, rfl, h0, r0⟩ := trodAll_cons hA
  obtain ⟨v1, vs1, d1, ds1, p1, q1, rfl, rfl, rfl, h1, r1⟩ := trodAll_cons r0
  obtain ⟨v2, vs2, d2, ds2, p2, q2, rfl, rfl, rfl, h2, r2⟩ := trodAll_cons r1
  obtain ⟨rfl, rfl, rfl⟩ := trodAll_nil r2
  obtain rfl : args = #[v0, v1, v2] := by cases args; simp_all
  obtain ⟨l0, w0, m0⟩ := pieces_in (hval 0 29 v0 rfl rfl) h0
  obtain ⟨s1, rfl, m1⟩ := piece_in (hval 1 43 v1 rfl rfl) h1
  obtain ⟨s2, rfl, m2⟩ := piece_in (hval 2 43 v2 rfl rfl) h2
  refine (walk l0 s1 s2 v0 W w0).mono fun e W' ⟨he, hg⟩ => ?_
  subst he
  exact ⟨_, rfl, law_post laidOut Try.underlying4 (by kernel_rfl) (by kernel_rfl) rfl hW (by simp [Rows.fragSharesSpec]) hg⟩

theorem proved : Rows.FragSharesSaid :=
  OpenClaim.holds_of_wide 8 Try.f8 rfl rfl rfl rfl rfl rfl rfl ⟨rfl, rfl, rfl, rfl, rfl⟩ rfl rfl rfl rfl rfl (by kernel_rfl) Try.func8 (by kernel_rfl)
    (of_decide_eq_true (by kernel_rfl)) (by unfold Func.isWrapper; first | (rw [if_pos (by decide +kernel)]; kernel_rfl) | (rw [if_neg (by decide +kernel)]; exact ⟨rfl, rfl⟩))
    (fun os started H enc _ => lifted os started H enc)
#print axioms proved
end Go.Proofs.Ytblepnbmjehikaa.fragShares
