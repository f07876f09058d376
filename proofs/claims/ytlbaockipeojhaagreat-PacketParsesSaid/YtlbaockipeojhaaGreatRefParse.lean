/-
  The document's answer to layer 6: a row parsed: contract, whatever text.
-/
import Derived.Test.YtlbaockipeojhaaGreatRow
import Derived.Test.YtlbaockipeojhaaGreatFirst
import Derived.Test.YtlbaockipeojhaaGreatRSmall
namespace Go.Proofs.YtlbaockipeojhaaGreat
open Go.RowKit
set_option linter.unusedVariables false

/-- What the reference's round asks of the bytes that are left. -/
theorem drop_byte (L : List UInt8) (p i : Nat) : byteAt (L.drop p) i = byteAt L (p + i) := by
  unfold byteAt
  rw [List.getD_eq_getElem?_getD, List.getD_eq_getElem?_getD, List.getElem?_drop]
theorem num_at (L : List UInt8) (p k : Nat) : num (L.drop p) k = num L (p + k) := by
  unfold num
  rw [drop_byte, drop_byte, Nat.add_assoc]
theorem tail_at (s : ByteArray) (p n q : Nat) (hq : q = min (padN n) (s.size - p - n)) (hn : n = num (s.data.toList.drop p) 2) : (s.extract (p + n) (p + n + q)).data.toList = tailL (s.data.toList.drop p) ∧ (tailL (s.data.toList.drop p)).length = q := by
  subst hn
  have hl := size_list s
  constructor
  · rw [cut_list, Nat.add_sub_cancel_left]
    unfold tailL
    rw [List.drop_drop, hq, List.take_eq_take_iff, List.length_drop, ← hl]
    omega
  · unfold tailL
    rw [List.length_take, List.length_drop, List.length_drop, ← hl, hq]
theorem item_at (s : ByteArray) (p n : Nat) (hn : n = num (s.data.toList.drop p) 2) (h4 : 4 ≤ n) : itemL (s.data.toList.drop p) = (((num s.data.toList p : Nat) : Int), s.extract (p + 4) (p + n)) := by
  subst hn
  unfold itemL valL
  rw [num_at s.data.toList p 0, Nat.add_zero]
  congr 1
  apply bytes_ext
  rw [cut_list, List.drop_drop, show p + num (s.data.toList.drop p) 2 - (p + 4) = num (s.data.toList.drop p) 2 - 4 by omega]
theorem belowN {B : Nat} {a w : World} (h : Below B a w) (n : Nat) : Below B a (w.drewN n) := ⟨h.os, h.tape, h.output, h.size, h.block⟩
theorem zeros_eq {t : ByteArray} {q : Nat} (h : t.size = q) : (t.toList == (zerosB q).toList) = decide (t.data.toList = zerosL t.data.toList.length) := by
  rw [ByteArray.toList_eq, ByteArray.toList_eq, ← size_list, h]
  show (t.data.toList == zerosL q) = _
  exact Bool.eq_iff_iff.2 (by simp)

/-- The round's end, where the row may end ahead of the noughts. -/
theorem glue_on (L : List UInt8) (p q : Nat) (acc : List Item) (h : p < L.length) (he : errL (L.drop p) = 0) (hq : q = min (p + sizeL (L.drop p)) L.length) :
    glue p acc (parseL (L.drop p)) = glue q (acc ++ [itemL (L.drop p)]) (parseL (L.drop q)) := by
  rw [glue_step L p acc h he]
  by_cases hc : p + sizeL (L.drop p) ≤ L.length
  · rw [hq, Nat.min_eq_left hc]
  · rw [glue_end L _ _ (by omega), glue_end L q _ (by omega)]
set_option maxHeartbeats 4000000 in
set_option maxRecDepth 10000 in
theorem rparse_any (s : ByteArray) (hs : s.size ≤ 1000000) (w : World) :
    Calls Tryz.prog 118 #[.string s] w fun e w' => ∃ v, e = .returned (.tuple #[v, .int .i64 ((parseB s).2.1 : Nat), .int .i64 ((parseB s).2.2 : Nat)]) ∧ OwnG w' w.heap.size 105 2 v (parseB s).1.length (flatI (parseB s).1) ∧ Below w.heap.size w w' := by
  by_cases hlong : 4000 < s.size
  · have e : parseB s = ([], 0, 4) := by unfold parseB; rw [if_pos hlong]
    rw [e]
    have hl : (4000 : Int) < (s.size : Int) := by omega
    clear hlong e
    go_enter Tryz.func118, Tryz.ntmps118
    go_wp2_with fail
    refine bodyPost_ret (results_tmp3 rfl _ _ _) rfl ?_
    exact ⟨_, rfl, OwnG.nil _ _ _ _, Below.refl _ _⟩
  have e : parseB s = parseL s.data.toList := by unfold parseB; rw [if_neg hlong]
  rw [e]
  clear e
  have hl : ¬ (4000 : Int) < (s.size : Int) := by omega
  have hsz : s.size ≤ 4000 := by omega
  obtain ⟨i0, hi0, hz0, hz1, hz2⟩ := info_parts info63
  have HI := Lib.hid hi0
  have HZ0 := Lib.hid hz0
  have HZ1 := Lib.hid hz1
  have HZ2 := Lib.hid hz2
  have hL := size_list s
  have HG0 := Lib.hid (glue_zero s.data.toList).symm
  have HST := Lib.hid (fun p q acc h he hq => glue_on s.data.toList p q acc h he hq)
  have HEN := Lib.hid (fun p acc h => glue_end s.data.toList p acc h)
  have HER := Lib.hid (fun p acc h he => glue_err s.data.toList p acc h he)
  have HD := Lib.hid (fun p => show (s.data.toList.drop p).length = s.size - p by rw [List.length_drop, ← hL])
  have HTA := Lib.hid (fun p n q hq hn => tail_at s p n q hq hn)
  have HIA := Lib.hid (fun p n hn h4 => item_at s p n hn h4)
  have HBY := Lib.hid (fun k (h : k < s.size) => byteAt_byte (s := s) h)
  have HNA := Lib.hid (fun p k => num_at s.data.toList p k)
  have HLL := Lib.hid hL
  generalize s.data.toList = L at *
  clear hi0 hz0 hz1 hz2 hL hlong
  go_enter Tryz.func118, Tryz.ntmps118
  go_wp2_with fail
  go_loopw [5, 6] (fun vr i wr => ∃ (p : Nat) (acc : List Item), p ≤ s.size ∧ acc.length ≤ p ∧ i = .int .i64 p ∧ Hid (OwnG wr w.heap.size 105 2 vr acc.length (flatI acc) ∧ Below w.heap.size w wr) ∧ Hid (parseL L = glue p acc (parseL (L.drop p))))
    (fun _ i _ => s.size - (intOf i).toNat)
  case atStart => exact ⟨0, [], Nat.zero_le _, Nat.zero_le _, rfl, Lib.hid ⟨OwnG.nil _ _ _ _, Below.refl _ _⟩, HG0⟩
  case round =>
    obtain ⟨p, acc, hp, hacc, rfl, HR, HG⟩ := hrel
    by_cases hlt : p < s.size
    · have HE := Lib.hid (fun he => HG.out.trans (HER.out p acc (by rw [← HLL.out]; exact hlt) he))
      have HS := Lib.hid (fun q he hq => HG.out.trans (HST.out p q acc (by rw [← HLL.out]; exact hlt) he hq))
      have hwl : IntKind.i64.wrap ((s.size : Int) - (p : Int)) = (s.size : Int) - (p : Int) := by rw [IntKind.wrap_i64]; omega
      have HDp := HD.out p
      by_cases c0 : s.size - p < 4
      · have e := (first_short (L := L.drop p) (by omega)).2
        have HE2 := Lib.hid (HE.out (by omega))
        rw [e] at HE2
        have h0 : (s.size : Int) - (p : Int) < 4 := by omega
        clear e c0 HDp
        go_wp2_with fail
        refine bodyPost_ret (results_tmp3 rfl _ _ _) rfl ?_
        rw [HE2.out]
        exact ⟨_, rfl, OwnG.nil _ _ _ _, HR.out.2⟩
      have h0 : ¬ (s.size : Int) - (p : Int) < 4 := by omega
      have x2 := (HBY.out (p + 2) (by omega)).symm
      have x3 := (HBY.out (p + 3) (by omega)).symm
      have l2 := byteAt_lt L (p + 2)
      have l3 := byteAt_lt L (p + 3)
      have HN := Lib.hid (show num (L.drop p) 2 = byteAt L (p + 2) * 256 + byteAt L (p + 3) from (HNA.out p 2).trans rfl)
      have hn := num_lt (L.drop p) 2
      have HB2 := Lib.hid (show byteAt L (p + 2) = byteAt L (p + 2) from rfl)
      generalize byteAt L (p + 2) = y2 at *
      generalize byteAt L (p + 3) = y3 at *
      have i1 : (0 : Int) ≤ (p : Int) + 2 := by omega
      have i2 : (p : Int) + 2 < (s.size : Int) := by omega
      have i3 : (0 : Int) ≤ (p : Int) + 3 := by omega
      have i4 : (p : Int) + 3 < (s.size : Int) := by omega
      have i5 : p + 2 < s.size := by omega
      have i6 : p + 3 < s.size := by omega
      obtain ⟨n, hnd⟩ : ∃ n, n = num (L.drop p) 2 := ⟨_, rfl⟩
      have hnn : ((y2 : Int) * 256 + (y3 : Int)) = (n : Int) := by rw [hnd, HN.out]; omega
      have hn' : n < 65536 := by rw [hnd]; exact hn
      have HND := Lib.hid hnd
      clear hn HN HB2 hnd
      go_wp2_with fail
      go_quiet (fail)
      by_cases c1 : n < 4
      · have h1 : (n : Int) < 4 := by omega
        have e := (first_low (L := L.drop p) (by omega) (by have := HND.out; omega) (by have := HND.out; omega)).2
        have HE2 := Lib.hid (HE.out (by omega))
        rw [e] at HE2
        clear e HE HS HDp c1
        go_wp2_with fail
        refine bodyPost_ret (results_tmp3 rfl _ _ _) rfl ?_
        rw [HE2.out]
        exact ⟨_, rfl, OwnG.nil _ _ _ _, belowN HR.out.2 _⟩
      have h1 : ¬ (n : Int) < 4 := by omega
      by_cases c2 : s.size - p < n
      · have h2 : (s.size : Int) - (p : Int) < (n : Int) := by omega
        have e := (first_cut (L := L.drop p) (by omega) (by have := HND.out; omega)).2
        have HE2 := Lib.hid (HE.out (by omega))
        rw [e] at HE2
        clear e HE HS HDp c2
        go_wp2_with fail
        refine bodyPost_ret (results_tmp3 rfl _ _ _) rfl ?_
        rw [HE2.out]
        exact ⟨_, rfl, OwnG.nil _ _ _ _, belowN HR.out.2 _⟩
      have h2 : ¬ (s.size : Int) - (p : Int) < (n : Int) := by omega
      have hw4 : IntKind.i64.wrap ((n : Int) - 4) = (n : Int) - 4 := by rw [IntKind.wrap_i64]; omega
      by_cases c3 : 1404 < n
      · have h3 : (1400 : Int) < (n : Int) - 4 := by omega
        have e := (first_long (L := L.drop p) (by omega) (by have := HND.out; omega) (by have := HND.out; omega) (by have := HND.out; omega)).2
        have HE2 := Lib.hid (HE.out (by omega))
        rw [e] at HE2
        clear e HE HS HDp c3
        go_wp2_with fail
        refine bodyPost_ret (results_tmp3 rfl _ _ _) rfl ?_
        rw [HE2.out]
        exact ⟨_, rfl, OwnG.nil _ _ _ _, belowN HR.out.2 _⟩
      have h3 : ¬ (1400 : Int) < (n : Int) - 4 := by omega
      have hnd := HND.out
      have hpd := padN_lt n
      obtain ⟨q, hq⟩ : ∃ q, q = min (padN n) (s.size - p - n) := ⟨_, rfl⟩
      obtain ⟨ta, tb⟩ := HTA.out p n q hq hnd
      have hzz := zeros_eq (t := s.extract (p + n) (p + n + q)) (q := q) (by rw [size_list, ta, tb])
      rw [ta] at hzz
      have HP := Lib.hid (show ∀ W, Calls Tryz.prog 56 #[.int .i64 (n : Int)] W fun e w' => e = .returned (.int .i64 (padN n : Nat)) ∧ w' = W from fun W => by rw [← padI_nat]; exact rpad_any _ (by omega) (by omega) W)
      have HNO := Lib.hid (fun W => rnoughts_any q (by omega) W)
      have hwl2 : IntKind.i64.wrap ((s.size : Int) - (p : Int) - (n : Int)) = (s.size : Int) - (p : Int) - (n : Int) := by rw [IntKind.wrap_i64]; omega
      have hm : min ((padN n : Nat) : Int) ((s.size : Int) - (p : Int) - (n : Int)) = (q : Int) := by omega
      have HSZ := Lib.hid (show p + n + q = min (p + sizeL (L.drop p)) L.length from by rw [← HLL.out, hq]; unfold sizeL; rw [← hnd]; omega)
      have hw5 : IntKind.i64.wrap ((p : Int) + (n : Int)) = (p : Int) + (n : Int) := by rw [IntKind.wrap_i64]; omega
      have hw6 : IntKind.i64.wrap ((p : Int) + (n : Int) + (q : Int)) = (p : Int) + (n : Int) + (q : Int) := by rw [IntKind.wrap_i64]; omega
      have t1 : ((p : Int) + (n : Int)).toNat = p + n := by omega
      have t2 : ((p : Int) + (n : Int) + (q : Int)).toNat = p + n + q := by omega
      have t3 : ((p : Int) + 4).toNat = p + 4 := by omega
      have j1 : (0 : Int) ≤ (p : Int) + (n : Int) := by omega
      have j2 : (p : Int) + (n : Int) ≤ (p : Int) + (n : Int) + (q : Int) := by omega
      have j3 : (p : Int) + (n : Int) + (q : Int) ≤ (s.size : Int) := by omega
      have j4 : p + n ≤ p + n + q := by omega
      have j5 : p + n + q ≤ s.size := by omega
      have HT1 := Lib.hid (fun h => (first_tail (L := L.drop p) (by omega) (by omega) (by omega) (by omega) h).2)
      have HT2 := Lib.hid (fun h => (first_good (L := L.drop p) (by omega) (by omega) (by omega) (by omega) h).2)
      have HIT := Lib.hid (HIA.out p n hnd (by omega))
      generalize decide (tailL (L.drop p) = zerosL (tailL (L.drop p)).length) = zz at *
      generalize padN n = pd at *
      clear ta tb hq hnd
      generalize zerosB q = zb at *
      cases zz with
      | false =>
        have e := HT1.out rfl
        have HE2 := Lib.hid (HE.out (by omega))
        rw [e] at HE2
        clear e HE HS HDp HT1 HT2 HIT
        go_wp2_with (go_at_call 56; ((with_reducible refine (HP.out _).mono ?_); rintro e w1 ⟨rfl, rfl⟩))
        go_region_held3 (fun w' => Below w.heap.size w w')
          (first | exact (belowN HR.out.2 _).drew | assumption)
          (first | (go_at_call 111; (with_reducible refine (HNO.out _).mono ?_); rintro e w2 ⟨rfl, rfl⟩))
        go_wp2_with fail
        refine bodyPost_ret (results_tmp3 rfl _ _ _) rfl ?_
        rw [HE2.out]
        exact ⟨_, rfl, OwnG.nil _ _ _ _, belowN HR.out.2 _⟩
      | true =>
        have e := HT2.out rfl
        have HS2 := Lib.hid (HS.out (p + n + q) e HSZ.out)
        rw [HIT.out] at HS2
        have y0 := (HBY.out p (by omega)).symm
        have y1 := (HBY.out (p + 1) (by omega)).symm
        have m0 := byteAt_lt L p
        have m1 := byteAt_lt L (p + 1)
        have HNN := Lib.hid (show num L p = byteAt L p * 256 + byteAt L (p + 1) from rfl)
        generalize byteAt L p = z0 at *
        generalize byteAt L (p + 1) = z1 at *
        generalize num L p = n0 at *
        have hnn0 : ((z0 : Int) * 256 + (z1 : Int)) = (n0 : Int) := by rw [HNN.out]; omega
        have hn0 : n0 < 65536 := by omega
        have hw7 : IntKind.i64.wrap ((p : Int) + 1) = (p : Int) + 1 := by rw [IntKind.wrap_i64]; omega
        have hw8 : IntKind.i64.wrap ((p : Int) + 4) = (p : Int) + 4 := by rw [IntKind.wrap_i64]; omega
        have hw9 : IntKind.i64.wrap ((z0 : Int) * 256 + (z1 : Int)) = (n0 : Int) := by rw [hnn0, IntKind.wrap_i64]; omega
        have hwA : IntKind.i64.wrap (z0 : Int) = (z0 : Int) := by rw [IntKind.wrap_i64]; omega
        have hwB : IntKind.i64.wrap (z1 : Int) = (z1 : Int) := by rw [IntKind.wrap_i64]; omega
        have hwC : IntKind.i64.wrap ((z0 : Int) * 256) = (z0 : Int) * 256 := by rw [IntKind.wrap_i64]; omega
        have hwD : IntKind.i64.wrap (n0 : Int) = (n0 : Int) := by rw [IntKind.wrap_i64]; omega
        have t4 : ((p : Int) + 1).toNat = p + 1 := by omega
        have g0 : (0 : Int) ≤ (p : Int) := by omega
        have g1 : (p : Int) < (s.size : Int) := by omega
        have g2 : (0 : Int) ≤ (p : Int) + 1 := by omega
        have g3 : (p : Int) + 1 < (s.size : Int) := by omega
        have g4 : (0 : Int) ≤ (p : Int) + 4 := by omega
        have g5 : (p : Int) + 4 ≤ (p : Int) + (n : Int) := by omega
        have g6 : (p : Int) + (n : Int) ≤ (s.size : Int) := by omega
        have g7 : p < s.size := by omega
        have g8 : p + 1 < s.size := by omega
        have g9 : p + 4 ≤ p + n := by omega
        have g10 : p + n ≤ s.size := by omega
        clear e HE HS HDp HT1 HT2 HIT
        go_wp2_with (go_at_call 56; ((with_reducible refine (HP.out _).mono ?_); rintro e w1 ⟨rfl, rfl⟩))
        go_region_held3 (fun w' => Below w.heap.size w w')
          (first | exact (belowN HR.out.2 _).drew | assumption)
          (first | (go_at_call 111; (with_reducible refine (HNO.out _).mono ?_); rintro e w2 ⟨rfl, rfl⟩))
        go_wp2_with fail
        have HR2 : Hid (OwnG (wr.drewN (nq + 1)) w.heap.size 105 2 u5 acc.length (flatI acc) ∧ Below w.heap.size w (wr.drewN (nq + 1))) := Lib.hid ⟨HR.out.1.drewN _, belowN HR.out.2 _⟩
        generalize wr.drewN (nq + 1) = wX at *
        refine wp_region_noPanic ?_
        refine wp_region_held_drew (S := (fun w' => Below w.heap.size w w')) (by kernel_rfl) ?_ (fun hHeld => ?_)
        · (first | exact HR2.out.2.drew | exact (HR2.out.2.alloc HR2.out.2.size _).drew | exact hb58 | assumption)
        refine k9 0 ?_ (y := ?_) (h := ?_)
        rotate_left 1
        · (intro w' hSw; (try dsimp only at hSw); go_simp; try with_reducible rfl)
        try simp only [Act.put, p9a, p9z, p9s]
        refine k9 1 ?_ (y := ?_) (h := ?_)
        rotate_left 1
        · (intro w' hSw; (try dsimp only at hSw); go_simp; try with_reducible rfl)
        try simp only [Act.put, p9a, p9z, p9s]
        refine k9 2 ?_ (y := ?_) (h := ?_)
        rotate_left 1
        · (intro w' hSw; (try dsimp only at hSw); go_simp; try with_reducible rfl)
        try simp only [Act.put, p9a, p9z, p9s]
        refine k9 3 ?_ (y := ?_) (h := ?_)
        rotate_left 1
        · (intro w' hSw; (try dsimp only at hSw); go_simp; try with_reducible rfl)
        try simp only [Act.put, p9a, p9z, p9s]
        refine k9 4 ?_ (y := ?_) (h := ?_)
        rotate_left 1
        · (intro w' hSw; (try dsimp only at hSw); go_simp; try with_reducible rfl)
        try simp only [Act.put, p9a, p9z, p9s]
        refine k9 5 ?_ (y := ?_) (h := ?_)
        rotate_left 1
        · (intro w' hSw; (try dsimp only at hSw); go_simp; try with_reducible rfl)
        try simp only [Act.put, p9a, p9z, p9s]
        refine k9 6 ?_ (y := ?_) (h := ?_)
        rotate_left 1
        · (intro w' hSw; (try dsimp only at hSw); go_simp; try with_reducible rfl)
        try simp only [Act.put, p9a, p9z, p9s]
        refine k9 7 ?_ (y := ?_) (h := ?_)
        rotate_left 1
        · (intro w' hSw; (try dsimp only at hSw); go_simp; try with_reducible rfl)
        try simp only [Act.put, p9a, p9z, p9s]
        refine k9 8 ?_ (y := ?_) (h := ?_)
        rotate_left 1
        · (intro w' hSw; (try dsimp only at hSw); go_simp; try with_reducible rfl)
        try simp only [Act.put, p9a, p9z, p9s]
        refine k9 9 ?_ (y := ?_) (h := ?_)
        rotate_left 1
        · (intro w' hSw; (try dsimp only at hSw); go_simp; try with_reducible rfl)
        try simp only [Act.put, p9a, p9z, p9s]
        refine k9 10 ?_ (y := ?_) (h := ?_)
        rotate_left 1
        · (intro w' hSw; (try dsimp only at hSw); go_simp; try with_reducible rfl)
        try simp only [Act.put, p9a, p9z, p9s]
        refine k9 11 ?_ (y := ?_) (h := ?_)
        rotate_left 1
        · (intro w' hSw; (try dsimp only at hSw); go_simp; try with_reducible rfl)
        try simp only [Act.put, p9a, p9z, p9s]
        refine k9 12 ?_ (y := ?_) (h := ?_)
        rotate_left 1
        · (intro w' hSw; (try dsimp only at hSw); go_simp; try with_reducible rfl)
        try simp only [Act.put, p9a, p9z, p9s]
        refine k9 13 ?_ (y := ?_) (h := ?_)
        rotate_left 1
        · (intro w' hSw; (try dsimp only at hSw); go_simp; try with_reducible rfl)
        try simp only [Act.put, p9a, p9z, p9s]
        refine k9 14 ?_ (y := ?_) (h := ?_)
        rotate_left 1
        · (intro w' hSw; (try dsimp only at hSw); go_simp; try with_reducible rfl)
        try simp only [Act.put, p9a, p9z, p9s]
        refine k9 15 ?_ (y := ?_) (h := ?_)
        rotate_left 1
        · (intro w' hSw; (try dsimp only at hSw); go_simp; try with_reducible rfl)
        try simp only [Act.put, p9a, p9z, p9s]
        refine k9 16 ?_ (y := ?_) (h := ?_)
        rotate_left 1
        · (intro w' hSw; (try dsimp only at hSw); go_simp; try with_reducible rfl)
        try simp only [Act.put, p9a, p9z, p9s]
        refine k9 17 ?_ (y := ?_) (h := ?_)
        rotate_left 1
        · (intro w' hSw; (try dsimp only at hSw); go_simp; try with_reducible rfl)
        try simp only [Act.put, p9a, p9z, p9s]
        refine k9 18 ?_ (y := ?_) (h := ?_)
        rotate_left 1
        · (intro w' hSw; (try dsimp only at hSw); go_simp; try with_reducible rfl)
        try simp only [Act.put, p9a, p9z, p9s]
        refine k9 19 ?_ (y := ?_) (h := ?_)
        rotate_left 1
        · (intro w' hSw; (try dsimp only at hSw); go_simp; try with_reducible rfl)
        try simp only [Act.put, p9a, p9z, p9s]
        refine wpAnyH_ready (rs := [20]) (by kernel_rfl) (by simp) ?_
        refine AllReadyH.cons (by simp only [q9a, q9s, q9z]; rfl) (fun K hK => ?_) AllReadyH.nil
        go_simp
        refine hK.out _ _ ?_ (fun hHeld => ?_)
        · (first | exact HR2.out.2.drew | exact (HR2.out.2.alloc HR2.out.2.size _).drew | exact hb58 | assumption)
        clear hK K
        try simp only [Act.put, p9a, p9z, p9s]
        refine wpAnyH_ready (rs := [21]) (by kernel_rfl) (by simp) ?_
        refine AllReadyH.cons (by simp only [q9a, q9s, q9z]; rfl) (fun K hK => ?_) AllReadyH.nil
        refine step_append_fed _ (by rfl) (.tmp 70) (.tmp 90) 72 72 (by rfl) w 105 i0 _ 2 24 Tryz.underlying72 (.inr ⟨_, Tryz.underlying72⟩) HI.out HZ0.out HZ1.out HZ2.out rfl _ acc.length _ (by rfl) ((HR2.out.1.alloc _).drew) _ 1 [.int .i64 (n0 : Int), .string (s.extract (p + 4) (p + n))] (by rfl) (Fed.heap (fed_two wX _ _ _ rfl rfl) rfl) ?_ ?_ ?_ ?_
        · simp only [maxLen]; omega
        · omega
        · assumption
        intro v58 w58 hown58 hg58 hb58
        refine hK.out _ _ ?_ (fun hHeld => ?_)
        · (first | exact HR2.out.2.drew | exact (HR2.out.2.alloc HR2.out.2.size _).drew | exact hb58 | assumption)
        clear hK K
        try simp only [Act.put, p9a, p9z, p9s]
        refine k9 22 ?_ (y := ?_) (h := ?_)
        rotate_left 1
        · (intro w' hSw; (try dsimp only at hSw); go_simp; try with_reducible rfl)
        try simp only [Act.put, p9a, p9z, p9s]
        refine wpAnyH_done (by kernel_rfl) ?_ _
        refine NoPanic.normal ?_
        clear hHeld
        have HQ := Lib.hid (And.intro hown58 hb58)
        clear hown58 hg58 hb58
        go_wp2_with fail
        go_roundw
        case rel => exact ⟨p + n + q, acc ++ [((n0 : Int), s.extract (p + 4) (p + n))], by omega, by rw [List.length_append]; simp; omega, by go_num, Lib.hid ⟨by rw [List.length_append, flatI_append]; exact HQ.out.1, HQ.out.2⟩, HS2⟩
        case measure => simp [intOf]; omega
    · obtain rfl : p = s.size := by omega
      have e := HG.out.trans (HEN.out s.size acc (by rw [← HLL.out]; exact Nat.le_refl _))
      have HE2 := Lib.hid e
      clear e
      go_wp2_with fail
      refine bodyPost_ret (results_tmp3 rfl _ _ _) rfl ?_
      rw [HE2.out]
      exact ⟨_, rfl, HR.out.1, HR.out.2⟩
end Go.Proofs.YtlbaockipeojhaaGreat
