/-
  What a Sack tells of gaps and of what came twice, read: contracts.
-/
import Derived.Test.YtjdnlolhcjalmaaSetNums
import Derived.Laws.AppendOwn
import Derived.LoopN
namespace Go.Proofs.Ytjdnlolhcjalmaa
open Go.RowKit
set_option linter.unusedVariables false
set_option linter.unusedSimpArgs false
set_option maxRecDepth 100000

theorem cut_cut (s : ByteArray) (a b : Nat) : cutB (cutB s a) b = cutB s (a + b) := by
  unfold cutB
  rw [toB_list, List.drop_drop]
theorem cut_zero (s : ByteArray) : cutB s 0 = s := by unfold cutB; rw [List.drop_zero, ofB]
theorem cut_all (s : ByteArray) : cutB s s.size = noB := by
  unfold cutB
  rw [List.drop_of_length_le (by rw [← size_list]; omega)]
  rfl
theorem byteAt_behind (L : List UInt8) (a i : Nat) : byteAt (L.drop a) i = byteAt L (a + i) := by
  unfold byteAt
  rw [List.getD_eq_getElem?_getD, List.getD_eq_getElem?_getD, List.getElem?_drop]
theorem num_behind (L : List UInt8) (a i : Nat) : num (L.drop a) i = num L (a + i) := by
  unfold num
  rw [byteAt_behind, byteAt_behind, Nat.add_assoc]
theorem rd16_at (s : ByteArray) (a : Nat) (q : Bool) (h : a + 2 ≤ s.size) : rd16 (cutB s a) q = (num s.data.toList a, cutB s (a + 2), q) := by
  unfold rd16
  rw [if_neg (by rw [cut_size]; omega), cut_cut]
  have : (cutB s a).data.toList = s.data.toList.drop a := rfl
  rw [this, num_behind, Nat.add_zero]
theorem rd32_at (s : ByteArray) (a : Nat) (q : Bool) (h : a + 4 ≤ s.size) : rd32 (cutB s a) q = (num4 s.data.toList a, cutB s (a + 4), q) := by
  unfold rd32
  rw [if_neg (by rw [cut_size]; omega), cut_cut]
  have : (cutB s a).data.toList = s.data.toList.drop a := rfl
  rw [this]
  unfold num4
  rw [num_behind, num_behind, Nat.add_zero]
theorem gapsAt_take (L : List UInt8) (n k : Nat) (h : k < n) : flatG ((gapsAt L n).take (k + 1)) = flatG ((gapsAt L n).take k) ++ [.int .u16 ((num L (4 * k) : Nat) : Int), .int .u16 ((num L (4 * k + 2) : Nat) : Int)] := by
  have hl : k < (gapsAt L n).length := by simp [gapsAt, h]
  rw [List.take_succ_eq_append_getElem hl, flatG_append]
  congr 1
  simp [gapsAt, flatG]
theorem dupsAt_take (L : List UInt8) (p n k : Nat) (h : k < n) : ((dupsAt L p n).take (k + 1)).map encN = ((dupsAt L p n).take k).map encN ++ [.int .u32 ((num4 L (p + 4 * k) : Nat) : Int)] := by
  have hl : k < (dupsAt L p n).length := by simp [dupsAt, h]
  rw [List.take_succ_eq_append_getElem hl, List.map_append]
  congr 1
  simp [dupsAt, encN]
theorem gapsAt_full (L : List UInt8) (n : Nat) : (gapsAt L n).take n = gapsAt L n := List.take_of_length_le (by simp [gapsAt])
theorem dupsAt_full (L : List UInt8) (p n : Nat) : (dupsAt L p n).take n = dupsAt L p n := List.take_of_length_le (by simp [dupsAt])

/-- Of what was there but block r has turned. -/
theorem Touch.grew {r : Nat} {a b : World} (h : Touch (· = r) a b) : a.grownBy b (some r) := ⟨h.os, h.tape, h.output, by rw [h.size]; exact Nat.le_refl _, fun k _ hk => h.block k fun e => hk (by rw [e])⟩
theorem grew_on {a b c : World} {row row' : Option Nat} (h : a.grownBy b row) (k : b.grownBy c row') (hrow : ∀ j, row' = some j → row = some j ∨ a.heap.size ≤ j) : a.grownBy c row :=
  ⟨k.os.trans h.os, k.tape.trans h.tape, k.output.trans h.output, Nat.le_trans h.size k.size, fun i hi hne => (k.block i (Nat.lt_of_lt_of_le hi h.size) fun e => (hrow i e.symm).elim (fun x => hne x.symm) (fun x => by omega)).trans (h.block i hi hne)⟩
theorem own_grew {w w' : World} {B r : Nat} {e : TypeId} {size : Nat} {v : Value} {n : Nat} {xs : List Value} (h : w.ownsRow B e size v n xs) (hg : w.grownBy w' (some r)) (hr : r < B) : w'.ownsRow B e size v n xs :=
  h.kept hg (.inr fun e => by have := (h.lt r e).1; omega)
theorem grew_alloc (w : World) (o : Obj) (row : Option Nat) : w.grownBy (w.alloc o) row := World.grownBy_alloc w o row
theorem gapInfo : (Try.prog.info? 98).map (fun i => (i.zero, i.size, i.bytes)) = some (some (.agg #[.int .u16 0, .int .u16 0]), 2, 4) := by kernel_rfl
theorem dupInfo : (Try.prog.info? 22).map (fun i => (i.zero, i.size, i.bytes)) = some (some (.int .u32 0), 1, 4) := by kernel_rfl
/-- What is read, lies so; but block r nothing of what was there has turned. -/
def RepsPost (r : Nat) (R : List (Nat × Nat) × List Nat × ByteArray × Bool) (w : World) (e : Ending) (w' : World) : Prop :=
  ∃ gv dv, e = .returned (.tuple #[gv, dv]) ∧ RowG w' gv R.1 ∧ RowN w' dv R.2.1 ∧ w'.heap[r]? = some (.cells #[.string R.2.2.1, .bool R.2.2.2] 70 (0, 0)) ∧ w.grownBy w' (some r) ∧ (∀ j, gv.ownBlock = some j → w.heap.size ≤ j) ∧ ∀ j, dv.ownBlock = some j → w.heap.size ≤ j
set_option maxHeartbeats 4000000 in
theorem reps_any (r : Nat) (s : ByteArray) (hs : s.size ≤ 1000000) (b : Bool) (w : World) (h : w.heap[r]? = some (.cells #[.string s, .bool b] 70 (0, 0))) :
    Calls Try.prog 60 #[.pointer (some ⟨r, 0, none⟩)] w (RepsPost r (repsS s b) w) := by
  have hr : r < w.heap.size := (Array.getElem?_eq_some_iff.1 h).1
  have H1 := Lib.hid (read_16 r s hs b w h)
  have HS1 := rd_size16 s b
  have HV := Lib.hid (show repsS s b = if (rd16 (rd16 s b).2.1 (rd16 s b).2.2).2.1.size = 4 * ((rd16 s b).1 + (rd16 (rd16 s b).2.1 (rd16 s b).2.2).1) then (gapsAt (rd16 (rd16 s b).2.1 (rd16 s b).2.2).2.1.data.toList (rd16 s b).1, dupsAt (rd16 (rd16 s b).2.1 (rd16 s b).2.2).2.1.data.toList (4 * (rd16 s b).1) (rd16 (rd16 s b).2.1 (rd16 s b).2.2).1, noB, (rd16 (rd16 s b).2.1 (rd16 s b).2.2).2.2) else ([], [], (rd16 (rd16 s b).2.1 (rd16 s b).2.2).2.1, true) from rfl)
  generalize repsS s b = R at *
  have hn1 := rd16_fst s b
  generalize rd16 s b = R1 at *
  obtain ⟨n1, s1, b1⟩ := R1
  dsimp only at *
  have H2 := Lib.hid (fun W h => read_16 r s1 (by omega) b1 W h)
  have HS2 := rd_size16 s1 b1
  have hn2 := rd16_fst s1 b1
  generalize rd16 s1 b1 = R2 at *
  obtain ⟨n2, s2, b2⟩ := R2
  dsimp only at *
  clear h
  have q1 : (n1 : Int) < 65536 := by omega
  have q2 : (n2 : Int) < 65536 := by omega
  have q3 : (s2.size : Int) ≤ 1000000 := by omega
  by_cases hz : s2.size = 4 * (n1 + n2)
  case neg =>
    rw [if_neg hz] at HV
    rw [HV.out]
    have kz : ((s2.size : Int) != 4 * ((n1 : Int) + (n2 : Int))) = true := bne_iff_ne.2 (by omega)
    clear hz HV
    go_enter Try.func60, Try.ntmps60
    go_wp2_with fail
    refine H1.out.mono ?_
    rintro e w1 ⟨rfl, h1, t1⟩
    have HT := Lib.hid t1
    have HR := Lib.hid h1
    clear h1 t1 H1
    go_wp2_with fail
    refine (H2.out _ HR.out).mono ?_
    rintro e w2 ⟨rfl, h1, t1⟩
    replace HT := Lib.hid (HT.out.trans t1)
    have c0 : w2.cell? ⟨r, 0, none⟩ = some (.string s2) := by rw [cell_in h1]; rfl
    have c1 : w2.cell? ⟨r, 1, none⟩ = some (.bool b2) := by rw [cell_in h1]; rfl
    have f1 : w2.frozen? ⟨r, 1, none⟩ = false := frozen_of_row h1 1
    have HQ := Lib.hid (row_set h1 1 (.bool true))
    clear h1 t1 H2 HR
    go_wp2_with fail
    go_ret2
    exact ⟨_, _, rfl, RowG.nil _, RowN.nil _, by have := HQ.out; simpa using this, (HT.out.trans (Touch.setCell _ _ _ _)).grew, fun j hj => (by cases hj), fun j hj => by cases hj⟩
  rw [if_pos hz] at HV
  rw [HV.out]
  have kz : ((s2.size : Int) != 4 * ((n1 : Int) + (n2 : Int))) = false := bne_eq_false_iff_eq.2 (by omega)
  have HZ := Lib.hid hz
  clear hz HV
  obtain ⟨i0, hi0, hz0, hz1, hz2⟩ := info_parts gapInfo
  obtain ⟨i1, gi0, gz0, gz1, gz2⟩ := info_parts dupInfo
  have I0 := Lib.hid hi0
  have I1 := Lib.hid hz0
  have I2 := Lib.hid hz1
  have I3 := Lib.hid hz2
  have J0 := Lib.hid gi0
  have J1 := Lib.hid gz0
  have J2 := Lib.hid gz1
  have J3 := Lib.hid gz2
  have HGT := Lib.hid (fun k h => gapsAt_take s2.data.toList n1 k h)
  have HDT := Lib.hid (fun k h => dupsAt_take s2.data.toList (4 * n1) n2 k h)
  clear hi0 hz0 hz1 hz2 gi0 gz0 gz1 gz2
  go_enter Try.func60, Try.ntmps60
  go_wp2_with fail
  refine H1.out.mono ?_
  rintro e w1 ⟨rfl, h1, t1⟩
  have HT := Lib.hid t1
  have HR := Lib.hid h1
  clear h1 t1 H1
  go_wp2_with fail
  refine (H2.out _ HR.out).mono ?_
  rintro e w2 ⟨rfl, h1, t1⟩
  replace HT := Lib.hid (HT.out.trans t1)
  have c0 : w2.cell? ⟨r, 0, none⟩ = some (.string s2) := by rw [cell_in h1]; rfl
  replace HR := Lib.hid h1
  clear h1 t1 H2
  go_wp2_with fail
  go_loopw [2, 26] (fun v i wr => ∃ k : Nat, k ≤ n1 ∧ i = .int .i64 k ∧ Hid (wr.ownsRow w.heap.size 98 2 v k (flatG ((gapsAt s2.data.toList n1).take k)) ∧ wr.heap[r]? = some (.cells #[.string (cutB s2 (4 * k)), .bool b2] 70 (0, 0)) ∧ w.grownBy wr (some r)))
    (fun _ i _ => n1 - (intOf i).toNat)
  case atStart => exact ⟨0, Nat.zero_le _, rfl, Lib.hid ⟨World.ownsRow_nil _ _ _ _, by rw [Nat.mul_zero, cut_zero]; exact HR.out, HT.out.grew⟩⟩
  case round =>
    obtain ⟨k, hk, rfl, HQ⟩ := hrel
    clear c0
    by_cases hlt : k < n1
    · have G1 := Lib.hid (fun W h => read_16 r (cutB s2 (4 * k)) (by rw [cut_size]; omega) b2 W h)
      have G2 := Lib.hid (fun W h => read_16 r (cutB s2 (4 * k + 2)) (by rw [cut_size]; omega) b2 W h)
      rw [rd16_at s2 (4 * k) b2 (by have := HZ.out; omega)] at G1
      rw [rd16_at s2 (4 * k + 2) b2 (by have := HZ.out; omega)] at G2
      have HE := Lib.hid (HGT.out k hlt)
      have HE4 := Lib.hid (show 4 * k + 2 + 2 = 4 * (k + 1) by omega)
      generalize num s2.data.toList (4 * k) = x at *
      generalize num s2.data.toList (4 * k + 2) = y at *
      have HO := Lib.hid HQ.out.1
      have HG := Lib.hid HQ.out.2.2
      have hsz := HQ.out.2.2.size
      clear HT HR
      go_wp2_with fail
      refine (G1.out _ HQ.out.2.1).mono ?_
      rintro e w3 ⟨rfl, h1, t1⟩
      have HR3 := Lib.hid h1
      replace HO := Lib.hid (own_grew HO.out t1.grew hr)
      replace HG := Lib.hid (grew_on HG.out t1.grew fun j hj => .inl hj)
      clear h1 t1 HQ G1
      go_wp2_with fail
      refine (G2.out _ HR3.out).mono ?_
      rintro e w4 ⟨rfl, h1, t1⟩
      replace HR3 := Lib.hid h1
      replace HO := Lib.hid (own_grew HO.out t1.grew hr)
      replace HG := Lib.hid (grew_on HG.out t1.grew fun j hj => .inl hj)
      have hs4 : w.heap.size ≤ w4.heap.size := HG.out.size
      clear h1 t1 G2
      go_wp2_with (at_builtin; refine wpList_append_own _ rfl _ _ 24 rfl w.heap.size 98 i0 (.agg #[.int .u16 0, .int .u16 0]) 2 4 Try.underlying24 I0.out I1.out I2.out I3.out rfl (by decide) _ k _ rfl (HO.out.alloc _) ⟨w4.heap.size, 0, none⟩ 1 1 [.int .u16 (x : Int), .int .u16 (y : Int)] rfl rfl ?c1 ?c2 ?c3 ?c4 ?c5 ?_)
      case c1 => exact new_cells w4 _ [.int .u16 (x : Int), .int .u16 (y : Int)]
      case c2 => intro u hu; simp at hu; rcases hu with rfl | rfl <;> rfl
      case c3 => unfold maxLen; omega
      case c4 => omega
      case c5 => rw [World.size_alloc]; omega
      intro v' w5 hown5 hg5 _
      have HO5 := Lib.hid hown5
      have hlt5 : ∀ j, u2.ownBlock = some j → w.heap.size ≤ j := fun j hj => (HO.out.lt j hj).1
      have hr4 : r < w4.heap.size := by omega
      have hne5 : some r ≠ u2.ownBlock := fun e => by have := hlt5 r e.symm; omega
      have HR5 := Lib.hid ((hg5.block r (by rw [World.size_alloc]; omega) hne5).trans ((Below.heap_alloc w4 _ r hr4).trans HR3.out))
      have HG5 := Lib.hid (grew_on (grew_on HG.out (grew_alloc w4 _ none) (fun j hj => by cases hj)) hg5 fun j hj => .inr (hlt5 j hj))
      clear hown5 hg5 HO HG HR3 hlt5 hne5
      go_wp2_with fail
      go_roundw
      case rel => exact ⟨k + 1, by omega, by go_num, Lib.hid ⟨by rw [HE.out]; exact HO5.out, by rw [← HE4.out]; exact HR5.out, HG5.out⟩⟩
      case measure => simp [intOf]; omega
    · obtain rfl : n1 = k := by omega
      rw [gapsAt_full] at HQ
      generalize wr = wq at *
      have RG := Lib.hid (rowG_of_own (OwnG.of HQ.out.1))
      have HO := Lib.hid HQ.out.1
      have HR5 := Lib.hid HQ.out.2.1
      have HG := Lib.hid HQ.out.2.2
      have hsq := HQ.out.2.2.size
      clear HQ HT HR HGT
      go_wp2_with fail
      go_loopw [3, 38] (fun u i wr => ∃ k : Nat, k ≤ n2 ∧ i = .int .i64 k ∧ Hid (wr.ownsRow wq.heap.size 22 1 u k (((dupsAt s2.data.toList (4 * n1) n2).take k).map encN) ∧ wr.heap[r]? = some (.cells #[.string (cutB s2 (4 * n1 + 4 * k)), .bool b2] 70 (0, 0)) ∧ wq.grownBy wr (some r)))
        (fun _ i _ => n2 - (intOf i).toNat)
      case atStart => exact ⟨0, Nat.zero_le _, rfl, Lib.hid ⟨World.ownsRow_nil _ _ _ _, by rw [Nat.mul_zero, Nat.add_zero]; exact HR5.out, World.grownBy.refl _ _⟩⟩
      case round =>
        obtain ⟨k, hk, rfl, HQ⟩ := hrel
        by_cases hlt : k < n2
        · have G1 := Lib.hid (fun W h => read_32 r (cutB s2 (4 * n1 + 4 * k)) (by rw [cut_size]; omega) b2 W h)
          rw [rd32_at s2 (4 * n1 + 4 * k) b2 (by have := HZ.out; omega)] at G1
          have HE := Lib.hid (HDT.out k hlt)
          have HE4 := Lib.hid (show 4 * n1 + 4 * k + 4 = 4 * n1 + 4 * (k + 1) by omega)
          generalize num4 s2.data.toList (4 * n1 + 4 * k) = x at *
          have HO3 := Lib.hid HQ.out.1
          have HG3 := Lib.hid HQ.out.2.2
          have hrq : r < wq.heap.size := by omega
          clear HR5
          go_wp2_with fail
          refine (G1.out _ HQ.out.2.1).mono ?_
          rintro e w4 ⟨rfl, h1, t1⟩
          have HR3 := Lib.hid h1
          replace HO3 := Lib.hid (own_grew HO3.out t1.grew hrq)
          replace HG3 := Lib.hid (grew_on HG3.out t1.grew fun j hj => .inl hj)
          have hs4 : wq.heap.size ≤ w4.heap.size := HG3.out.size
          clear h1 t1 G1 HQ
          go_wp2_with (at_builtin; refine wpList_append_own _ rfl _ _ 25 rfl wq.heap.size 22 i1 (.int .u32 0) 1 4 Try.underlying25 J0.out J1.out J2.out J3.out rfl (by decide) _ k _ rfl (HO3.out.alloc _) ⟨w4.heap.size, 0, none⟩ 1 1 [.int .u32 (x : Int)] rfl rfl ?d1 ?d2 ?d3 ?d4 ?d5 ?_)
          case d1 => exact new_cells w4 _ [.int .u32 (x : Int)]
          case d2 => intro u hu; simp at hu; subst hu; rfl
          case d3 => unfold maxLen; omega
          case d4 => omega
          case d5 => rw [World.size_alloc]; omega
          intro v' w5 hown5 hg5 _
          have HO5 := Lib.hid hown5
          have hlt5 : ∀ j, u3.ownBlock = some j → wq.heap.size ≤ j := fun j hj => (HO3.out.lt j hj).1
          have hr4 : r < w4.heap.size := by omega
          have hne5 : some r ≠ u3.ownBlock := fun e => by have := hlt5 r e.symm; omega
          have HR5 := Lib.hid ((hg5.block r (by rw [World.size_alloc]; omega) hne5).trans ((Below.heap_alloc w4 _ r hr4).trans HR3.out))
          have HG5 := Lib.hid (grew_on (grew_on HG3.out (grew_alloc w4 _ none) (fun j hj => by cases hj)) hg5 fun j hj => .inr (hlt5 j hj))
          clear hown5 hg5 HO3 HG3 HR3 hlt5 hne5
          go_wp2_with fail
          go_roundw
          case rel => exact ⟨k + 1, by omega, by go_num, Lib.hid ⟨by rw [HE.out, List.map_take]; exact HO5.out, by rw [← HE4.out]; exact HR5.out, HG5.out⟩⟩
          case measure => simp [intOf]; omega
        · obtain rfl : n2 = k := by omega
          rw [dupsAt_full] at HQ
          have HEND := Lib.hid (show cutB s2 (4 * n1 + 4 * n2) = noB from by rw [← cut_all s2]; congr 1; have := HZ.out; omega)
          rw [HEND.out] at HQ
          go_wp2_with fail
          go_ret2
          exact ⟨_, _, rfl, rowG_of_own (OwnG.of (own_grew HO.out HQ.out.2.2 hr)), rowN_of_own (OwnG.of HQ.out.1), HQ.out.2.1, grew_on HG.out HQ.out.2.2 (fun j hj => .inl hj), fun j hj => (HO.out.lt j hj).1, fun j hj => Nat.le_trans hsq (HQ.out.1.lt j hj).1⟩
end Go.Proofs.Ytjdnlolhcjalmaa
