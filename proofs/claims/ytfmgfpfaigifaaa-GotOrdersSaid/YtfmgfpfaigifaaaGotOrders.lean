/-
  Numbers that come in another order make the same, but for what came twice: any first number, any distances, any number.
-/
import Derived.Test.YtfmgfpfaigifaaaLift
import Derived.Test.YtfmgfpfaigifaaaArgs
import Derived.Test.YtfmgfpfaigifaaaGl
import Derived.Test.YtfmgfpfaigifaaaGr
namespace Go.Proofs.Ytfmgfpfaigifaaa.gotOrders
open Go.ChangeShapes Go.WideShapes Go.ChangeAt Go.RowKit
set_option linter.unusedVariables false
set_option linter.unusedSimpArgs false

set_option maxHeartbeats 4000000 in
set_option maxRecDepth 100000 in
theorem walk (first : UInt32) (l : List UInt32) (turn : Int) (hfit : -9223372036854775808 ≤ turn ∧ turn ≤ 9223372036854775807) (vl : Value) (w : World) (h1 : RowE enc32 w vl l) : Calls Try.prog 6 #[.int .u32 (first.toNat : Int), vl, .int .i64 turn] w fun e w' => e = .returned (.bool true) ∧ Below w.heap.size w w' := by
  have HSH := Lib.hid (fun W => shown_any W)
  have HNW := Lib.hid (fun W => new_any first W)
  have HKEY := Lib.hid (fun j => numOf_key first l j)
  generalize first - 1 = b0 at *
  obtain ⟨A, cap, rfl, hk1, hk2, hcells⟩ := id h1
  have hmI : (l.length : Int) ≤ 9223372036854775807 := by unfold maxLen at hk2; omega
  have HC := Lib.hid hcells
  clear hcells h1 hk1 hk2
  generalize l.length = L at *
  have HB := Lib.hid (Below.refl w.heap.size w)
  have SHA := 0
  clear SHA
  by_cases h60 : L ≤ 60
  · by_cases h0 : L = 0
    · have q60 : ¬ (60 : Int) < (L : Int) := by omega
      have q0 : ((L : Int) == 0) = true := by rw [h0]; rfl
      clear h0
      go_enter Try.func6, Try.ntmps6
      go_wp2_with (go_at_call 10; (with_reducible refine (HSH.out _).mono ?_); rintro e w1 ⟨rfl, hb⟩; replace HB := Lib.hid hb; clear hb)
      go_ret
      exact ⟨rfl, HB.out⟩
    · have q60 : ¬ (60 : Int) < (L : Int) := by omega
      have q0 : ((L : Int) == 0) = false := by rw [beq_eq_false_iff_ne]; omega
      obtain ⟨b, off, rfl, hb, hc⟩ := HC.out (by omega)
      have HCC := Lib.hid hc
      clear hc HC
      obtain ⟨Q, hQ⟩ : ∃ Q : Int, Int.tmod turn (L : Int) = Q := ⟨_, rfl⟩
      have hQ1 : -(L : Int) < Q ∧ Q < (L : Int) := by
        rw [← hQ]
        exact ⟨Int.lt_tmod_of_pos _ (by omega), Int.tmod_lt_of_pos _ (by omega)⟩
      have s1 : IntKind.i64.wrap (-Q) = -Q := by rw [IntKind.wrap_i64]; omega
      obtain ⟨kk, hkk⟩ : ∃ kk : Nat, max Q (-Q) = (kk : Int) := ⟨(max Q (-Q)).toNat, by omega⟩
      have hkL : kk < L := by omega
      have s2 : (if Q < -Q then -Q else Q) = (kk : Int) := by split <;> omega
      have q1 : (0 : Int) < (L : Int) := by omega
      have q2 : ¬ ((L : Int) = 0) := by omega
      have q3 : ¬ (L = 0) := by omega
      clear h0
      go_enter Try.func6, Try.ntmps6
      go_wp2_with (go_at_call 10; (with_reducible refine (HSH.out _).mono ?_); rintro e w1 ⟨rfl, hb⟩; replace HB := Lib.hid hb; clear hb)
      refine (HNW.out _).mono ?_
      rintro e w2 ⟨rfl, hb2⟩
      replace HB := Lib.hid (HB.out.trans (hb2.mono HB.out.size))
      clear hb2
      have hwg0 := HB.out.size
      obtain ⟨W3, hW3, HQ, HB3, hs3⟩ := one_open w2 25 #[.int .u32 0, .slice none 0 0, .slice none 0 0]
      obtain ⟨g1, hg1⟩ : ∃ g, w2.heap.size = g := ⟨_, rfl⟩
      rw [hg1] at HQ
      go_wp2_with ((with_reducible refine gate9 ?_); refine stB (ty := 25) #[.int .u32 (b0.toNat : Int), .slice none 0 0, .slice none 0 0] rfl rfl rfl rfl HQ.out infoG rfl (cellsG_one _ _ _ _ _ _ _) ?_; intro w4 ht hg; replace HB3 := Lib.hid (below_of_grown1 HB3.out hg HB3.out.size (Nat.le_of_eq hg1)); replace HQ := Lib.hid ht; replace HB := Lib.hid (HB.out.trans (HB3.out.mono HB.out.size)); clear ht hg HB3)
      clear hW3 hs3
      refine (HNW.out _).mono ?_
      rintro e w5 ⟨rfl, hb5⟩
      have hg12 : g1 < w5.heap.size := Nat.lt_of_lt_of_le HQ.out.lt hb5.size
      replace HQ := Lib.hid (HQ.out.later hb5)
      replace HB := Lib.hid (HB.out.trans (hb5.mono HB.out.size))
      clear hb5 HNW
      have hwg : w.heap.size ≤ g1 := by omega
      obtain ⟨W6, hW6, HQ2, HB6, hs6⟩ := one_open w5 25 #[.int .u32 0, .slice none 0 0, .slice none 0 0]
      obtain ⟨g2, hg2⟩ : ∃ g, w5.heap.size = g := ⟨_, rfl⟩
      rw [hg2] at HQ2 hg12
      go_wp2_with ((with_reducible refine gate9 ?_); refine stB (ty := 25) #[.int .u32 (b0.toNat : Int), .slice none 0 0, .slice none 0 0] rfl rfl rfl rfl HQ2.out infoG rfl (cellsG_one _ _ _ _ _ _ _) ?_; intro w7 ht hg; replace HB6 := Lib.hid (below_of_grown1 HB6.out hg HB6.out.size (Nat.le_of_eq hg2)); replace HQ2 := Lib.hid ht; replace HQ := Lib.hid (HQ.out.later HB6.out); replace HB := Lib.hid (HB.out.trans (HB6.out.mono HB.out.size)); clear ht hg HB6)
      clear hW6 hs6
      have hsz2 := HQ2.out.lt
      obtain ⟨B0, hB0e⟩ : ∃ B, w7.heap.size = B := ⟨_, rfl⟩
      have hg2B : g2 < B0 := by omega
      have HG : Hid (GAt g1 B0 ⟨b0, [], []⟩ w7) := Lib.hid ⟨none, 0, none, 0, HQ.out, RowE.nil _ _, RowE.nil _ _, freshE_nil _, freshE_nil _⟩
      have HH : Hid (GAt g2 B0 ⟨b0, [], []⟩ w7) := Lib.hid ⟨none, 0, none, 0, HQ2.out, RowE.nil _ _, RowE.nil _ _, freshE_nil _, freshE_nil _⟩
      clear HQ HQ2 hsz2
      go_quiet (fail)
      go_wp2_with fail
      go_loopw [11] (fun i wr => ∃ j : Nat, j ≤ L ∧ i = .int .i64 j ∧ Hid (∃ x y, Run b0 (numOf first l) j x ∧ Run b0 (fun i => numOf first l ((L - 1 - i + kk) % L)) j y ∧ GAt g1 B0 x wr ∧ GAt g2 B0 y wr ∧ Below w.heap.size w wr ∧ B0 ≤ wr.heap.size))
        (fun i _ => L - (intOf i).toNat)
      case atStart => exact ⟨0, Nat.zero_le _, rfl, Lib.hid ⟨_, _, Run.start _ _, Run.start _ _, by first | exact HG.out | exact HG.out.drew, by first | exact HH.out | exact HH.out.drew, by first | exact HB.out | exact below_drawn HB.out | exact below_drawnN HB.out _, by show B0 ≤ w7.heap.size; omega⟩⟩
      case round =>
        clear HG HH HB
        obtain ⟨i, hi, rfl, HRR⟩ := hrel
        obtain ⟨x, y, hrx, hry, hgx, hgy, hbw, hB0⟩ := HRR.out
        have Hg := Lib.hid hgx
        have Hh := Lib.hid hgy
        have HB := Lib.hid hbw
        have HRX := Lib.hid hrx
        have HRY := Lib.hid hry
        clear hgx hgy hbw hrx hry HRR
        by_cases hlt : i < L
        · have hiL : i < L := hlt
          obtain ⟨z, hz⟩ : ∃ z : Nat, L - 1 - i + kk = z := ⟨_, rfl⟩
          obtain ⟨q, hq⟩ : ∃ q : Nat, z % L = q := ⟨_, rfl⟩
          have hqL : q < L := by rw [← hq]; exact Nat.mod_lt _ (by omega)
          have HLA : Hid (∀ V, Below w.heap.size w V → V.cell? ⟨b, off + i, none⟩ = some (.int .u32 (l[i]!.toNat : Int))) := Lib.hid fun V hV => (hV.cell (p := ⟨b, off + i, none⟩) hb).trans (HCC.out i hiL)
          have HLB : Hid (∀ V, Below w.heap.size w V → V.cell? ⟨b, off + q, none⟩ = some (.int .u32 (l[q]!.toNat : Int))) := Lib.hid fun V hV => (hV.cell (p := ⟨b, off + q, none⟩) hb).trans (HCC.out q hqL)
          have r1 : IntKind.i64.wrap ((L : Int) - 1) = (L : Int) - 1 := by rw [IntKind.wrap_i64]; omega
          have r2 : IntKind.i64.wrap ((L : Int) - 1 - (i : Int)) = (L : Int) - 1 - (i : Int) := by rw [IntKind.wrap_i64]; omega
          have r3 : IntKind.i64.wrap ((L : Int) - 1 - (i : Int) + (kk : Int)) = (z : Int) := by rw [IntKind.wrap_i64]; omega
          have r4 : Int.tmod (z : Int) (L : Int) = (q : Int) := by rw [Int.tmod_eq_emod_of_nonneg (by omega), ← hq]; rfl
          have s5 := numOf_nat first l i
          have s6 := numOf_nat first l q
          have HN1 := Lib.hid (HKEY.out i)
          have HN2 := Lib.hid (HKEY.out q)
          obtain ⟨hr1, ha1, hd1⟩ := HRX.out.right (by omega)
          obtain ⟨hr2, ha2, hd2⟩ := HRY.out.right (by omega)
          have HSX := Lib.hid (HRX.out.step (by omega) HN1.out.1 (by have := HN1.out.2; omega))
          have HSY : Hid (Run b0 (fun i => numOf first l ((L - 1 - i + kk) % L)) (i + 1) (takeG y (numOf first l q)).1) := Lib.hid (by
            have h9 := HRY.out.step (by omega) (by show 1 ≤ key b0 (numOf first l ((L - 1 - i + kk) % L)); rw [hz, hq]; exact HN2.out.1) (by show key b0 (numOf first l ((L - 1 - i + kk) % L)) ≤ 200; rw [hz, hq]; have := HN2.out.2; omega)
            simp only [hz, hq] at h9
            exact h9)
          have HTg := Lib.hid (fun A A' k k' W h1 h2 => take_law x (numOf first l i) hr1 (by omega) (by omega) A A' k k' W h1 h2)
          have HTh := Lib.hid (fun A A' k k' W h1 h2 => take_law y (numOf first l q) hr2 (by omega) (by omega) A A' k k' W h1 h2)
          have p0 : (0 : Int) ≤ (i : Int) := by omega
          have p1 : (i : Int) < (L : Int) := by omega
          have p2 : (0 : Int) ≤ (q : Int) := by omega
          have p3 : (q : Int) < (L : Int) := by omega
          have HKEEP := Lib.hid (And.intro hi (And.intro ha1 (And.intro hd1 (And.intro ha2 hd2))))
          clear hr1 hr2 ha1 ha2 hd1 hd2 hz hq HN1 HN2 hiL
          generalize (takeG x (numOf first l i)) = RX at *
          generalize (takeG y (numOf first l q)) = RY at *
          obtain ⟨x2, bx2⟩ := RX
          obtain ⟨y2, by2⟩ := RY
          dsimp only at HTg HTh HSX HSY
          generalize (numOf first l i).toNat = n1 at *
          generalize (numOf first l q).toNat = n2 at *
          generalize l[i]!.toNat = la at *
          generalize l[q]!.toNat = lb at *
          generalize first.toNat = f0 at *
          have s5' : IntKind.u32.wrap ((f0 : Int) + (la : Int) % 64) = (n1 : Int) := by rw [← s5]; rfl
          have s6' : IntKind.u32.wrap ((f0 : Int) + (lb : Int) % 64) = (n2 : Int) := by rw [← s6]; rfl
          have t5 : Int.tmod (la : Int) 64 = (la : Int) % 64 := Int.tmod_eq_emod_of_nonneg (by omega)
          have t6 : Int.tmod (lb : Int) 64 = (lb : Int) % 64 := Int.tmod_eq_emod_of_nonneg (by omega)
          go_wp2_with fail
          obtain ⟨Ag, kg, Bg, mg, u1, u2, u3, u4, u5⟩ := Hg.out
          have HS : (fun V => Bx V g1 25 #[.int .u32 (x.cum.toNat : Int), .slice Ag x.ab.length kg, .slice Bg x.du.length mg] ∧ RowE enc32 V (.slice Ag x.ab.length kg) x.ab ∧ RowE enc32 V (.slice Bg x.du.length mg) x.du ∧ GAt g2 B0 y V ∧ Below w.heap.size w V ∧ B0 ≤ V.heap.size) _ := ⟨u1.drew, u2, u3, Hh.out.drew, below_drawn HB.out, hB0⟩
          clear u1 u2 u3 u4 u5 Hg Hh HB hB0
          refine wp_region_noPanic ?_
          refine wp_region_waits (S := (fun V => Bx V g1 25 #[.int .u32 (x.cum.toNat : Int), .slice Ag x.ab.length kg, .slice Bg x.du.length mg] ∧ RowE enc32 V (.slice Ag x.ab.length kg) x.ab ∧ RowE enc32 V (.slice Bg x.du.length mg) x.du ∧ GAt g2 B0 y V ∧ Below w.heap.size w V ∧ B0 ≤ V.heap.size)) [12] (by kernel_rfl) HS (fun hHeld => ?_)
          clear HS
          refine wpAnyW_take (i := 0) (v := _) (by simp only [List.getElem?_toArray, List.getElem?_cons_zero]; rfl) (by kernel_rfl) (by kernel_rfl) (by kernel_rfl) (by kernel_rfl) (by kernel_rfl) (fun _ _ _ h => h) (yB (ty := 25) (by rfl) rfl rfl (fun V h => h.1) Try.underlying25 rfl infoG) (by assumption) ?_
          try simp only [Act.put, List.setIfInBounds_toArray, List.set_cons_zero, List.set_cons_succ]
          refine wpAnyW_take (i := 1) (v := ?_) (by simp only [List.getElem?_toArray, List.getElem?_cons_succ, List.getElem?_cons_zero]; rfl) (by kernel_rfl) (by kernel_rfl) (by kernel_rfl) (by kernel_rfl) (by kernel_rfl) (fun _ _ _ h => h) (Or.inl ⟨by rfl, ?_⟩) (by assumption) ?_
          rotate_left 1
          · (intro w' hSw; go_simp; try with_reducible rfl)
          try simp only [Act.put, List.setIfInBounds_toArray, List.set_cons_zero, List.set_cons_succ]
          refine wpAnyW_take (i := 2) (v := ?_) (by simp only [List.getElem?_toArray, List.getElem?_cons_succ, List.getElem?_cons_zero]; rfl) (by kernel_rfl) (by kernel_rfl) (by kernel_rfl) (by kernel_rfl) (by kernel_rfl) (fun _ _ _ h => h) (Or.inl ⟨by rfl, ?_⟩) (by assumption) ?_
          rotate_left 1
          · (intro w' hSw; go_simp; try with_reducible rfl)
          try simp only [Act.put, List.setIfInBounds_toArray, List.set_cons_zero, List.set_cons_succ]
          refine wpAnyW_take (i := 3) (v := ?_) (by simp only [List.getElem?_toArray, List.getElem?_cons_succ, List.getElem?_cons_zero]; rfl) (by kernel_rfl) (by kernel_rfl) (by kernel_rfl) (by kernel_rfl) (by kernel_rfl) (fun _ _ _ h => h) (Or.inl ⟨by rfl, ?_⟩) (by assumption) ?_
          rotate_left 1
          · (intro w' hSw; go_simp; try with_reducible rfl)
          try simp only [Act.put, List.setIfInBounds_toArray, List.set_cons_zero, List.set_cons_succ]
          refine wpAnyW_take (i := 4) (v := ?_) (by simp only [List.getElem?_toArray, List.getElem?_cons_succ, List.getElem?_cons_zero]; rfl) (by kernel_rfl) (by kernel_rfl) (by kernel_rfl) (by kernel_rfl) (by kernel_rfl) (fun _ _ _ h => h) (Or.inl ⟨by rfl, ?_⟩) (by assumption) ?_
          rotate_left 1
          · (intro w' hSw; go_simp; try with_reducible rfl)
          try simp only [Act.put, List.setIfInBounds_toArray, List.set_cons_zero, List.set_cons_succ]
          refine wpAnyW_take (i := 5) (v := ?_) (by simp only [List.getElem?_toArray, List.getElem?_cons_succ, List.getElem?_cons_zero]; rfl) (by kernel_rfl) (by kernel_rfl) (by kernel_rfl) (by kernel_rfl) (by kernel_rfl) (fun _ _ _ h => h) (Or.inl ⟨by rfl, ?_⟩) (by assumption) ?_
          rotate_left 1
          · (intro w' hSw; have hq : w'.cell? ⟨b, off + i, none⟩ = some (.int .u32 (la : Int)) := HLA.out _ hSw.2.2.2.2.1; go_simp; try with_reducible rfl)
          try simp only [Act.put, List.setIfInBounds_toArray, List.set_cons_zero, List.set_cons_succ]
          refine wpAnyW_take (i := 6) (v := ?_) (by simp only [List.getElem?_toArray, List.getElem?_cons_succ, List.getElem?_cons_zero]; rfl) (by kernel_rfl) (by kernel_rfl) (by kernel_rfl) (by kernel_rfl) (by kernel_rfl) (fun _ _ _ h => h) (Or.inl ⟨by rfl, ?_⟩) (by assumption) ?_
          rotate_left 1
          · (intro w' hSw; go_simp; try with_reducible rfl)
          try simp only [Act.put, List.setIfInBounds_toArray, List.set_cons_zero, List.set_cons_succ]
          refine wpAnyW_take (i := 7) (v := ?_) (by simp only [List.getElem?_toArray, List.getElem?_cons_succ, List.getElem?_cons_zero]; rfl) (by kernel_rfl) (by kernel_rfl) (by kernel_rfl) (by kernel_rfl) (by kernel_rfl) (fun _ _ _ h => h) (Or.inl ⟨by rfl, ?_⟩) (by assumption) ?_
          rotate_left 1
          · (intro w' hSw; go_simp; try with_reducible rfl)
          try simp only [Act.put, List.setIfInBounds_toArray, List.set_cons_zero, List.set_cons_succ]
          refine wpAnyW_held (i := 8) (by kernel_rfl) (by simp only [List.getElem?_toArray, List.getElem?_cons_succ, List.getElem?_cons_zero]; rfl) (fun K hK => ?_)
          rw [if_pos (by rfl)]
          go_simp
          refine (HTg.out _ _ _ _ _ hHeld.2.1 hHeld.2.2.1).mono ?_
          rintro _ w5 ⟨A5, k5, A6, k6, rfl, HX⟩
          obtain ⟨r1, r2, f1, f2, hb⟩ := HX.out
          have HR := Lib.hid (And.intro r1 (And.intro r2 (And.intro (f1.less hHeld.2.2.2.2.2) (f2.less hHeld.2.2.2.2.2))))
          have hgx := hHeld.1.lt
          have HS := And.intro (hHeld.1.later hb) (And.intro (hHeld.2.1.below hb) (And.intro (hHeld.2.2.1.below hb) (And.intro (hHeld.2.2.2.1.later hb) (And.intro (hHeld.2.2.2.2.1.trans (hb.mono hHeld.2.2.2.2.1.size)) (Nat.le_trans hHeld.2.2.2.2.2 hb.size)))))
          clear hHeld hb r1 r2 f1 f2 HX
          go_wp2_with fail
          refine hK.out _ _ HS (fun hHeld => ?_)
          clear hK K HS
          try simp only [Act.put, List.setIfInBounds_toArray, List.set_cons_zero, List.set_cons_succ]
          refine wpAnyW_take (i := 9) (v := ?_) (by simp only [List.getElem?_toArray, List.getElem?_cons_succ, List.getElem?_cons_zero]; rfl) (by kernel_rfl) (by kernel_rfl) (by kernel_rfl) (by kernel_rfl) (by kernel_rfl) (fun _ _ _ h => h) (Or.inl ⟨by rfl, ?_⟩) (by assumption) ?_
          rotate_left 1
          · (intro w' hSw; go_simp; try with_reducible rfl)
          try simp only [Act.put, List.setIfInBounds_toArray, List.set_cons_zero, List.set_cons_succ]
          refine wpAnyW_take (i := 10) (v := ?_) (by simp only [List.getElem?_toArray, List.getElem?_cons_succ, List.getElem?_cons_zero]; rfl) (by kernel_rfl) (by kernel_rfl) (by kernel_rfl) (by kernel_rfl) (by kernel_rfl) (fun _ _ _ h => h) (Or.inl ⟨by rfl, ?_⟩) (by assumption) ?_
          rotate_left 1
          · (intro w' hSw; go_simp; try with_reducible rfl)
          try simp only [Act.put, List.setIfInBounds_toArray, List.set_cons_zero, List.set_cons_succ]
          refine wpAnyW_takeY (i := 11) (v := ?_) (by simp only [List.getElem?_toArray, List.getElem?_cons_succ, List.getElem?_cons_zero]; rfl) (by kernel_rfl) (by kernel_rfl) (by kernel_rfl) (by kernel_rfl) (fun _ _ _ h => h) (Or.inl ⟨by rfl, ?_⟩) (fun _ => by assumption) ?_
          rotate_left 1
          · (intro w' _; go_simp; try with_reducible rfl)
          try simp only [Act.put, List.setIfInBounds_toArray, List.set_cons_zero, List.set_cons_succ]
          refine wpAnyW_freed (i := 12) (by kernel_rfl) (by kernel_rfl) (by simp only [List.getElem?_toArray, List.getElem?_cons_succ, List.getElem?_cons_zero]; rfl) (fun K hK => ?_)
          rw [if_pos (by rfl)]
          refine wpB (ty := 25) #[.int .u32 (x2.cum.toNat : Int), .slice A5 x2.ab.length k5, .slice A6 x2.du.length k6] rfl rfl rfl hHeld.1 infoG rfl (cellsG_one _ _ _ _ _ _ _) ?_
          intro w7 ht hg
          have Hg : Hid (GAt g1 B0 x2 w7) := Lib.hid ⟨A5, k5, A6, k6, ht, HR.out.1.stays HR.out.2.2.1 hg (by omega), HR.out.2.1.stays HR.out.2.2.2 hg (by omega), HR.out.2.2.1, HR.out.2.2.2⟩
          have Hh := Lib.hid (hHeld.2.2.2.1.kept hg (by omega) (by omega))
          have HB := Lib.hid (below_of_grown1 hHeld.2.2.2.2.1 hg hHeld.2.2.2.2.1.size (by omega))
          have hB0 := Nat.le_trans hHeld.2.2.2.2.2 hg.size
          clear ht hg hHeld HR
          refine hK.out _ _ ?_
          clear hK K
          try simp only [Act.put, List.setIfInBounds_toArray, List.set_cons_zero, List.set_cons_succ]
          refine wpAnyW_done (by kernel_rfl) ?_ _
          refine NoPanic.normal ?_
          go_wp2_with fail
          obtain ⟨Ah, kh, Bh, mh, u1, u2, u3, u4, u5⟩ := Hh.out
          have HS : (fun V => Bx V g2 25 #[.int .u32 (y.cum.toNat : Int), .slice Ah y.ab.length kh, .slice Bh y.du.length mh] ∧ RowE enc32 V (.slice Ah y.ab.length kh) y.ab ∧ RowE enc32 V (.slice Bh y.du.length mh) y.du ∧ GAt g1 B0 x2 V ∧ Below w.heap.size w V ∧ B0 ≤ V.heap.size) _ := ⟨u1.drew, u2, u3, Hg.out.drew, below_drawn HB.out, hB0⟩
          clear u1 u2 u3 u4 u5 Hh Hg HB hB0
          refine wp_region_noPanic ?_
          refine wp_region_waits (S := (fun V => Bx V g2 25 #[.int .u32 (y.cum.toNat : Int), .slice Ah y.ab.length kh, .slice Bh y.du.length mh] ∧ RowE enc32 V (.slice Ah y.ab.length kh) y.ab ∧ RowE enc32 V (.slice Bh y.du.length mh) y.du ∧ GAt g1 B0 x2 V ∧ Below w.heap.size w V ∧ B0 ≤ V.heap.size)) [21] (by kernel_rfl) HS (fun hHeld => ?_)
          clear HS
          refine wpAnyW_take (i := 0) (v := _) (by simp only [List.getElem?_toArray, List.getElem?_cons_zero]; rfl) (by kernel_rfl) (by kernel_rfl) (by kernel_rfl) (by kernel_rfl) (by kernel_rfl) (fun _ _ _ h => h) (yB (ty := 25) (by rfl) rfl rfl (fun V h => h.1) Try.underlying25 rfl infoG) (by assumption) ?_
          try simp only [Act.put, List.setIfInBounds_toArray, List.set_cons_zero, List.set_cons_succ]
          refine wpAnyW_take (i := 1) (v := ?_) (by simp only [List.getElem?_toArray, List.getElem?_cons_succ, List.getElem?_cons_zero]; rfl) (by kernel_rfl) (by kernel_rfl) (by kernel_rfl) (by kernel_rfl) (by kernel_rfl) (fun _ _ _ h => h) (Or.inl ⟨by rfl, ?_⟩) (by assumption) ?_
          rotate_left 1
          · (intro w' hSw; go_simp; try with_reducible rfl)
          try simp only [Act.put, List.setIfInBounds_toArray, List.set_cons_zero, List.set_cons_succ]
          refine wpAnyW_take (i := 2) (v := ?_) (by simp only [List.getElem?_toArray, List.getElem?_cons_succ, List.getElem?_cons_zero]; rfl) (by kernel_rfl) (by kernel_rfl) (by kernel_rfl) (by kernel_rfl) (by kernel_rfl) (fun _ _ _ h => h) (Or.inl ⟨by rfl, ?_⟩) (by assumption) ?_
          rotate_left 1
          · (intro w' hSw; go_simp; try with_reducible rfl)
          try simp only [Act.put, List.setIfInBounds_toArray, List.set_cons_zero, List.set_cons_succ]
          refine wpAnyW_take (i := 3) (v := ?_) (by simp only [List.getElem?_toArray, List.getElem?_cons_succ, List.getElem?_cons_zero]; rfl) (by kernel_rfl) (by kernel_rfl) (by kernel_rfl) (by kernel_rfl) (by kernel_rfl) (fun _ _ _ h => h) (Or.inl ⟨by rfl, ?_⟩) (by assumption) ?_
          rotate_left 1
          · (intro w' hSw; go_simp; try with_reducible rfl)
          try simp only [Act.put, List.setIfInBounds_toArray, List.set_cons_zero, List.set_cons_succ]
          refine wpAnyW_take (i := 4) (v := ?_) (by simp only [List.getElem?_toArray, List.getElem?_cons_succ, List.getElem?_cons_zero]; rfl) (by kernel_rfl) (by kernel_rfl) (by kernel_rfl) (by kernel_rfl) (by kernel_rfl) (fun _ _ _ h => h) (Or.inl ⟨by rfl, ?_⟩) (by assumption) ?_
          rotate_left 1
          · (intro w' hSw; go_simp; try with_reducible rfl)
          try simp only [Act.put, List.setIfInBounds_toArray, List.set_cons_zero, List.set_cons_succ]
          refine wpAnyW_take (i := 5) (v := ?_) (by simp only [List.getElem?_toArray, List.getElem?_cons_succ, List.getElem?_cons_zero]; rfl) (by kernel_rfl) (by kernel_rfl) (by kernel_rfl) (by kernel_rfl) (by kernel_rfl) (fun _ _ _ h => h) (Or.inl ⟨by rfl, ?_⟩) (by assumption) ?_
          rotate_left 1
          · (intro w' hSw; go_simp; try with_reducible rfl)
          try simp only [Act.put, List.setIfInBounds_toArray, List.set_cons_zero, List.set_cons_succ]
          refine wpAnyW_take (i := 6) (v := ?_) (by simp only [List.getElem?_toArray, List.getElem?_cons_succ, List.getElem?_cons_zero]; rfl) (by kernel_rfl) (by kernel_rfl) (by kernel_rfl) (by kernel_rfl) (by kernel_rfl) (fun _ _ _ h => h) (Or.inl ⟨by rfl, ?_⟩) (by assumption) ?_
          rotate_left 1
          · (intro w' hSw; go_simp; try with_reducible rfl)
          try simp only [Act.put, List.setIfInBounds_toArray, List.set_cons_zero, List.set_cons_succ]
          refine wpAnyW_take (i := 7) (v := ?_) (by simp only [List.getElem?_toArray, List.getElem?_cons_succ, List.getElem?_cons_zero]; rfl) (by kernel_rfl) (by kernel_rfl) (by kernel_rfl) (by kernel_rfl) (by kernel_rfl) (fun _ _ _ h => h) (Or.inl ⟨by rfl, ?_⟩) (by assumption) ?_
          rotate_left 1
          · (intro w' hSw; go_simp; try with_reducible rfl)
          try simp only [Act.put, List.setIfInBounds_toArray, List.set_cons_zero, List.set_cons_succ]
          refine wpAnyW_take (i := 8) (v := ?_) (by simp only [List.getElem?_toArray, List.getElem?_cons_succ, List.getElem?_cons_zero]; rfl) (by kernel_rfl) (by kernel_rfl) (by kernel_rfl) (by kernel_rfl) (by kernel_rfl) (fun _ _ _ h => h) (Or.inl ⟨by rfl, ?_⟩) (by assumption) ?_
          rotate_left 1
          · (intro w' hSw; go_simp; try with_reducible rfl)
          try simp only [Act.put, List.setIfInBounds_toArray, List.set_cons_zero, List.set_cons_succ]
          refine wpAnyW_take (i := 9) (v := ?_) (by simp only [List.getElem?_toArray, List.getElem?_cons_succ, List.getElem?_cons_zero]; rfl) (by kernel_rfl) (by kernel_rfl) (by kernel_rfl) (by kernel_rfl) (by kernel_rfl) (fun _ _ _ h => h) (Or.inl ⟨by rfl, ?_⟩) (by assumption) ?_
          rotate_left 1
          · (intro w' hSw; go_simp; try with_reducible rfl)
          try simp only [Act.put, List.setIfInBounds_toArray, List.set_cons_zero, List.set_cons_succ]
          refine wpAnyW_take (i := 10) (v := ?_) (by simp only [List.getElem?_toArray, List.getElem?_cons_succ, List.getElem?_cons_zero]; rfl) (by kernel_rfl) (by kernel_rfl) (by kernel_rfl) (by kernel_rfl) (by kernel_rfl) (fun _ _ _ h => h) (Or.inl ⟨by rfl, ?_⟩) (by assumption) ?_
          rotate_left 1
          · (intro w' hSw; go_simp; try with_reducible rfl)
          try simp only [Act.put, List.setIfInBounds_toArray, List.set_cons_zero, List.set_cons_succ]
          refine wpAnyW_take (i := 11) (v := ?_) (by simp only [List.getElem?_toArray, List.getElem?_cons_succ, List.getElem?_cons_zero]; rfl) (by kernel_rfl) (by kernel_rfl) (by kernel_rfl) (by kernel_rfl) (by kernel_rfl) (fun _ _ _ h => h) (Or.inl ⟨by rfl, ?_⟩) (by assumption) ?_
          rotate_left 1
          · (intro w' hSw; go_simp; try with_reducible rfl)
          try simp only [Act.put, List.setIfInBounds_toArray, List.set_cons_zero, List.set_cons_succ]
          refine wpAnyW_take (i := 12) (v := ?_) (by simp only [List.getElem?_toArray, List.getElem?_cons_succ, List.getElem?_cons_zero]; rfl) (by kernel_rfl) (by kernel_rfl) (by kernel_rfl) (by kernel_rfl) (by kernel_rfl) (fun _ _ _ h => h) (Or.inl ⟨by rfl, ?_⟩) (by assumption) ?_
          rotate_left 1
          · (intro w' hSw; go_simp; try with_reducible rfl)
          try simp only [Act.put, List.setIfInBounds_toArray, List.set_cons_zero, List.set_cons_succ]
          refine wpAnyW_take (i := 13) (v := ?_) (by simp only [List.getElem?_toArray, List.getElem?_cons_succ, List.getElem?_cons_zero]; rfl) (by kernel_rfl) (by kernel_rfl) (by kernel_rfl) (by kernel_rfl) (by kernel_rfl) (fun _ _ _ h => h) (Or.inl ⟨by rfl, ?_⟩) (by assumption) ?_
          rotate_left 1
          · (intro w' hSw; go_simp; try with_reducible rfl)
          try simp only [Act.put, List.setIfInBounds_toArray, List.set_cons_zero, List.set_cons_succ]
          refine wpAnyW_take (i := 14) (v := ?_) (by simp only [List.getElem?_toArray, List.getElem?_cons_succ, List.getElem?_cons_zero]; rfl) (by kernel_rfl) (by kernel_rfl) (by kernel_rfl) (by kernel_rfl) (by kernel_rfl) (fun _ _ _ h => h) (Or.inl ⟨by rfl, ?_⟩) (by assumption) ?_
          rotate_left 1
          · (intro w' hSw; have hq : w'.cell? ⟨b, off + q, none⟩ = some (.int .u32 (lb : Int)) := HLB.out _ hSw.2.2.2.2.1; go_simp; try with_reducible rfl)
          try simp only [Act.put, List.setIfInBounds_toArray, List.set_cons_zero, List.set_cons_succ]
          refine wpAnyW_take (i := 15) (v := ?_) (by simp only [List.getElem?_toArray, List.getElem?_cons_succ, List.getElem?_cons_zero]; rfl) (by kernel_rfl) (by kernel_rfl) (by kernel_rfl) (by kernel_rfl) (by kernel_rfl) (fun _ _ _ h => h) (Or.inl ⟨by rfl, ?_⟩) (by assumption) ?_
          rotate_left 1
          · (intro w' hSw; go_simp; try with_reducible rfl)
          try simp only [Act.put, List.setIfInBounds_toArray, List.set_cons_zero, List.set_cons_succ]
          refine wpAnyW_take (i := 16) (v := ?_) (by simp only [List.getElem?_toArray, List.getElem?_cons_succ, List.getElem?_cons_zero]; rfl) (by kernel_rfl) (by kernel_rfl) (by kernel_rfl) (by kernel_rfl) (by kernel_rfl) (fun _ _ _ h => h) (Or.inl ⟨by rfl, ?_⟩) (by assumption) ?_
          rotate_left 1
          · (intro w' hSw; go_simp; try with_reducible rfl)
          try simp only [Act.put, List.setIfInBounds_toArray, List.set_cons_zero, List.set_cons_succ]
          refine wpAnyW_held (i := 17) (by kernel_rfl) (by simp only [List.getElem?_toArray, List.getElem?_cons_succ, List.getElem?_cons_zero]; rfl) (fun K hK => ?_)
          rw [if_pos (by rfl)]
          go_simp
          refine (HTh.out _ _ _ _ _ hHeld.2.1 hHeld.2.2.1).mono ?_
          rintro _ w5 ⟨A5, k5, A6, k6, rfl, HX⟩
          obtain ⟨r1, r2, f1, f2, hb⟩ := HX.out
          have HR := Lib.hid (And.intro r1 (And.intro r2 (And.intro (f1.less hHeld.2.2.2.2.2) (f2.less hHeld.2.2.2.2.2))))
          have hgx := hHeld.1.lt
          have HS := And.intro (hHeld.1.later hb) (And.intro (hHeld.2.1.below hb) (And.intro (hHeld.2.2.1.below hb) (And.intro (hHeld.2.2.2.1.later hb) (And.intro (hHeld.2.2.2.2.1.trans (hb.mono hHeld.2.2.2.2.1.size)) (Nat.le_trans hHeld.2.2.2.2.2 hb.size)))))
          clear hHeld hb r1 r2 f1 f2 HX
          go_wp2_with fail
          refine hK.out _ _ HS (fun hHeld => ?_)
          clear hK K HS
          try simp only [Act.put, List.setIfInBounds_toArray, List.set_cons_zero, List.set_cons_succ]
          refine wpAnyW_take (i := 18) (v := ?_) (by simp only [List.getElem?_toArray, List.getElem?_cons_succ, List.getElem?_cons_zero]; rfl) (by kernel_rfl) (by kernel_rfl) (by kernel_rfl) (by kernel_rfl) (by kernel_rfl) (fun _ _ _ h => h) (Or.inl ⟨by rfl, ?_⟩) (by assumption) ?_
          rotate_left 1
          · (intro w' hSw; go_simp; try with_reducible rfl)
          try simp only [Act.put, List.setIfInBounds_toArray, List.set_cons_zero, List.set_cons_succ]
          refine wpAnyW_take (i := 19) (v := ?_) (by simp only [List.getElem?_toArray, List.getElem?_cons_succ, List.getElem?_cons_zero]; rfl) (by kernel_rfl) (by kernel_rfl) (by kernel_rfl) (by kernel_rfl) (by kernel_rfl) (fun _ _ _ h => h) (Or.inl ⟨by rfl, ?_⟩) (by assumption) ?_
          rotate_left 1
          · (intro w' hSw; go_simp; try with_reducible rfl)
          try simp only [Act.put, List.setIfInBounds_toArray, List.set_cons_zero, List.set_cons_succ]
          refine wpAnyW_takeY (i := 20) (v := ?_) (by simp only [List.getElem?_toArray, List.getElem?_cons_succ, List.getElem?_cons_zero]; rfl) (by kernel_rfl) (by kernel_rfl) (by kernel_rfl) (by kernel_rfl) (fun _ _ _ h => h) (Or.inl ⟨by rfl, ?_⟩) (fun _ => by assumption) ?_
          rotate_left 1
          · (intro w' _; go_simp; try with_reducible rfl)
          try simp only [Act.put, List.setIfInBounds_toArray, List.set_cons_zero, List.set_cons_succ]
          refine wpAnyW_freed (i := 21) (by kernel_rfl) (by kernel_rfl) (by simp only [List.getElem?_toArray, List.getElem?_cons_succ, List.getElem?_cons_zero]; rfl) (fun K hK => ?_)
          rw [if_pos (by rfl)]
          refine wpB (ty := 25) #[.int .u32 (y2.cum.toNat : Int), .slice A5 y2.ab.length k5, .slice A6 y2.du.length k6] rfl rfl rfl hHeld.1 infoG rfl (cellsG_one _ _ _ _ _ _ _) ?_
          intro w7 ht hg
          have Hh : Hid (GAt g2 B0 y2 w7) := Lib.hid ⟨A5, k5, A6, k6, ht, HR.out.1.stays HR.out.2.2.1 hg (by omega), HR.out.2.1.stays HR.out.2.2.2 hg (by omega), HR.out.2.2.1, HR.out.2.2.2⟩
          have Hg := Lib.hid (hHeld.2.2.2.1.kept hg (by omega) (by omega))
          have HB := Lib.hid (below_of_grown1 hHeld.2.2.2.2.1 hg hHeld.2.2.2.2.1.size (by omega))
          have hB0 := Nat.le_trans hHeld.2.2.2.2.2 hg.size
          clear ht hg hHeld HR
          refine hK.out _ _ ?_
          clear hK K
          try simp only [Act.put, List.setIfInBounds_toArray, List.set_cons_zero, List.set_cons_succ]
          refine wpAnyW_done (by kernel_rfl) ?_ _
          refine NoPanic.normal ?_
          go_wp2_with fail
          go_roundw
          case rel => exact ⟨i + 1, by omega, by go_num, Lib.hid ⟨x2, y2, HSX.out, HSY.out, Hg.out, Hh.out, HB.out, hB0⟩⟩
          case measure => simp [intOf]; omega
        · obtain rfl : i = L := by omega
          obtain ⟨e1, e2, e3⟩ := HRX.out.same HRY.out (fun z => ⟨fun ⟨j, hj, he⟩ => by
            obtain ⟨j', h1, h2⟩ := back_index hj hkL
            exact ⟨j', h1, by show numOf first l ((i - 1 - j' + kk) % i) = z; rw [h2]; exact he⟩, fun ⟨j, hj, he⟩ => ⟨(i - 1 - j + kk) % i, Nat.mod_lt _ (by omega), he⟩⟩)
          have hdl := (HRX.out.right (by omega)).2.1
          clear HRX HRY
          obtain ⟨cx, ax, dx⟩ := x
          obtain ⟨cy, ay, dy⟩ := y
          dsimp only at e1 e2 e3 hdl
          subst e1 e2
          obtain ⟨Ag, kg, Bg, mg, u1, u2, u3, -, -⟩ := Hg.out
          obtain ⟨Ah, kh, Bh, mh, v1, v2, v3, -, -⟩ := Hh.out
          dsimp only at u1 u2 u3 v1 v2 v3
          have HQ1 := Lib.hid u1
          have HQ2 := Lib.hid v1
          have HNS := Lib.hid (fun W h h' => nums_same ax (by omega) (.slice Ag ax.length kg) (.slice Ah ax.length kh) W h h')
          have HU2 := Lib.hid u2
          have HV2 := Lib.hid v2
          have c0 := HQ1.out.cell 0 (.int .u32 (cx.toNat : Int)) rfl
          have c1 := HQ1.out.cell 1 (.slice Ag ax.length kg) rfl
          have d0 := HQ2.out.cell 0 (.int .u32 (cx.toNat : Int)) rfl
          have d1 := HQ2.out.cell 1 (.slice Ah ax.length kh) rfl
          have q9 : ((dx.length : Int) == (dy.length : Int)) = true := by rw [e3]; simp
          clear u1 u2 u3 v1 v2 v3 Hg Hh e3
          go_wp2_with fail
          refine (HNS.out _ HU2.out HV2.out).mono ?_
          rintro e w8 ⟨rfl, hb8⟩
          have c2 := (HQ1.out.later hb8).cell 2 (.slice Bg dx.length mg) rfl
          have d2 := (HQ2.out.later hb8).cell 2 (.slice Bh dy.length mh) rfl
          replace HB := Lib.hid (HB.out.trans (hb8.mono HB.out.size))
          clear hb8 c0 c1 d0 d1
          go_wp2_with fail
          go_ret
          exact ⟨rfl, HB.out⟩
  · have q60 : (60 : Int) < (L : Int) := by omega
    go_enter Try.func6, Try.ntmps6
    go_wp2_with (go_at_call 10; (with_reducible refine (HSH.out _).mono ?_); rintro e w1 ⟨rfl, hb⟩; replace HB := Lib.hid hb; clear hb)
    go_ret
    exact ⟨rfl, HB.out⟩

set_option maxRecDepth 100000 in
theorem lifted (os : Os) (started : os.Started) (H : Type) (enc : TypeId × Value → H) :
    ReturnsInHanded {} Try.checked os 6 .any (Rows.gotOrdersSpec.pre6 enc Try.prog Try.f6 Rows.gotOrdersRow.domain false) (Rows.gotOrdersSpec.post enc Try.prog Try.f6 false true false false) := by
  refine returnsInHanded_of_change_sized (C := Try.checked) own started (by kernel_rfl) Try.func6
    (ChangeSpec.witness6 (enc := enc) (C := Try.checked) false ⟨#[], #[.int .u32 0, .slice none 0 0, .int .i64 0], []⟩ 8 (by kernel_rfl) (by kernel_rfl) (by kernel_rfl) (by kernel_rfl)) ?_
  intro W base args ds gs before hval0 hW _ hreach _
  have hval : ∀ (j : Nat) t v, Try.f6.params[j]? = some t → args[j]? = some v → Value.okWide Try.prog W .any base t v := hval0
  obtain ⟨p, q, hA0, _, _, _, _⟩ := id hW
  have hA : DataW.TrodAll enc Try.prog W 0 (fun _ => true) true Try.f6.params.toList args.toList ds p := hA0
  rw [Try.params6] at hA hval
  obtain ⟨v0, vs0, d0, ds0, p0, q0, hargs, rfl, rfl, h0, r0⟩ := trodAll_cons hA
  obtain ⟨v1, vs1, d1, ds1, p1, q1, rfl, rfl, rfl, h1, r1⟩ := trodAll_cons r0
  obtain ⟨v2, vs2, d2, ds2, p2, q2, rfl, rfl, rfl, h2, r2⟩ := trodAll_cons r1
  obtain ⟨rfl, rfl, rfl⟩ := trodAll_nil r2
  obtain rfl : args = #[v0, v1, v2] := by cases args; simp_all
  obtain ⟨a0, rfl, rfl, rfl, w0⟩ := open_int Try.underlying22 (hval 0 22 v0 rfl rfl) h0
  obtain ⟨n0, _, rfl⟩ := u32_of a0 w0
  obtain ⟨l1, ra1⟩ := open_row (t := 23) Try.underlying23 Try.underlying22 (by kernel_rfl) (hval 1 23 v1 rfl rfl) h1
  obtain ⟨a2, rfl, rfl, rfl, w2⟩ := open_int Try.underlying3 (hval 2 3 v2 rfl rfl) h2
  refine (walk n0 l1 a2 (bounds_i64 w2) v1 W ra1).mono fun e W' ⟨he, hg⟩ => ?_
  subst he
  exact ⟨_, rfl, law_post laidOut Try.underlying4 (by kernel_rfl) (by kernel_rfl) rfl hW (by simp [Rows.gotOrdersSpec]) hg⟩

theorem proved : Rows.GotOrdersSaid :=
  OpenClaim.holds_of_wide 6 Try.f6 rfl rfl rfl rfl rfl rfl rfl ⟨rfl, rfl, rfl, rfl, rfl⟩ rfl rfl rfl rfl rfl (by kernel_rfl) Try.func6 (by kernel_rfl)
    (of_decide_eq_true (by kernel_rfl)) (by unfold Func.isWrapper; first | (rw [if_pos (by decide +kernel)]; kernel_rfl) | (rw [if_neg (by decide +kernel)]; exact ⟨rfl, rfl⟩))
    (fun os started H enc _ => lifted os started H enc)
#print axioms proved
end Go.Proofs.Ytfmgfpfaigifaaa.gotOrders
