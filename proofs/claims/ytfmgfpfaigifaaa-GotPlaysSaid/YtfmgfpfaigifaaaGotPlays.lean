/-
  After any numbers, in whatever order, each was fresh once at most, and is there; all up to the cumulative one came, and the next one did not: any first number, any distances.
-/
import Derived.Test.YtfmgfpfaigifaaaLift
import Derived.Test.YtfmgfpfaigifaaaArgs
import Derived.Test.YtfmgfpfaigifaaaGl
import Derived.Test.YtfmgfpfaigifaaaGr
namespace Go.Proofs.Ytfmgfpfaigifaaa.gotPlays
open Go.ChangeShapes Go.WideShapes Go.ChangeAt Go.RowKit
set_option linter.unusedVariables false
set_option linter.unusedSimpArgs false

theorem made_next {b : UInt32} {S : List UInt32} {g : Gt} (h : Made b S g) : g.cum + 1 ∉ S := fun hm => by
  have hn := h.near
  have e : key b (g.cum + 1) = key b g.cum + 1 := key_up (by omega)
  have := h.two _ ((h.ab _).2 ⟨hm, by omega⟩)
  omega
theorem rowE_grown {w w' : World} {v : Value} {l : List UInt32} {B : Nat} {row : Option Nat} (h : RowE enc32 w v l) (hf : FreshE B v) (hg : w.grownBy w' row) (hk : ∀ k, row = some k → k < B) : RowE enc32 w' v l := by
  obtain ⟨A, cap, rfl, h1, h2, h3⟩ := h
  refine ⟨A, cap, rfl, h1, h2, fun hl => ?_⟩
  obtain ⟨b, off, rfl, hb, hc⟩ := h3 hl
  have hB := hf _ _ _ rfl hl
  refine ⟨b, off, rfl, Nat.lt_of_lt_of_le hb hg.size, fun j hj => ?_⟩
  rw [← hc j hj]
  exact World.cell?_of_block (hg.block b hb (fun e => by have := hk b e.symm; exact absurd hB (by show ¬ B ≤ b; omega)))
theorem first_cum (first cum : UInt32) : (((cum.toNat : Int) - (first.toNat : Int)) % 4294967296 + 1) % 4294967296 = (key (first - 1) cum : Int) := by
  unfold key
  simp only [UInt32.toNat_sub]
  have := first.toNat_lt; have := cum.toNat_lt
  have h1 : (1 : UInt32).toNat = 1 := rfl
  rw [h1]
  omega
theorem first_key (first : UInt32) {j : Nat} (h : j < 1000) : key (first - 1) (first + UInt32.ofNat j) = j + 1 := key_num first h
/-- Where the law's loop stands: the numbers that came, in a row of the law's own; the got in its box. -/
def PlS (w : World) (g1 B0 : Nat) (b : UInt32) (i : Nat) (v : Value) (W : World) : Prop := ∃ S x, Made b S x ∧ x.du.length + S.length = i ∧ GAt g1 B0 x W ∧ (∃ A k, v = .slice A S.length k) ∧ OwnG W B0 22 1 v S.length (S.map enc32) ∧ Below w.heap.size w W ∧ B0 ≤ W.heap.size
set_option maxHeartbeats 4000000 in
set_option maxRecDepth 100000 in
theorem walk (first : UInt32) (l : List UInt32) (vl : Value) (w : World) (h1 : RowE enc32 w vl l) : Calls Try.prog 5 #[.int .u32 (first.toNat : Int), vl] w fun e w' => e = .returned (.bool true) ∧ Below w.heap.size w w' := by
  have HSH := Lib.hid (fun W => shown_any W)
  have HNW := Lib.hid (fun W => new_any first W)
  have HKEY := Lib.hid (fun j => numOf_key first l j)
  have HFC := Lib.hid (fun cum => first_cum first cum)
  have HFK := Lib.hid (fun j (h : j < 1000) => first_key first h)
  have hf0 := first.toNat_lt
  generalize first - 1 = b0 at *
  obtain ⟨A, cap, rfl, hk1, hk2, hcells⟩ := id h1
  have hmI : (l.length : Int) ≤ 9223372036854775807 := by unfold maxLen at hk2; omega
  have HC := Lib.hid hcells
  clear hcells h1 hk1 hk2
  generalize l.length = L at *
  have HB := Lib.hid (Below.refl w.heap.size w)
  obtain ⟨i0, hi0, hz0, hz1, hz2⟩ := info_parts infoUZ
  have HI := Lib.hid hi0
  have HZ0 := Lib.hid hz0
  have HZ1 := Lib.hid hz1
  have HZ2 := Lib.hid hz2
  clear hi0 hz0 hz1 hz2
  by_cases h60 : L ≤ 60
  · have q60 : ¬ (60 : Int) < (L : Int) := by omega
    go_enter Try.func5, Try.ntmps5
    go_wp2_with (go_at_call 10; (with_reducible refine (HSH.out _).mono ?_); rintro e w1 ⟨rfl, hb⟩; replace HB := Lib.hid hb; clear hb)
    refine (HNW.out _).mono ?_
    rintro e w2 ⟨rfl, hb2⟩
    replace HB := Lib.hid (HB.out.trans (hb2.mono HB.out.size))
    have hwg0 := HB.out.size
    clear hb2 HNW
    obtain ⟨W3, hW3, HQ, HB3, hs3⟩ := one_open w2 25 #[.int .u32 0, .slice none 0 0, .slice none 0 0]
    obtain ⟨g1, hg1⟩ : ∃ g, w2.heap.size = g := ⟨_, rfl⟩
    rw [hg1] at HQ
    go_wp2_with ((with_reducible refine gate9 ?_); refine stB (ty := 25) #[.int .u32 (b0.toNat : Int), .slice none 0 0, .slice none 0 0] rfl rfl rfl rfl HQ.out infoG rfl (cellsG_one _ _ _ _ _ _ _) ?_; intro w4 ht hg; replace HB3 := Lib.hid (below_of_grown1 HB3.out hg HB3.out.size (Nat.le_of_eq hg1)); replace HQ := Lib.hid ht; replace HB := Lib.hid (HB.out.trans (HB3.out.mono HB.out.size)); clear ht hg HB3)
    clear hW3 hs3
    have hwg : w.heap.size ≤ g1 := by omega
    have hg1B0 := HQ.out.lt
    obtain ⟨B0, hB0e⟩ : ∃ B, w4.heap.size = B := ⟨_, rfl⟩
    have hg1B : g1 < B0 := by omega
    have HST : Hid (PlS w g1 B0 b0 0 (.slice none 0 0) w4) := Lib.hid ⟨[], ⟨b0, [], []⟩, Made.start b0, rfl, ⟨none, 0, none, 0, HQ.out, RowE.nil _ _, RowE.nil _ _, freshE_nil _, freshE_nil _⟩, ⟨_, _, rfl⟩, OwnG.nil _ _ _ _, HB.out, by omega⟩
    clear HQ HB hg1B0
    go_loopw [7, 8] (fun v i wr => ∃ j : Nat, j ≤ L ∧ i = .int .i64 j ∧ Hid (PlS w g1 B0 b0 j v wr))
      (fun _ i _ => L - (intOf i).toNat)
    case atStart => exact ⟨0, Nat.zero_le _, rfl, HST⟩
    case round =>
      clear HST
      obtain ⟨i, hi, rfl, HPL⟩ := hrel
      obtain ⟨S, x, p1, p2, p3, ⟨Ac, kc, rfl⟩, p5, p6, hB0⟩ := HPL.out
      have HM := Lib.hid p1
      have hdl := p2
      have HX := Lib.hid p3
      have HO := Lib.hid p5
      have HB := Lib.hid p6
      clear p1 p2 p3 p5 p6 HPL
      have hcn := HM.out.cnt
      have hr := HM.out.right (by omega)
      by_cases hlt : i < L
      · obtain ⟨b, off, rfl, hb, hc⟩ := HC.out (by omega)
        have e1 : wr.cell? ⟨b, off + i, none⟩ = some (.int .u32 (l[i]!.toNat : Int)) := (HB.out.cell (p := ⟨b, off + i, none⟩) hb).trans (hc i hlt)
        have s5 := numOf_nat first l i
        have t5 : Int.tmod (l[i]!.toNat : Int) 64 = (l[i]!.toNat : Int) % 64 := Int.tmod_eq_emod_of_nonneg (by omega)
        have HN := Lib.hid (HKEY.out i)
        have p0 : (0 : Int) ≤ (i : Int) := by omega
        have p1 : (i : Int) < (L : Int) := by omega
        clear hc
        generalize numOf first l i = n at *
        generalize l[i]!.toNat = la at *
        by_cases hin : n ∈ S
        · skip
          have HTK := Lib.hid (fun A A' k k' W h1 h2 => take_law x n hr (by omega) (by omega) A A' k k' W h1 h2)
          have hT := HM.out.dup hin
          have HM2 : Hid (Made b0 S (takeG x n).1 ∧ (takeG x n).1.du.length + S.length = i + 1) := Lib.hid (by rw [hT]; exact ⟨HM.out.same _, by have h9 : x.du.length < 100 := (by omega); simp [h9]; omega⟩)
          have HB2 : Hid ((takeG x n).2 = false) := Lib.hid (by rw [hT])
          have hr2 := HM2.out.1.right (by have := HM2.out.2; omega)
          have hsz2 : (takeG x n).1.ab.length ≤ 100 ∧ (takeG x n).1.du.length ≤ 100 := ⟨by have := HM2.out.1.cnt; have := HM2.out.2; omega, by have := HM2.out.2; omega⟩
          have HAM := Lib.hid (fun W h => among_any S (by omega) (.slice Ac S.length kc) n W h)
          rw [decide_eq_true hin] at HAM
          clear hT
          generalize takeG x n = RX at *
          obtain ⟨⟨c2, a2, d2⟩, bx2⟩ := RX
          have hbx2 : bx2 = false := HB2.out
          subst hbx2
          dsimp only at HTK HM2 hr2 hsz2
          have HRT := Lib.hid (fun va vd W h h' => right_yes c2 a2 d2 (by unfold maxLen; omega) (by unfold maxLen; omega) va vd W h h' hr2)
          have hc2 := c2.toNat_lt
          clear HB2 hr2 hin
          generalize hn0 : n.toNat = n0 at *
          have HN0 := Lib.hid hn0
          clear hn0
          obtain ⟨Ax, kx, Bx0, mx, u1, u2, u3, -, -⟩ := HX.out
          have HQ := Lib.hid u1
          have HU := Lib.hid (And.intro u2 u3)
          clear u1 u2 u3
          go_wp2_with (first
    | ((with_reducible refine gate9 ?_); refine ldB (ty := 25) rfl rfl rfl HQ.out Try.underlying25 rfl infoG ?_))
          refine (HTK.out _ _ _ _ _ HU.out.1 HU.out.2).mono ?_
          rintro e w5 ⟨A5, k5, A6, k6, rfl, HX5⟩
          obtain ⟨r1, r2, f1, f2, hb5⟩ := HX5.out
          have hcb : ∀ k, (Value.slice Ac S.length kc).ownBlock = some k → B0 ≤ k ∧ k < wr.heap.size := HO.out.lt
          have HCB := Lib.hid hcb
          have HR5 := Lib.hid (And.intro r1 r2)
          have HF5 := Lib.hid (And.intro f1 f2)
          replace HQ := Lib.hid (HQ.out.later hb5)
          replace HO := Lib.hid (HO.out.later hb5)
          replace HB := Lib.hid (HB.out.trans (hb5.mono HB.out.size))
          have hs5 := hb5.size
          clear r1 r2 f1 f2 hb5 HX5 HTK hcb HX
          obtain ⟨W6, hW6, HT, HB6, hs6⟩ := one_open w5 25 #[.int .u32 0, .slice none 0 0, .slice none 0 0]
          obtain ⟨gt, hgt⟩ : ∃ g, w5.heap.size = g := ⟨_, rfl⟩
          rw [hgt] at HT
          go_wp2_with (first
    | ((with_reducible refine gate9 ?_); refine stB (ty := 25) #[.int .u32 (c2.toNat : Int), .slice A5 a2.length k5, .slice A6 d2.length k6] rfl rfl rfl rfl HT.out infoG rfl (cellsG_one _ _ _ _ _ _ _) ?_; intro w7 ht hg; replace HB6 := Lib.hid (below_of_grown1 HB6.out hg HB6.out.size (Nat.le_of_eq hgt)); replace HT := Lib.hid ht; have HQ7 := Lib.hid (HQ.out.later HB6.out); have HO7 := Lib.hid (HO.out.later HB6.out); have HR7 := Lib.hid (And.intro (HR5.out.1.below HB6.out) (HR5.out.2.below HB6.out)); have HB7 := Lib.hid (HB.out.trans (HB6.out.mono HB.out.size)); have hs7 := HB6.out.size; have HRC := Lib.hid (rowE_of_ownG HO7.out); have t0 := HT.out.cell 0 (.int .u32 (c2.toNat : Int)) rfl; have t1 := HT.out.cell 1 (.slice A5 a2.length k5) rfl; have t2 := HT.out.cell 2 (.slice A6 d2.length k6) rfl; clear ht hg HB6)
    | (go_at_call 30; (with_reducible refine (HAM.out _ HRC.out).mono ?_); rintro e w8 ⟨rfl, rfl⟩)
    | ((with_reducible refine gate9 ?_); refine ldB (ty := 25) rfl rfl rfl HT.out Try.underlying25 rfl infoG ?_)
    | (go_at_call 12; (with_reducible refine (as_any c2.toNat hc2 _ _ _ _ _ _ _).mono ?_); rintro e w8 ⟨rfl, hb⟩; clear t0 t1 t2; replace HT := Lib.hid (HT.out.later hb); replace HQ7 := Lib.hid (HQ7.out.later hb); replace HO7 := Lib.hid (HO7.out.later hb); replace HR7 := Lib.hid (And.intro (HR7.out.1.below hb) (HR7.out.2.below hb)); replace HB7 := Lib.hid (HB7.out.trans (hb.mono HB7.out.size)); replace hs7 := Nat.le_trans hs7 hb.size; clear hb)
    | (go_at_call 11; (with_reducible refine (HRT.out _ _ _ HR7.out.1 HR7.out.2).mono ?_); rintro e w8 ⟨rfl, hb⟩; replace HT := Lib.hid (HT.out.later hb); replace HQ7 := Lib.hid (HQ7.out.later hb); replace HO7 := Lib.hid (HO7.out.later hb); replace HR7 := Lib.hid (And.intro (HR7.out.1.below hb) (HR7.out.2.below hb)); replace HB7 := Lib.hid (HB7.out.trans (hb.mono HB7.out.size)); replace hs7 := Nat.le_trans hs7 hb.size; clear hb)
    | ((with_reducible refine gate9 ?_); refine stB (ty := 25) #[.int .u32 (c2.toNat : Int), .slice A5 a2.length k5, .slice A6 d2.length k6] rfl rfl rfl rfl HQ7.out infoG rfl (cellsG_one _ _ _ _ _ _ _) ?_; intro w11 ht hg; have HG11 : Hid (GAt g1 B0 ⟨c2, a2, d2⟩ w11) := Lib.hid ⟨A5, k5, A6, k6, ht, HR7.out.1.stays HF5.out.1 hg (by omega), HR7.out.2.stays HF5.out.2 hg (by omega), HF5.out.1.less (by omega), HF5.out.2.less (by omega)⟩; have HO11 := Lib.hid (HO7.out.keep (fun k hk => hg.block k (HO7.out.lt k hk).2 (by intro e9; cases e9; have := (HO7.out.lt _ hk).1; omega))); have HB11 := Lib.hid (below_of_grown1 HB7.out hg HB7.out.size (by omega)); have hs11 := hg.size; clear ht hg))
          go_roundw
          case rel => exact ⟨i + 1, by omega, by go_num, Lib.hid ⟨S, ⟨c2, a2, d2⟩, HM2.out.1, HM2.out.2, HG11.out, ⟨_, _, rfl⟩, HO11.out, HB11.out, by omega⟩⟩
          case measure => simp [intOf]; omega
        · skip
          have HTK := Lib.hid (fun A A' k k' W h1 h2 => take_law x n hr (by omega) (by omega) A A' k k' W h1 h2)
          obtain ⟨hT1, hT2, hT3⟩ := HM.out.fresh HN.out.1 (by have := HN.out.2; omega) hin
          have HM2 : Hid (Made b0 (S ++ [n]) (takeG x n).1 ∧ (takeG x n).1.du.length + (S ++ [n]).length = i + 1) := Lib.hid ⟨hT3, by rw [hT2]; simp; omega⟩
          have HB2 : Hid ((takeG x n).2 = true) := Lib.hid hT1
          have hr2 := HM2.out.1.right (by have := HM2.out.2; omega)
          have hsz2 : (takeG x n).1.ab.length ≤ 100 ∧ (takeG x n).1.du.length ≤ 100 := ⟨by have := HM2.out.1.cnt; have := HM2.out.2; omega, by have := HM2.out.2; omega⟩
          have HAM := Lib.hid (fun W h => among_any S (by omega) (.slice Ac S.length kc) n W h)
          rw [decide_eq_false hin] at HAM
          clear hT1 hT2 hT3
          generalize takeG x n = RX at *
          obtain ⟨⟨c2, a2, d2⟩, bx2⟩ := RX
          have hbx2 : bx2 = true := HB2.out
          subst hbx2
          dsimp only at HTK HM2 hr2 hsz2
          have HRT := Lib.hid (fun va vd W h h' => right_yes c2 a2 d2 (by unfold maxLen; omega) (by unfold maxLen; omega) va vd W h h' hr2)
          have hc2 := c2.toNat_lt
          clear HB2 hr2 hin
          generalize hn0 : n.toNat = n0 at *
          have HN0 := Lib.hid hn0
          clear hn0
          obtain ⟨Ax, kx, Bx0, mx, u1, u2, u3, -, -⟩ := HX.out
          have HQ := Lib.hid u1
          have HU := Lib.hid (And.intro u2 u3)
          clear u1 u2 u3
          go_wp2_with (first
    | ((with_reducible refine gate9 ?_); refine ldB (ty := 25) rfl rfl rfl HQ.out Try.underlying25 rfl infoG ?_))
          refine (HTK.out _ _ _ _ _ HU.out.1 HU.out.2).mono ?_
          rintro e w5 ⟨A5, k5, A6, k6, rfl, HX5⟩
          obtain ⟨r1, r2, f1, f2, hb5⟩ := HX5.out
          have hcb : ∀ k, (Value.slice Ac S.length kc).ownBlock = some k → B0 ≤ k ∧ k < wr.heap.size := HO.out.lt
          have HCB := Lib.hid hcb
          have HR5 := Lib.hid (And.intro r1 r2)
          have HF5 := Lib.hid (And.intro f1 f2)
          replace HQ := Lib.hid (HQ.out.later hb5)
          replace HO := Lib.hid (HO.out.later hb5)
          replace HB := Lib.hid (HB.out.trans (hb5.mono HB.out.size))
          have hs5 := hb5.size
          clear r1 r2 f1 f2 hb5 HX5 HTK hcb HX
          obtain ⟨W6, hW6, HT, HB6, hs6⟩ := one_open w5 25 #[.int .u32 0, .slice none 0 0, .slice none 0 0]
          obtain ⟨gt, hgt⟩ : ∃ g, w5.heap.size = g := ⟨_, rfl⟩
          rw [hgt] at HT
          go_wp2_with (first
    | ((with_reducible refine gate9 ?_); refine stB (ty := 25) #[.int .u32 (c2.toNat : Int), .slice A5 a2.length k5, .slice A6 d2.length k6] rfl rfl rfl rfl HT.out infoG rfl (cellsG_one _ _ _ _ _ _ _) ?_; intro w7 ht hg; replace HB6 := Lib.hid (below_of_grown1 HB6.out hg HB6.out.size (Nat.le_of_eq hgt)); replace HT := Lib.hid ht; have HQ7 := Lib.hid (HQ.out.later HB6.out); have HO7 := Lib.hid (HO.out.later HB6.out); have HR7 := Lib.hid (And.intro (HR5.out.1.below HB6.out) (HR5.out.2.below HB6.out)); have HB7 := Lib.hid (HB.out.trans (HB6.out.mono HB.out.size)); have hs7 := HB6.out.size; have HRC := Lib.hid (rowE_of_ownG HO7.out); have t0 := HT.out.cell 0 (.int .u32 (c2.toNat : Int)) rfl; have t1 := HT.out.cell 1 (.slice A5 a2.length k5) rfl; have t2 := HT.out.cell 2 (.slice A6 d2.length k6) rfl; clear ht hg HB6)
    | (go_at_call 30; (with_reducible refine (HAM.out _ HRC.out).mono ?_); rintro e w8 ⟨rfl, rfl⟩)
    | ((with_reducible refine gate9 ?_); refine ldB (ty := 25) rfl rfl rfl HT.out Try.underlying25 rfl infoG ?_)
    | (go_at_call 12; (with_reducible refine (as_any c2.toNat hc2 _ _ _ _ _ _ _).mono ?_); rintro e w8 ⟨rfl, hb⟩; clear t0 t1 t2; replace HT := Lib.hid (HT.out.later hb); replace HQ7 := Lib.hid (HQ7.out.later hb); replace HO7 := Lib.hid (HO7.out.later hb); replace HR7 := Lib.hid (And.intro (HR7.out.1.below hb) (HR7.out.2.below hb)); replace HB7 := Lib.hid (HB7.out.trans (hb.mono HB7.out.size)); replace hs7 := Nat.le_trans hs7 hb.size; clear hb)
    | (go_at_call 11; (with_reducible refine (HRT.out _ _ _ HR7.out.1 HR7.out.2).mono ?_); rintro e w8 ⟨rfl, hb⟩; replace HT := Lib.hid (HT.out.later hb); replace HQ7 := Lib.hid (HQ7.out.later hb); replace HO7 := Lib.hid (HO7.out.later hb); replace HR7 := Lib.hid (And.intro (HR7.out.1.below hb) (HR7.out.2.below hb)); replace HB7 := Lib.hid (HB7.out.trans (hb.mono HB7.out.size)); replace hs7 := Nat.le_trans hs7 hb.size; clear hb)
    | (at_builtin; refine wpList_append_fed _ rfl (.tmp 56) (.tmp 58) 23 23 rfl B0 22 i0 _ 1 4 Try.underlying23 (.inr ⟨_, Try.underlying23⟩) HI.out HZ0.out HZ1.out HZ2.out rfl (.slice Ac S.length kc) _ _ rfl (HO7.out.alloc _) _ 1 [.int .u32 (n0 : Int)] rfl (Fed.block (heap_alloc_new _ _) rfl (by intro u hu; simp at hu; subst hu; rfl)) (by unfold maxLen; omega) (by omega) (by simp; omega) ?_; intro v9 w9 hown hgr; have HBA := Lib.hid ((Below.refl w8.heap.size w8).alloc (Nat.le_refl _) (.cells #[.int .u32 (n0 : Int)] 22)); have hba := HBA.out.size; have HTA := Lib.hid (HT.out.old (.cells #[.int .u32 (n0 : Int)] 22)); have HQA := Lib.hid (HQ7.out.old (.cells #[.int .u32 (n0 : Int)] 22)); replace HT := Lib.hid (show Bx w9 gt 25 #[.int .u32 (c2.toNat : Int), .slice A5 a2.length k5, .slice A6 d2.length k6] from (hgr.block gt HTA.out.lt (fun e => by have := (HCB.out gt e.symm).2; omega)).trans HTA.out); replace HQ7 := Lib.hid (show Bx w9 g1 25 #[.int .u32 (x.cum.toNat : Int), .slice Ax x.ab.length kx, .slice Bx0 x.du.length mx] from (hgr.block g1 HQA.out.lt (fun e => by have := (HCB.out g1 e.symm).1; omega)).trans HQA.out); replace HR7 := Lib.hid (And.intro (rowE_grown (HR7.out.1.below HBA.out) HF5.out.1 hgr (fun k hk => (HCB.out k hk).2)) (rowE_grown (HR7.out.2.below HBA.out) HF5.out.2 hgr (fun k hk => (HCB.out k hk).2))); replace HB7 := Lib.hid ((HB7.out.trans (HBA.out.mono HB7.out.size)).grown hgr (by omega) (fun k hk => by have := (HCB.out k hk).1; omega)); have hs9 := hgr.size; rw [← HN0.out, show List.map enc32 S ++ [Value.int .u32 (n.toNat : Int)] = (S ++ [n]).map enc32 from by rw [List.map_append]; rfl, show S.length + 1 = (S ++ [n]).length from by simp] at hown; have HO8 := Lib.hid hown; obtain ⟨A9, k9, hv9, -, -, -⟩ := HO8.out.slice; subst hv9; clear hown hgr)
    | ((with_reducible refine gate9 ?_); refine stB (ty := 25) #[.int .u32 (c2.toNat : Int), .slice A5 a2.length k5, .slice A6 d2.length k6] rfl rfl rfl rfl HQ7.out infoG rfl (cellsG_one _ _ _ _ _ _ _) ?_; intro w11 ht hg; have HG11 : Hid (GAt g1 B0 ⟨c2, a2, d2⟩ w11) := Lib.hid ⟨A5, k5, A6, k6, ht, HR7.out.1.stays HF5.out.1 hg (by omega), HR7.out.2.stays HF5.out.2 hg (by omega), HF5.out.1.less (by omega), HF5.out.2.less (by omega)⟩; have HO11 := Lib.hid (HO8.out.keep (fun k hk => hg.block k (HO8.out.lt k hk).2 (by intro e9; cases e9; have := (HO8.out.lt _ hk).1; omega))); have HB11 := Lib.hid (below_of_grown1 HB7.out hg HB7.out.size (by omega)); have hs11 := hg.size; clear ht hg))
          go_roundw
          case rel => exact ⟨i + 1, by omega, by go_num, Lib.hid ⟨S ++ [n], ⟨c2, a2, d2⟩, HM2.out.1, HM2.out.2, HG11.out, ⟨A9, k9, by simp⟩, (by have h9 := HO11.out; simpa using h9), HB11.out, by omega⟩⟩
          case measure => simp [intOf]; omega
      · obtain rfl : i = L := by omega
        have HRC := Lib.hid (rowE_of_ownG HO.out)
        have HAM := Lib.hid (fun (n : UInt32) W h => among_any S (by omega) (.slice Ac S.length kc) n W h)
        have hkc := HM.out.near
        have HNX := Lib.hid (made_next HM.out)
        obtain ⟨kc0, hkc0⟩ : ∃ q, key b0 x.cum = q := ⟨_, rfl⟩
        have HLE := Lib.hid (fun j (h : j < kc0) => show first + UInt32.ofNat j ∈ S from HM.out.le _ (by rw [HFK.out j (by omega)]; omega) (by rw [HFK.out j (by omega)]; omega))
        have HNE := Lib.hid (fun j (h : j < kc0) => show first + UInt32.ofNat j ≠ x.cum + 1 from fun e => by
          have h1 := HFK.out j (by omega)
          have h2 : key b0 (x.cum + 1) = key b0 x.cum + 1 := key_up (by omega)
          rw [e] at h1
          omega)
        have HEQ : Hid (first + UInt32.ofNat kc0 = x.cum + 1) := Lib.hid (key_inj (f := b0) (by rw [HFK.out kc0 (by omega), key_up (by omega), hkc0]))
        have HHS := Lib.hid (fun A A' k k' (n : UInt32) W h h' => has_any x.cum x.ab x.du (by omega) (by omega) (.slice A x.ab.length k) (.slice A' x.du.length k') W h h' n)
        have HSH2 := Lib.hid (fun n (h : n ∈ S) => show hasB ⟨x.cum, x.ab, x.du⟩ n = true from by
          have h9 := HM.out.has (HM.out.pos n h).1 (HM.out.pos n h).2
          rw [decide_eq_true h] at h9
          exact h9)
        have s6 := HFC.out x.cum
        rw [hkc0] at s6 hcn hkc
        have HCN := Lib.hid hcn
        obtain ⟨Ax, kx, Bx0, mx, u1, u2, u3, -, -⟩ := HX.out
        have HQ := Lib.hid u1
        have HU := Lib.hid (And.intro u2 u3)
        have HA1 := HAM.out (x.cum + 1) wr HRC.out
        rw [decide_eq_false HNX.out] at HA1
        have HA1 := Lib.hid HA1
        have s7 := add1_toNat x.cum
        have d0 := HQ.out.cell 0 (.int .u32 (x.cum.toNat : Int)) rfl
        have HNE2 : Hid (∀ j, j < kc0 → (first + UInt32.ofNat j).toNat ≠ (x.cum + 1).toNat) := Lib.hid (fun j h e => HNE.out j h (UInt32.toNat_inj.1 e))
        have HEQ2 : Hid ((first + UInt32.ofNat kc0).toNat = (x.cum + 1).toNat) := Lib.hid (by rw [HEQ.out])
        have HST0 := Lib.hid (show first + UInt32.ofNat 0 = first from key_inj (f := b0) (by rw [HFK.out 0 (by omega)]; have h9 := HFK.out 0 (by omega); rw [show first + UInt32.ofNat 0 = first from by apply UInt32.toNat_inj.1; simp only [UInt32.toNat_add, UInt32.toNat_ofNat']; omega] at h9; omega))
        clear u1 u2 u3 HX HM hr HNX hkc0 HNE HEQ HFC
        generalize (x.cum + 1).toNat = y1 at *
        go_wp2_with (go_at_call 30; (with_reducible refine HA1.out.mono ?_); rintro e w8 ⟨rfl, rfl⟩)
        go_loopw [12] (fun v wq => ∃ j : Nat, j ≤ kc0 ∧ v = .int .u32 ((first + UInt32.ofNat j).toNat : Int) ∧ Hid (wq = w8))
          (fun v _ => 4294967296 + kc0 - (UInt32.ofNat (intOf v).toNat - first).toNat)
        case atStart => exact ⟨0, Nat.zero_le _, by rw [HST0.out], by first | exact Lib.hid rfl | exact Lib.hid trivial⟩
        case round =>
          obtain ⟨j, hj, rfl, HWQ⟩ := hrel
          have hwq := HWQ.out
          subst hwq
          clear HWQ
          by_cases hlj : j < kc0
          · have HA2 := HAM.out (first + UInt32.ofNat j) _ HRC.out
            rw [decide_eq_true (HLE.out j hlj)] at HA2
            have HA2 := Lib.hid HA2
            have g1' : (((first + UInt32.ofNat j).toNat : Int) != (y1 : Int)) = true := by rw [bne_iff_ne]; intro e; exact HNE2.out j hlj (by omega)
            have g2' : (((first + UInt32.ofNat j).toNat : Int) == (y1 : Int)) = false := by rw [beq_eq_false_iff_ne]; intro e; exact HNE2.out j hlj (by omega)
            have s8 : (((first + UInt32.ofNat j).toNat : Int) + 1) % 4294967296 = ((first + UInt32.ofNat (j + 1)).toNat : Int) := by rw [← plus_succ first (by omega)]; exact add1_toNat _
            have HS8 := Lib.hid s8
            have HME : Hid ((UInt32.ofNat (first + UInt32.ofNat j).toNat - first).toNat = j ∧ (UInt32.ofNat (first + UInt32.ofNat (j + 1)).toNat - first).toNat = j + 1) := Lib.hid (by
              rw [UInt32.ofNat_toNat, UInt32.ofNat_toNat]
              exact ⟨key_add (by omega), key_add (by omega)⟩)
            generalize (first + UInt32.ofNat j).toNat = z0 at *
            generalize hz1 : (first + UInt32.ofNat (j + 1)).toNat = z1 at *
            have HZ1 := Lib.hid hz1
            clear hz1
            go_wp2_with (go_at_call 30; (with_reducible refine HA2.out.mono ?_); rintro e w9 ⟨rfl, rfl⟩)
            go_roundw
            case rel => exact ⟨j + 1, by omega, by rw [HZ1.out, ← HS8.out], by first | exact Lib.hid rfl | exact Lib.hid trivial⟩
            case measure =>
              have h9 := HME.out
              have h8 := HS8.out
              simp only [intOf, h8, Int.toNat_natCast]
              rw [h9.1, h9.2]
              omega
          · obtain rfl : j = kc0 := by omega
            have g1' : (((first + UInt32.ofNat j).toNat : Int) != (y1 : Int)) = false := by rw [HEQ2.out]; simp
            have g2' : (((first + UInt32.ofNat j).toNat : Int) == (y1 : Int)) = true := by rw [HEQ2.out]; simp
            generalize (first + UInt32.ofNat j).toNat = z0 at *
            clear HLE HNE2 HEQ2 HA1 HAM HST0 HFK HKEY
            go_wp2_with fail
            obtain ⟨w8, hw8⟩ : ∃ z, z = wr := ⟨_, rfl⟩
            subst hw8
            clear g1' g2' s7
            go_loopw [13] (fun v wq => ∃ q : Nat, q ≤ S.length ∧ v = .int .i64 q ∧ Hid (Below w8.heap.size w8 wq))
              (fun v _ => S.length - (intOf v).toNat)
            case atStart => exact ⟨0, Nat.zero_le _, rfl, Lib.hid (by first | exact Below.refl _ _)⟩
            case round =>
              obtain ⟨q, hq, rfl, HWQ⟩ := hrel
              by_cases hlq : q < S.length
              · obtain ⟨A9, k9, hv9, -, -, hc9⟩ := id HRC.out
                cases hv9
                obtain ⟨b9, o9, rfl, hb9, hcc9⟩ := hc9 (by omega)
                have HCE : Hid (∀ V, Below w8.heap.size w8 V → V.cell? ⟨b9, o9 + q, none⟩ = some (.int .u32 (S[q]!.toNat : Int))) := Lib.hid fun V hV => (hV.cell (p := ⟨b9, o9 + q, none⟩) hb9).trans (hcc9 q hlq)
                have hmS : S[q]! ∈ S := by rw [getElem!_pos S q hlq]; exact List.getElem_mem hlq
                have HHQ := Lib.hid (fun A A' k k' W h h' => HHS.out A A' k k' S[q]! W h h')
                rw [HSH2.out _ hmS] at HHQ
                have p0 : (0 : Int) ≤ (q : Int) := by omega
                have p1 : (q : Int) < (S.length : Int) := by omega
                clear hc9 hcc9 hmS
                generalize S[q]!.toNat = ce at *
                have HS : (fun V => Bx V g1 25 #[.int .u32 (x.cum.toNat : Int), .slice Ax x.ab.length kx, .slice Bx0 x.du.length mx] ∧ RowE enc32 V (.slice Ax x.ab.length kx) x.ab ∧ RowE enc32 V (.slice Bx0 x.du.length mx) x.du ∧ Below w8.heap.size w8 V) _ := ⟨(HQ.out.later HWQ.out).drew, HU.out.1.below (below_drawn HWQ.out), HU.out.2.below (below_drawn HWQ.out), below_drawn HWQ.out⟩
                clear HWQ
                go_wp2_with fail
                refine wp_region_noPanic ?_
                refine wp_region_waits (S := (fun V => Bx V g1 25 #[.int .u32 (x.cum.toNat : Int), .slice Ax x.ab.length kx, .slice Bx0 x.du.length mx] ∧ RowE enc32 V (.slice Ax x.ab.length kx) x.ab ∧ RowE enc32 V (.slice Bx0 x.du.length mx) x.du ∧ Below w8.heap.size w8 V)) [] (by kernel_rfl) HS (fun hHeld => ?_)
                clear HS
                refine wpAnyW_take (i := 0) (v := _) (by simp only [List.getElem?_toArray, List.getElem?_cons_zero]; rfl) (by kernel_rfl) (by kernel_rfl) (by kernel_rfl) (by kernel_rfl) (by kernel_rfl) (fun _ _ _ h => h) (yB (ty := 25) (by rfl) rfl rfl (fun V h => h.1) Try.underlying25 rfl infoG) (by assumption) ?_
                try simp only [Act.put, List.setIfInBounds_toArray, List.set_cons_zero, List.set_cons_succ]
                refine wpAnyW_take (i := 1) (v := ?_) (by simp only [List.getElem?_toArray, List.getElem?_cons_succ, List.getElem?_cons_zero]; rfl) (by kernel_rfl) (by kernel_rfl) (by kernel_rfl) (by kernel_rfl) (by kernel_rfl) (fun _ _ _ h => h) (Or.inl ⟨by rfl, ?_⟩) (by assumption) ?_
                rotate_left 1
                · (intro w' hSw; go_simp; try with_reducible rfl)
                try simp only [Act.put, List.setIfInBounds_toArray, List.set_cons_zero, List.set_cons_succ]
                refine wpAnyW_take (i := 2) (v := ?_) (by simp only [List.getElem?_toArray, List.getElem?_cons_succ, List.getElem?_cons_zero]; rfl) (by kernel_rfl) (by kernel_rfl) (by kernel_rfl) (by kernel_rfl) (by kernel_rfl) (fun _ _ _ h => h) (Or.inl ⟨by rfl, ?_⟩) (by assumption) ?_
                rotate_left 1
                · (intro w' hSw; go_simp; try with_reducible rfl)
                try simp only [Act.put, List.setIfInBounds_toArray, List.set_cons_zero, List.set_cons_succ]
                refine wpAnyW_take (i := 3) (v := ?_) (by simp only [List.getElem?_toArray, List.getElem?_cons_succ, List.getElem?_cons_zero]; rfl) (by kernel_rfl) (by kernel_rfl) (by kernel_rfl) (by kernel_rfl) (by kernel_rfl) (fun _ _ _ h => h) (Or.inl ⟨by rfl, ?_⟩) (by assumption) ?_
                rotate_left 1
                · (intro w' hSw; go_simp; try with_reducible rfl)
                try simp only [Act.put, List.setIfInBounds_toArray, List.set_cons_zero, List.set_cons_succ]
                refine wpAnyW_take (i := 4) (v := ?_) (by simp only [List.getElem?_toArray, List.getElem?_cons_succ, List.getElem?_cons_zero]; rfl) (by kernel_rfl) (by kernel_rfl) (by kernel_rfl) (by kernel_rfl) (by kernel_rfl) (fun _ _ _ h => h) (Or.inl ⟨by rfl, ?_⟩) (by assumption) ?_
                rotate_left 1
                · (intro w' hSw; have hq : w'.cell? ⟨b9, o9 + q, none⟩ = some (.int .u32 (ce : Int)) := HCE.out _ hSw.2.2.2; go_simp; try with_reducible rfl)
                try simp only [Act.put, List.setIfInBounds_toArray, List.set_cons_zero, List.set_cons_succ]
                refine wpAnyW_held (i := 5) (by kernel_rfl) (by simp only [List.getElem?_toArray, List.getElem?_cons_succ, List.getElem?_cons_zero]; rfl) (fun K hK => ?_)
                rw [if_pos (by rfl)]
                go_simp
                refine (HHQ.out _ _ _ _ _ hHeld.2.1 hHeld.2.2.1).mono ?_
                rintro _ w10 ⟨rfl, hb⟩
                have HS := And.intro (hHeld.1.later hb) (And.intro (hHeld.2.1.below hb) (And.intro (hHeld.2.2.1.below hb) (hHeld.2.2.2.trans (hb.mono hHeld.2.2.2.size))))
                clear hHeld hb
                go_wp2_with fail
                refine hK.out _ _ HS (fun hHeld => ?_)
                clear hK K HS
                try simp only [Act.put, List.setIfInBounds_toArray, List.set_cons_zero, List.set_cons_succ]
                refine wpAnyW_take (i := 6) (v := ?_) (by simp only [List.getElem?_toArray, List.getElem?_cons_succ, List.getElem?_cons_zero]; rfl) (by kernel_rfl) (by kernel_rfl) (by kernel_rfl) (by kernel_rfl) (by kernel_rfl) (fun _ _ _ h => h) (Or.inl ⟨by rfl, ?_⟩) (by assumption) ?_
                rotate_left 1
                · (intro w' hSw; go_simp; try with_reducible rfl)
                try simp only [Act.put, List.setIfInBounds_toArray, List.set_cons_zero, List.set_cons_succ]
                have hWQ := Lib.hid hHeld.2.2.2
                clear hHeld
                refine wpAnyW_done (by kernel_rfl) ?_ _
                refine NoPanic.normal ?_
                go_wp2_with fail
                go_roundw
                case rel => first | exact ⟨q + 1, by omega, by go_num, Lib.hid hWQ.out⟩ | ((repeat apply Exists.intro); exact ⟨⟨q + 1, by omega, by go_num, Lib.hid hWQ.out⟩, rfl⟩)
                case measure => simp [intOf]; omega
              · obtain rfl : q = S.length := by omega
                have c0 := (HQ.out.later HWQ.out).cell 0 (.int .u32 (x.cum.toNat : Int)) rfl
                have c1 := (HQ.out.later HWQ.out).cell 1 (.slice Ax x.ab.length kx) rfl
                have e9 : ((S.length : Int) == (j : Int) + (x.ab.length : Int)) = true := by rw [beq_iff_eq]; omega
                have hj9 : (j : Int) ≤ 200 := by omega
                have ha9 : (x.ab.length : Int) ≤ 200 := by omega
                clear hcn HCN hkc
                generalize x.cum.toNat = xc at *
                go_wp2_with fail
                go_ret
                exact ⟨rfl, HB.out.trans (HWQ.out.mono HB.out.size)⟩
  · have q60 : (60 : Int) < (L : Int) := by omega
    go_enter Try.func5, Try.ntmps5
    go_wp2_with (go_at_call 10; (with_reducible refine (HSH.out _).mono ?_); rintro e w1 ⟨rfl, hb⟩; replace HB := Lib.hid hb; clear hb)
    go_ret
    exact ⟨rfl, HB.out⟩

set_option maxRecDepth 100000 in
theorem lifted (os : Os) (started : os.Started) (H : Type) (enc : TypeId × Value → H) :
    ReturnsInHanded {} Try.checked os 5 .any (Rows.gotPlaysSpec.pre6 enc Try.prog Try.f5 Rows.gotPlaysRow.domain false) (Rows.gotPlaysSpec.post enc Try.prog Try.f5 false true false false) := by
  refine returnsInHanded_of_change_sized (C := Try.checked) own started (by kernel_rfl) Try.func5
    (ChangeSpec.witness6 (enc := enc) (C := Try.checked) false ⟨#[], #[.int .u32 0, .slice none 0 0], []⟩ 8 (by kernel_rfl) (by kernel_rfl) (by kernel_rfl) (by kernel_rfl)) ?_
  intro W base args ds gs before hval0 hW _ hreach _
  have hval : ∀ (j : Nat) t v, Try.f5.params[j]? = some t → args[j]? = some v → Value.okWide Try.prog W .any base t v := hval0
  obtain ⟨p, q, hA0, _, _, _, _⟩ := id hW
  have hA : DataW.TrodAll enc Try.prog W 0 (fun _ => true) true Try.f5.params.toList args.toList ds p := hA0
  rw [Try.params5] at hA hval
  obtain ⟨v0, vs0, d0, ds0, p0, q0, hargs, rfl, rfl, h0, r0⟩ := trodAll_cons hA
  obtain ⟨v1, vs1, d1, ds1, p1, q1, rfl, rfl, rfl, h1, r1⟩ := trodAll_cons r0
  obtain ⟨rfl, rfl, rfl⟩ := trodAll_nil r1
  obtain rfl : args = #[v0, v1] := by cases args; simp_all
  obtain ⟨a0, rfl, rfl, rfl, w0⟩ := open_int Try.underlying22 (hval 0 22 v0 rfl rfl) h0
  obtain ⟨n0, _, rfl⟩ := u32_of a0 w0
  obtain ⟨l1, ra1⟩ := open_row (t := 23) Try.underlying23 Try.underlying22 (by kernel_rfl) (hval 1 23 v1 rfl rfl) h1
  refine (walk n0 l1 v1 W ra1).mono fun e W' ⟨he, hg⟩ => ?_
  subst he
  exact ⟨_, rfl, law_post laidOut Try.underlying4 (by kernel_rfl) (by kernel_rfl) rfl hW (by simp [Rows.gotPlaysSpec]) hg⟩

theorem proved : Rows.GotPlaysSaid :=
  OpenClaim.holds_of_wide 5 Try.f5 rfl rfl rfl rfl rfl rfl rfl ⟨rfl, rfl, rfl, rfl, rfl⟩ rfl rfl rfl rfl rfl (by kernel_rfl) Try.func5 (by kernel_rfl)
    (of_decide_eq_true (by kernel_rfl)) (by unfold Func.isWrapper; first | (rw [if_pos (by decide +kernel)]; kernel_rfl) | (rw [if_neg (by decide +kernel)]; exact ⟨rfl, rfl⟩))
    (fun os started H enc _ => lifted os started H enc)
#print axioms proved
end Go.Proofs.Ytfmgfpfaigifaaa.gotPlays
