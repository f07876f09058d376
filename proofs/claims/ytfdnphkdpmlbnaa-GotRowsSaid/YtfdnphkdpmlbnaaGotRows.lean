/-
  All numbers from the first on leave nothing above; behind a gap they make one run: any first number, any count, any gap.
-/
import Derived.Test.YtfdnphkdpmlbnaaLift
import Derived.Test.YtfdnphkdpmlbnaaArgs
import Derived.Test.YtfdnphkdpmlbnaaGl
import Derived.Test.YtfdnphkdpmlbnaaGy
import Derived.Test.YtfdnphkdpmlbnaaGv
import Derived.Test.YtfdnphkdpmlbnaaGw
namespace Go.Proofs.Ytfdnphkdpmlbnaa.gotRows
open Go.ChangeShapes Go.WideShapes Go.ChangeAt Go.RowKit
set_option linter.unusedVariables false
set_option linter.unusedSimpArgs false

set_option maxHeartbeats 4000000 in
set_option maxRecDepth 100000 in
theorem walk (first : UInt32) (m gp : Int) (w : World) : Calls Try.prog 8 #[.int .u32 (first.toNat : Int), .int .i64 m, .int .i64 gp] w fun e w' => e = .returned (.bool true) ∧ Below w.heap.size w w' := by
  have HSH := Lib.hid (fun W => shown_any W)
  have HB := Lib.hid (Below.refl w.heap.size w)
  by_cases hm0 : m < 0
  · skip
    go_enter Try.func8, Try.ntmps8
    go_wp2_with (go_at_call 10; (with_reducible refine (HSH.out _).mono ?_); rintro e w1 ⟨rfl, hb⟩; replace HB := Lib.hid hb; clear hb)
    go_ret
    exact ⟨rfl, HB.out⟩
  by_cases hm1 : 100 < m
  · skip
    go_enter Try.func8, Try.ntmps8
    go_wp2_with (go_at_call 10; (with_reducible refine (HSH.out _).mono ?_); rintro e w1 ⟨rfl, hb⟩; replace HB := Lib.hid hb; clear hb)
    go_ret
    exact ⟨rfl, HB.out⟩
  by_cases hg0 : gp < 1
  · skip
    go_enter Try.func8, Try.ntmps8
    go_wp2_with (go_at_call 10; (with_reducible refine (HSH.out _).mono ?_); rintro e w1 ⟨rfl, hb⟩; replace HB := Lib.hid hb; clear hb)
    go_ret
    exact ⟨rfl, HB.out⟩
  by_cases hg1 : 100 < gp
  · skip
    go_enter Try.func8, Try.ntmps8
    go_wp2_with (go_at_call 10; (with_reducible refine (HSH.out _).mono ?_); rintro e w1 ⟨rfl, hb⟩; replace HB := Lib.hid hb; clear hb)
    go_ret
    exact ⟨rfl, HB.out⟩
  obtain ⟨M, rfl⟩ : ∃ M : Nat, m = (M : Int) := ⟨m.toNat, by omega⟩
  obtain ⟨gap, rfl⟩ : ∃ M : Nat, gp = (M : Int) := ⟨gp.toNat, by omega⟩
  have hM : M ≤ 100 := by omega
  have hgp1 : 1 ≤ gap := by omega
  have hgp2 : gap ≤ 100 := by omega
  have HNW := Lib.hid (fun W => new_law first W)
  have HN1 := Lib.hid (fun (i : Nat) (h : i < 900) => nat_first first h)
  have HN2 := Lib.hid (fun (i : Nat) (h : i < 900) => nat_last first h)
  have s9 := nat_less first
  have hf0 := first.toNat_lt
  generalize first - 1 = c at *
  generalize first.toNat = f0 at *
  go_enter Try.func8, Try.ntmps8
  go_wp2_with (go_at_call 10; (with_reducible refine (HSH.out _).mono ?_); rintro e w1 ⟨rfl, hb⟩; replace HB := Lib.hid hb; clear hb)
  refine (HNW.out _).mono ?_
  rintro e w2 ⟨rfl, hb2⟩
  replace HB := Lib.hid (HB.out.trans (hb2.mono HB.out.size))
  clear hb2
  have hwg0 := HB.out.size
  obtain ⟨W3, hW3, HQ, HB3, hs3⟩ := one_open w2 25 #[.int .u32 0, .slice none 0 0, .slice none 0 0]
  obtain ⟨g1, hg1⟩ : ∃ g, w2.heap.size = g := ⟨_, rfl⟩
  rw [hg1] at HQ
  go_wp2_with ((with_reducible refine gate9 ?_); refine stB (ty := 25) #[.int .u32 (c.toNat : Int), .slice none 0 0, .slice none 0 0] rfl rfl rfl rfl HQ.out infoG rfl (cellsG_one _ _ _ _ _ _ _) ?_; intro w4 ht hg; replace HB3 := Lib.hid (below_of_grown1 HB3.out hg HB3.out.size (Nat.le_of_eq hg1)); replace HQ := Lib.hid ht; replace HB := Lib.hid (HB.out.trans (HB3.out.mono HB.out.size)); clear ht hg HB3)
  clear hW3 hs3
  refine (HNW.out _).mono ?_
  rintro e w5 ⟨rfl, hb5⟩
  have hg12 : g1 < w5.heap.size := Nat.lt_of_lt_of_le HQ.out.lt hb5.size
  replace HQ := Lib.hid (HQ.out.later hb5)
  replace HB := Lib.hid (HB.out.trans (hb5.mono HB.out.size))
  clear hb5 HNW
  have hwg : w.heap.size ≤ g1 := by omega
  obtain ⟨W6, hW6, HQ2, HB6, hs6⟩ := one_open w5 25 #[.int .u32 0, .slice none 0 0, .slice none 0 0]
  obtain ⟨g2, hg2⟩ : ∃ g, w5.heap.size = g := ⟨_, rfl⟩
  rw [hg2] at HQ2 hg12
  go_wp2_with ((with_reducible refine gate9 ?_); refine stB (ty := 25) #[.int .u32 (c.toNat : Int), .slice none 0 0, .slice none 0 0] rfl rfl rfl rfl HQ2.out infoG rfl (cellsG_one _ _ _ _ _ _ _) ?_; intro w7 ht hg; replace HB6 := Lib.hid (below_of_grown1 HB6.out hg HB6.out.size (Nat.le_of_eq hg2)); replace HQ2 := Lib.hid ht; replace HQ := Lib.hid (HQ.out.later HB6.out); replace HB := Lib.hid (HB.out.trans (HB6.out.mono HB.out.size)); clear ht hg HB6)
  clear hW6 hs6
  have hsz2 := HQ2.out.lt
  obtain ⟨B0, hB0e⟩ : ∃ B, w7.heap.size = B := ⟨_, rfl⟩
  have hg2B : g2 < B0 := by omega
  have HST : Hid (GoS w g1 g2 B0 c gap 0 w7) := Lib.hid ⟨by
    rw [show c + UInt32.ofNat 0 = c from UInt32.add_zero c]
    exact ⟨none, 0, none, 0, HQ.out, RowE.nil _ _, RowE.nil _ _, freshE_nil _, freshE_nil _⟩, ⟨none, 0, none, 0, HQ2.out, RowE.nil _ _, RowE.nil _ _, freshE_nil _, freshE_nil _⟩, HB.out, by omega⟩
  clear HQ HQ2 HB hsz2
  go_wp2_with fail
  go_loopw [10] (fun i wr => ∃ j : Nat, j ≤ M ∧ i = .int .i64 j ∧ Hid (GoS w g1 g2 B0 c gap j wr))
    (fun i _ => M - (intOf i).toNat)
  case atStart => exact ⟨0, Nat.zero_le _, rfl, HST⟩
  case round =>
    clear HST
    obtain ⟨i, hi, rfl, HRR⟩ := hrel
    obtain ⟨hgx, hgy, hbw, hB0⟩ := HRR.out
    have HB := Lib.hid hbw
    by_cases hlt : i < M
    · obtain ⟨x, hx⟩ : ∃ x : Gt, x = ⟨c + UInt32.ofNat i, [], []⟩ := ⟨_, rfl⟩
      obtain ⟨y, hy⟩ : ∃ x : Gt, x = ⟨c, rowH c gap i, []⟩ := ⟨_, rfl⟩
      obtain ⟨x2, hx2⟩ : ∃ x : Gt, x = ⟨c + UInt32.ofNat (i + 1), [], []⟩ := ⟨_, rfl⟩
      obtain ⟨y2, hy2⟩ : ∃ x : Gt, x = ⟨c, rowH c gap (i + 1), []⟩ := ⟨_, rfl⟩
      obtain ⟨n1, hn1⟩ : ∃ n, n = c + UInt32.ofNat (i + 1) := ⟨_, rfl⟩
      obtain ⟨n2, hn2⟩ : ∃ n, n = c + UInt32.ofNat (gap + 1 + i) := ⟨_, rfl⟩
      obtain ⟨z, hz⟩ : ∃ z : Nat, z = i + gap := ⟨_, rfl⟩
      have hT1 : takeG x n1 = (x2, true) := by rw [hx, hn1, hx2]; exact row_next2 c (by omega)
      have hT2 : takeG y n2 = (y2, true) := by rw [hy, hn2, hy2]; exact row_far c hgp1 (by omega)
      have HTg := Lib.hid (fun A A' k k' W h1 h2 => take_law x n1 (by rw [hx]; exact none_right _) (by rw [hx]; exact Nat.zero_le _) (by rw [hx]; exact Nat.zero_le _) A A' k k' W h1 h2)
      have HTh := Lib.hid (fun A A' k k' W h1 h2 => take_law y n2 (by rw [hy]; exact rowH_right c hgp1 (by omega)) (by rw [hy]; show (rowH c gap i).length ≤ _; rw [rowH_len]; omega) (by rw [hy]; exact Nat.zero_le _) A A' k k' W h1 h2)
      rw [hT1] at HTg
      rw [hT2] at HTh
      dsimp only at HTg HTh
      rw [← hx] at hgx
      rw [← hy] at hgy
      have s5 : ((f0 : Int) + (i : Int)) % 4294967296 = (n1.toNat : Int) := by rw [hn1]; exact HN1.out i (by omega)
      have s6 : ((f0 : Int) + (z : Int)) % 4294967296 = (n2.toNat : Int) := by rw [hn2, show gap + 1 + i = z + 1 by omega]; exact HN1.out z (by omega)
      have s7 : IntKind.i64.wrap ((i : Int) + (gap : Int)) = (z : Int) := by rw [IntKind.wrap_i64]; omega
      have s7' : ((i : Int) + (gap : Int)) = (z : Int) := by omega
      have c5 : (i : Int) % 4294967296 = (i : Int) := by omega
      have c6 : (z : Int) % 4294967296 = (z : Int) := by omega
      have p0 : (0 : Int) ≤ (i : Int) := by omega
      have p1 : (i : Int) < (M : Int) := by omega
      have HX2 := Lib.hid (And.intro hx2 hy2)
      clear hx hy hx2 hy2 hn1 hn2 hz hT1 hT2 HN1 HN2 HRR
      obtain ⟨Ag, kg, Bg, mg, u1, u2, u3, -, -⟩ := hgx
      obtain ⟨Ah, kh, Bh, mh, v1, v2, v3, -, -⟩ := hgy
      have HQ1 := Lib.hid u1
      have HU1 := Lib.hid (And.intro u2 u3)
      have HQ2 := Lib.hid v1
      have HU2 := Lib.hid (And.intro v2 v3)
      clear u1 u2 u3 v1 v2 v3 hbw
      generalize n1.toNat = n1 at *
      generalize n2.toNat = n2 at *
      go_wp2_with (first
    | ((with_reducible refine gate9 ?_); refine ldB (ty := 25) rfl rfl rfl HQ1.out Try.underlying25 rfl infoG ?_))
      refine (HTg.out _ _ _ _ _ HU1.out.1 HU1.out.2).mono ?_
      rintro e w5 ⟨A5, k5, A6, k6, rfl, HX⟩
      obtain ⟨r1, r2, f1, f2, hb⟩ := HX.out
      have HR1 := Lib.hid (And.intro r1 r2)
      have HF1 := Lib.hid (And.intro (f1.less hB0) (f2.less hB0))
      have hs5 := hb.size
      replace HQ1 := Lib.hid (HQ1.out.later hb)
      replace HQ2 := Lib.hid (HQ2.out.later hb)
      replace HU2 := Lib.hid (And.intro (HU2.out.1.below hb) (HU2.out.2.below hb))
      replace HB := Lib.hid (HB.out.trans (hb.mono HB.out.size))
      clear r1 r2 f1 f2 hb HX HU1 HTg
      obtain ⟨W6, hW6, HT1, HB6, hs6⟩ := one_open w5 25 #[.int .u32 0, .slice none 0 0, .slice none 0 0]
      obtain ⟨gt1, hgt1⟩ : ∃ g, w5.heap.size = g := ⟨_, rfl⟩
      rw [hgt1] at HT1
      go_wp2_with (first
    | ((with_reducible refine gate9 ?_); refine stB (ty := 25) #[.int .u32 (x2.cum.toNat : Int), .slice A5 x2.ab.length k5, .slice A6 x2.du.length k6] rfl rfl rfl rfl HT1.out infoG rfl (cellsG_one _ _ _ _ _ _ _) ?_; intro w7 ht hg; replace HB6 := Lib.hid (below_of_grown1 HB6.out hg HB6.out.size (Nat.le_of_eq hgt1)); replace HT1 := Lib.hid ht; replace HQ1 := Lib.hid (HQ1.out.later HB6.out); replace HQ2 := Lib.hid (HQ2.out.later HB6.out); replace HR1 := Lib.hid (And.intro (HR1.out.1.below HB6.out) (HR1.out.2.below HB6.out)); replace HU2 := Lib.hid (And.intro (HU2.out.1.below HB6.out) (HU2.out.2.below HB6.out)); replace HB := Lib.hid (HB.out.trans (HB6.out.mono HB.out.size)); have hs7 := HB6.out.size; clear ht hg HB6)
    | ((with_reducible refine gate9 ?_); refine ldB (ty := 25) rfl rfl rfl HQ2.out Try.underlying25 rfl infoG ?_))
      clear hW6 hs6
      refine (HTh.out _ _ _ _ _ HU2.out.1 HU2.out.2).mono ?_
      rintro e w8 ⟨A7, k7, A8, k8, rfl, HX⟩
      obtain ⟨r1, r2, f1, f2, hb⟩ := HX.out
      have HR2 := Lib.hid (And.intro r1 r2)
      have HF2 := Lib.hid (And.intro (f1.less (show B0 ≤ _ by omega)) (f2.less (show B0 ≤ _ by omega)))
      have hs8 := hb.size
      replace HT1 := Lib.hid (HT1.out.later hb)
      replace HQ1 := Lib.hid (HQ1.out.later hb)
      replace HQ2 := Lib.hid (HQ2.out.later hb)
      replace HR1 := Lib.hid (And.intro (HR1.out.1.below hb) (HR1.out.2.below hb))
      replace HB := Lib.hid (HB.out.trans (hb.mono HB.out.size))
      clear r1 r2 f1 f2 hb HX HU2 HTh
      obtain ⟨W9, hW9, HT2, HB9, hs9⟩ := one_open w8 25 #[.int .u32 0, .slice none 0 0, .slice none 0 0]
      obtain ⟨gt2, hgt2⟩ : ∃ g, w8.heap.size = g := ⟨_, rfl⟩
      rw [hgt2] at HT2
      go_wp2_with (first
    | ((with_reducible refine gate9 ?_); refine stB (ty := 25) #[.int .u32 (y2.cum.toNat : Int), .slice A7 y2.ab.length k7, .slice A8 y2.du.length k8] rfl rfl rfl rfl HT2.out infoG rfl (cellsG_one _ _ _ _ _ _ _) ?_; intro w10 ht hg; replace HB9 := Lib.hid (below_of_grown1 HB9.out hg HB9.out.size (Nat.le_of_eq hgt2)); replace HT2 := Lib.hid ht; replace HT1 := Lib.hid (HT1.out.later HB9.out); replace HQ1 := Lib.hid (HQ1.out.later HB9.out); replace HQ2 := Lib.hid (HQ2.out.later HB9.out); replace HR1 := Lib.hid (And.intro (HR1.out.1.below HB9.out) (HR1.out.2.below HB9.out)); replace HR2 := Lib.hid (And.intro (HR2.out.1.below HB9.out) (HR2.out.2.below HB9.out)); replace HB := Lib.hid (HB.out.trans (HB9.out.mono HB.out.size)); have hs10 := HB9.out.size; clear ht hg HB9)
    | ((with_reducible refine gate9 ?_); refine ldB (ty := 25) rfl rfl rfl HT1.out Try.underlying25 rfl infoG ?_)
    | ((with_reducible refine gate9 ?_); refine stB (ty := 25) #[.int .u32 (x2.cum.toNat : Int), .slice A5 x2.ab.length k5, .slice A6 x2.du.length k6] rfl rfl rfl rfl HQ1.out infoG rfl (cellsG_one _ _ _ _ _ _ _) ?_; intro w11 ht hg; replace HT2 := Lib.hid (HT2.out.kept hg (by omega)); replace HQ2 := Lib.hid (HQ2.out.kept hg (by omega)); have HG1 : Hid (GAt g1 B0 x2 w11) := Lib.hid ⟨A5, k5, A6, k6, ht, HR1.out.1.stays HF1.out.1 hg (by omega), HR1.out.2.stays HF1.out.2 hg (by omega), HF1.out.1, HF1.out.2⟩; replace HR2 := Lib.hid (And.intro (HR2.out.1.stays HF2.out.1 hg (by omega)) (HR2.out.2.stays HF2.out.2 hg (by omega))); have hs11 := hg.size; replace HB := Lib.hid (below_of_grown1 HB.out hg HB.out.size (by omega)); clear ht hg HQ1)
    | ((with_reducible refine gate9 ?_); refine ldB (ty := 25) rfl rfl rfl HT2.out Try.underlying25 rfl infoG ?_)
    | ((with_reducible refine gate9 ?_); refine stB (ty := 25) #[.int .u32 (y2.cum.toNat : Int), .slice A7 y2.ab.length k7, .slice A8 y2.du.length k8] rfl rfl rfl rfl HQ2.out infoG rfl (cellsG_one _ _ _ _ _ _ _) ?_; intro w12 ht hg; replace HG1 := Lib.hid (HG1.out.kept hg (by omega) (by omega)); have HG2 : Hid (GAt g2 B0 y2 w12) := Lib.hid ⟨A7, k7, A8, k8, ht, HR2.out.1.stays HF2.out.1 hg (by omega), HR2.out.2.stays HF2.out.2 hg (by omega), HF2.out.1, HF2.out.2⟩; have hs12 := hg.size; replace HB := Lib.hid (below_of_grown1 HB.out hg HB.out.size (by omega)); clear ht hg HQ2))
      go_roundw
      case rel => exact ⟨i + 1, by omega, by go_num, Lib.hid ⟨HX2.out.1 ▸ HG1.out, HX2.out.2 ▸ HG2.out, HB.out, by omega⟩⟩
      case measure => simp [intOf]; omega
    · obtain rfl : i = M := by omega
      obtain ⟨Ag, kg, Bg, mg, u1, u2, u3, -, -⟩ := hgx
      obtain ⟨Ah, kh, Bh, mh, v1, v2, v3, -, -⟩ := hgy
      have HQ1 := Lib.hid u1
      have HQ2 := Lib.hid v1
      have HU1 := Lib.hid (And.intro u2 u3)
      have HU2 := Lib.hid (And.intro v2 v3)
      clear u1 u2 u3 v1 v2 v3 hbw HRR
      have hl := rowH_len c gap i
      have HGH := Lib.hid (fun va vd W h h' => gaps_any c (rowH c gap i) [] (by omega) (Nat.zero_le _) va vd W h h')
      have HGG := Lib.hid (fun va vd W h h' => gaps_any (c + UInt32.ofNat i) [] [] (Nat.zero_le _) (Nat.zero_le _) va vd W h h')
      have HMS := Lib.hid (fun va vd W h h' => missing_any c (rowH c gap i) [] (by omega) (Nat.zero_le _) va vd W h h' (rowH_right c hgp1 (by omega)))
      have HLS := Lib.hid (fun va vd W h h' => last_any c (rowH c gap i) [] (by omega) (Nat.zero_le _) va vd W h h')
      rw [gaps_none] at HGG
      dsimp only [List.length_nil] at HQ1 HQ2 HU1 HU2 HGG
      rw [hl] at HQ2 HU2 HMS
      have s8 := HN2.out i (by omega)
      have c5 : (i : Int) % 4294967296 = (i : Int) := by omega
      obtain ⟨cx, hcx⟩ : ∃ x, (c + UInt32.ofNat i) = x := ⟨_, rfl⟩
      rw [hcx] at s8 HQ1 HGG
      have HN1' := HN1
      clear hcx hl
      have HK0 : Hid (i = 0 → (gapsG ⟨c, rowH c gap i, []⟩).length = 0) := Lib.hid (fun e => by rw [e]; rfl)
      have HK1 : Hid (0 < i → gapsG ⟨c, rowH c gap i, []⟩ = [(gap + 1, gap + i)] ∧ lastG ⟨c, rowH c gap i, []⟩ = c + UInt32.ofNat (gap + i)) := Lib.hid (fun e => by
        obtain ⟨q, rfl⟩ : ∃ q, i = q + 1 := ⟨i - 1, by omega⟩
        exact ⟨by rw [gaps_rowH c (by omega), show gap + 1 + q = gap + (q + 1) by omega], by rw [last_rowH, show gap + 1 + q = gap + (q + 1) by omega]⟩)
      go_wp2_with (first
    | ((with_reducible refine gate9 ?_); refine ldB (ty := 25) rfl rfl rfl HQ2.out Try.underlying25 rfl infoG ?_))
      refine (HGH.out _ _ _ HU2.out.1 HU2.out.2).mono ?_
      rintro e w6 ⟨vl, rfl, hol, hb⟩
      obtain ⟨Al, kl, rfl, -, -, hal⟩ := hol.slice
      have HOL := Lib.hid hol
      have HAL := Lib.hid hal
      replace HQ1 := Lib.hid (HQ1.out.later hb)
      replace HQ2 := Lib.hid (HQ2.out.later hb)
      replace HU1 := Lib.hid (And.intro (HU1.out.1.below hb) (HU1.out.2.below hb))
      replace HU2 := Lib.hid (And.intro (HU2.out.1.below hb) (HU2.out.2.below hb))
      replace HB := Lib.hid (HB.out.trans (hb.mono HB.out.size))
      have hs6 := hb.size
      clear hol hal hb HGH
      have c0 := HQ1.out.cell 0 (.int .u32 (cx.toNat : Int)) rfl
      have c1 := HQ1.out.cell 1 (.slice Ag 0 kg) rfl
      have c2 := HQ1.out.cell 2 (.slice Bg 0 mg) rfl
      have q0 : ((f0 : Int) + (i : Int) - 1) % 4294967296 = (cx.toNat : Int) := by rw [← s8]; omega
      go_wp2_with (first
    | ((with_reducible refine gate9 ?_); refine ldBw (ty := 25) (by rfl) rfl rfl HQ1.out Try.underlying25 rfl infoG ?_))
      refine (HGG.out _ _ _ HU1.out.1 HU1.out.2).mono ?_
      rintro e w7 ⟨vn, rfl, hon, hb⟩
      obtain ⟨An, kn, rfl, -, -, -⟩ := hon.slice
      replace HQ2 := Lib.hid (HQ2.out.later hb)
      replace HU2 := Lib.hid (And.intro (HU2.out.1.below hb) (HU2.out.2.below hb))
      replace HB := Lib.hid (HB.out.trans (hb.mono HB.out.size))
      replace HOL := Lib.hid (HOL.out.later hb)
      clear hon hb HGG c0 c1 c2 HQ1 HU1
      have d0 := HQ2.out.cell 0 (.int .u32 (c.toNat : Int)) rfl
      have d1 := HQ2.out.cell 1 (.slice Ah i kh) rfl
      have d2 := HQ2.out.cell 2 (.slice Bh 0 mh) rfl
      rcases Nat.eq_zero_or_pos i with h0 | h0
      · have hz := HK0.out h0
        generalize (gapsG ⟨c, rowH c gap i, []⟩).length = gl at *
        subst hz h0
        go_wp2_with fail
        go_ret
        exact ⟨rfl, HB.out⟩
      · obtain ⟨hG, hL⟩ := HK1.out h0
        rw [hG] at HOL HAL ⊢
        rw [hL] at HLS HMS
        have hkey : key c (c + UInt32.ofNat (gap + i)) = gap + i := key_add (by omega)
        rw [hkey] at HMS
        obtain ⟨gl, rfl, -, -⟩ := HAL.out (by simp)
        have e0 := HOL.out.cells 0 (.int .u16 ((gap + 1 : Nat) : Int)) rfl
        have e1 := HOL.out.cells 1 (.int .u16 ((gap + i : Nat) : Int)) rfl
        obtain ⟨p1, hp1⟩ : ∃ p, gap + 1 = p := ⟨_, rfl⟩
        obtain ⟨p2, hp2⟩ : ∃ p, gap + i = p := ⟨_, rfl⟩
        have s10 : IntKind.i64.wrap ((gap : Int) + 1) = (p1 : Int) := by rw [IntKind.wrap_i64]; omega
        have s11 : IntKind.i64.wrap ((gap : Int) + (i : Int)) = (p2 : Int) := by rw [IntKind.wrap_i64]; omega
        have s12 : (gap : Int) + 1 = (p1 : Int) := by omega
        have s13 : (gap : Int) + (i : Int) = (p2 : Int) := by omega
        have s14 := HN2.out p2 (by omega)
        have c6 : (p2 : Int) % 4294967296 = (p2 : Int) := by omega
        rw [hp1] at e0
        rw [hp2] at e1 HLS HMS
        generalize (c + UInt32.ofNat p2).toNat = cl at *
        have q14 : ((f0 : Int) + (p2 : Int) - 1) % 4294967296 = (cl : Int) := by rw [← s14]; omega
        have qi : ((i : Int) == 0) = false := by rw [beq_eq_false_iff_ne]; omega
        clear hG hL hkey
        go_wp2_with (first
    | ((with_reducible refine gate9 ?_); refine ldBw (ty := 25) (by rfl) rfl rfl HQ2.out Try.underlying25 rfl infoG ?_))
        refine (HMS.out _ _ _ HU2.out.1 HU2.out.2).mono ?_
        rintro e w8 ⟨Am, km, rfl, -, hcm, hb⟩
        have hml : (missG ⟨c, rowH c gap i, []⟩).length = gap := by omega
        rw [hml]
        replace HQ2 := Lib.hid (HQ2.out.later hb)
        replace HU2 := Lib.hid (And.intro (HU2.out.1.below hb) (HU2.out.2.below hb))
        replace HB := Lib.hid (HB.out.trans (hb.mono HB.out.size))
        clear hcm hb HMS hml d0 d1 d2 e0 e1
        go_wp2_with (first
    | ((with_reducible refine gate9 ?_); refine ldBw (ty := 25) (by rfl) rfl rfl HQ2.out Try.underlying25 rfl infoG ?_))
        refine (HLS.out _ _ _ HU2.out.1 HU2.out.2).mono ?_
        rintro e w9 ⟨rfl, hb⟩
        replace HB := Lib.hid (HB.out.trans (hb.mono HB.out.size))
        clear hb
        go_wp2_with fail
        go_ret
        exact ⟨rfl, HB.out⟩

set_option maxRecDepth 100000 in
theorem lifted (os : Os) (started : os.Started) (H : Type) (enc : TypeId × Value → H) :
    ReturnsInHanded {} Try.checked os 8 .any (Rows.gotRowsSpec.pre6 enc Try.prog Try.f8 Rows.gotRowsRow.domain false) (Rows.gotRowsSpec.post enc Try.prog Try.f8 false true false false) := by
  refine returnsInHanded_of_change_sized (C := Try.checked) own started (by kernel_rfl) Try.func8
    (ChangeSpec.witness6 (enc := enc) (C := Try.checked) false ⟨#[], #[.int .u32 0, .int .i64 0, .int .i64 0], []⟩ 8 (by kernel_rfl) (by kernel_rfl) (by kernel_rfl) (by kernel_rfl)) ?_
  intro W base args ds gs before hval0 hW _ hreach _
  have hval : ∀ (j : Nat) t v, Try.f8.params[j]? = some t → args[j]? = some v → Value.okWide Try.prog W .any base t v := hval0
  obtain ⟨p, q, hA0, _, _, _, _⟩ := id hW
  have hA : DataW.TrodAll enc Try.prog W 0 (fun _ => true) true Try.f8.params.toList args.toList ds p := hA0
  rw [Try.params8] at hA hval
  obtain ⟨v0, vs0, d0, ds0, p0, q0, hargs, rfl, rfl, h0, r0⟩ := trodAll_cons hA
  obtain ⟨v1, vs1, d1, ds1, p1, q1, rfl, rfl, rfl, h1, r1⟩ := trodAll_cons r0
  obtain ⟨v2, vs2, d2, ds2, p2, q2, rfl, rfl, rfl, h2, r2⟩ := trodAll_cons r1
  obtain ⟨rfl, rfl, rfl⟩ := trodAll_nil r2
  obtain rfl : args = #[v0, v1, v2] := by cases args; simp_all
  obtain ⟨a0, rfl, rfl, rfl, w0⟩ := open_int Try.underlying22 (hval 0 22 v0 rfl rfl) h0
  obtain ⟨n0, _, rfl⟩ := u32_of a0 w0
  obtain ⟨a1, rfl, rfl, rfl, w1⟩ := open_int Try.underlying3 (hval 1 3 v1 rfl rfl) h1
  obtain ⟨a2, rfl, rfl, rfl, w2⟩ := open_int Try.underlying3 (hval 2 3 v2 rfl rfl) h2
  refine (walk n0 a1 a2 W).mono fun e W' ⟨he, hg⟩ => ?_
  subst he
  exact ⟨_, rfl, law_post laidOut Try.underlying4 (by kernel_rfl) (by kernel_rfl) rfl hW (by simp [Rows.gotRowsSpec]) hg⟩

theorem proved : Rows.GotRowsSaid :=
  OpenClaim.holds_of_wide 8 Try.f8 rfl rfl rfl rfl rfl rfl rfl ⟨rfl, rfl, rfl, rfl, rfl⟩ rfl rfl rfl rfl rfl (by kernel_rfl) Try.func8 (by kernel_rfl)
    (of_decide_eq_true (by kernel_rfl)) (by unfold Func.isWrapper; first | (rw [if_pos (by decide +kernel)]; kernel_rfl) | (rw [if_neg (by decide +kernel)]; exact ⟨rfl, rfl⟩))
    (fun os started H enc _ => lifted os started H enc)
#print axioms proved
end Go.Proofs.Ytfdnphkdpmlbnaa.gotRows
