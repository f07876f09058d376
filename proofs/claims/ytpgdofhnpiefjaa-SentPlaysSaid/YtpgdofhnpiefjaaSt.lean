/-
  The chapter's examples: contract.
-/
import Derived.Test.YtpgdofhnpiefjaaSn
import Derived.Test.YtpgdofhnpiefjaaSv
import Derived.Test.YtpgdofhnpiefjaaSs
namespace Go.Proofs.Ytpgdofhnpiefjaa
open Go.RowKit
set_option linter.unusedVariables false
set_option linter.unusedSimpArgs false
set_option maxRecDepth 100000

/-- What is under way lies in block g. -/
def SAt (g : Nat) (c : UInt32) (l : List Pc) (W : World) : Prop := ∃ A k, Bx W g 27 #[.int .u32 (c.toNat : Int), .slice A l.length k] ∧ RowP W (.slice A l.length k) l ∧ Fresh (g + 1) (.slice A l.length k)
section
variable {g : Nat} {c : UInt32} {l : List Pc} {W W' : World}
theorem SAt.lt (h : SAt g c l W) : g < W.heap.size := by obtain ⟨A, k, h, _⟩ := h; exact h.lt
theorem SAt.later (h : SAt g c l W) (hb : Below W.heap.size W W') : SAt g c l W' := by
  obtain ⟨A, k, h1, h2, h3⟩ := h
  exact ⟨A, k, h1.later hb, h2.below hb, h3⟩
theorem SAt.drew (h : SAt g c l W) : SAt g c l W.drew := h
theorem SAt.put {A : Option Addr} {n k : Nat} (hn : n = l.length) (ht : Bx W' g 27 #[.int .u32 (c.toNat : Int), .slice A n k]) (hg : W.grownBy W' (some g)) (hr : RowP W (.slice A n k) l) (hf : Fresh (g + 1) (.slice A n k)) : SAt g c l W' := by
  subst hn
  exact ⟨A, k, ht, hr.stays hf hg (by omega), hf⟩
end
def pl : Nat → List Pc
  | 0 => []
  | k + 1 => pl k ++ [newPc (nextL 9 (pl k)) 100 0 0]
theorem pl_len : ∀ k, (pl k).length = k
  | 0 => rfl
  | k + 1 => by show (pl k ++ _).length = _; simp [pl_len k]
theorem pl_ok : ∀ k, k ≤ 4 → OkL 9 (pl k)
  | 0, _ => okL_nil 9
  | k + 1, h => okL_put (pl_ok k (by omega)) (by rw [pl_len]; omega) (by decide) (by decide)
def gp : List (Nat × Nat) := [(2, 3)]
def pm : List Pc := ackL2 50 (pl 4) gp 1
theorem sh1 : dist 9 10 = 1 := by decide +kernel
theorem sh2 : mayB 9 (pl 4) 10 gp = true := by decide +kernel
theorem sh3 : (ackM 50 (pl 4) gp 1).r.by' = 300 := by decide +kernel
theorem sh4 : (ackM 50 (pl 4) gp 1).r.dn = [10] := by decide +kernel
theorem sh5 : underL (-1) pm = 100 := by decide +kernel
theorem sh6 : dist 10 10 = 0 := by decide +kernel
theorem sh7 : mayB 10 pm 10 gp = true := by decide +kernel
theorem sh8 : (ackM 60 pm gp 0).r.fr = false := by decide +kernel
theorem sh9 : pm.length = 3 := by decide +kernel
theorem gp_small : SmallG gp := fun g hg => by
  have : g = (2, 3) := by simpa [gp] using hg
  subst this
  decide
theorem pm_ok : OkL 10 pm := by
  have h := okL_ack (cum := 10) (pl_ok 4 (by decide)) gp 50 (by rw [sh1, pl_len]; decide)
  rw [sh1] at h
  exact h
theorem put_sh (j : Nat) (hj : j < 4) (v : Value) (W : World) (h : RowP W v (pl j)) : Calls Try.prog 7 #[.agg #[.int .u32 9, v], .int .i64 100, .int .i64 0, .int .i64 0] W fun e W' => ∃ A k n, e = .returned (.tuple #[.agg #[.int .u32 9, .slice A (j + 1) k], .int .u32 n, .int .i64 0]) ∧ RowP W' (.slice A (j + 1) k) (pl (j + 1)) ∧ Fresh W.heap.size (.slice A (j + 1) k) ∧ Below W.heap.size W W' := by
  have h9 := put_any 9 (pl j) 100 0 0 (by decide) (by decide) (by rw [pl_len]; omega) v W h
  rw [pl_len] at h9
  exact h9.mono fun e W' ⟨A, k, h1, h2, h3, h4⟩ => ⟨A, k, _, h1, h2, h3, h4⟩
theorem ack_sh1 (v vg : Value) (W : World) (h : RowP W v (pl 4)) (hg : RowGp W vg gp) : Calls Try.prog 9 #[.agg #[.int .u32 9, v], .int .u32 10, vg, .int .i64 50] W fun e W' => ∃ A k b1 o1 k1 A2 k2 A3 k3 o m f n2 n3, e = .returned (.tuple #[.agg #[.int .u32 10, .slice A 3 k], .agg #[.int .i64 300, .int .i64 o, .bool m, .bool f, .slice (some ⟨b1, o1, none⟩) 1 k1, .slice A2 n2 k2, .slice A3 n3 k3], .bool true]) ∧ 1 ≤ k1 ∧ k1 ≤ maxLen ∧ RowP W' (.slice A 3 k) pm ∧ W'.cell? ⟨b1, o1, none⟩ = some (.int .u32 10) ∧ b1 < W'.heap.size ∧ Below W.heap.size W W' := by
  have h9 := ack_yes 9 10 (pl 4) gp 50 (by rw [pl_len]; decide) (by decide) gp_small (pl_ok 4 (by decide)).ok v vg W h hg sh2
  rw [sh1, pl_len, sh3, sh4] at h9
  refine h9.mono fun e W' ⟨A, k, A1, k1, A2, k2, A3, k3, h1, h2, h3, h4, h5, h6⟩ => ?_
  obtain ⟨A', cap', e9, hc1, hc2, hc⟩ := h4
  cases e9
  obtain ⟨b, off, rfl, hlt, hcell⟩ := hc (by decide)
  exact ⟨A, k, b, off, k1, A2, k2, A3, k3, _, _, _, _, _, h1, hc1, hc2, h2, by have := hcell 0 (by decide); simpa [enc32] using this, hlt, h6⟩
theorem ack_sh2 (v vg : Value) (W : World) (h : RowP W v pm) (hg : RowGp W vg gp) : Calls Try.prog 9 #[.agg #[.int .u32 10, v], .int .u32 10, vg, .int .i64 60] W fun e W' => ∃ A k A1 k1 A2 k2 A3 k3 b o m n2 n3, e = .returned (.tuple #[.agg #[.int .u32 10, .slice A 3 k], .agg #[.int .i64 b, .int .i64 o, .bool m, .bool false, .slice A1 0 k1, .slice A2 n2 k2, .slice A3 n3 k3], .bool true]) ∧ Below W.heap.size W W' := by
  have h9 := ack_yes 10 10 pm gp 60 (by rw [sh9]; decide) (by decide) gp_small pm_ok.ok v vg W h hg sh7
  rw [sh6, sh9, sh8] at h9
  exact h9.mono fun e W' ⟨A, k, A1, k1, A2, k2, A3, k3, h1, h2, h3, h4, h5, h6⟩ => ⟨A, k, A1, k1, A2, k2, A3, k3, _, _, _, _, _, h1, h6⟩
theorem under_sh (v : Value) (W : World) (h : RowP W v pm) : Calls Try.prog 8 #[.agg #[.int .u32 10, v], .int .i64 (-1)] W fun e W' => e = .returned (.int .i64 100) ∧ Below W.heap.size W W' := by
  have h9 := under_any 10 pm (-1) (by rw [sh9]; decide) pm_ok.ok v W h
  rw [sh5] at h9
  exact h9
theorem new_sh (W : World) : Calls Try.prog 5 #[.int .u32 10] W fun e W' => e = .returned (.agg #[.int .u32 9, .slice none 0 0]) ∧ Below W.heap.size W W' := new_any 10 W
set_option maxHeartbeats 2000000 in
theorem shown_any (w : World) : Calls Try.prog 4 #[] w fun e w' => e = .returned (.bool true) ∧ Below w.heap.size w w' := by
  have HPU := Lib.hid put_sh
  have HA1 := Lib.hid ack_sh1
  have HA2 := Lib.hid ack_sh2
  have HUN := Lib.hid under_sh
  have HNW := Lib.hid new_sh
  have HPL := Lib.hid pl_len
  go_enter Try.func4, Try.ntmps4
  go_wp2_with fail
  refine (HNW.out _).mono ?_
  rintro e w1 ⟨rfl, hb⟩
  have HB := Lib.hid hb
  have hs1 := hb.size
  clear hb
  obtain ⟨W2, hW2, HX, HB2, hs2⟩ := one_open w1 27 #[.int .u32 0, .slice none 0 0]
  obtain ⟨g1, hg1⟩ : ∃ g, w1.heap.size = g := ⟨_, rfl⟩
  rw [hg1] at HX hs2
  go_wp2_with ((with_reducible refine gate9 ?_); refine stB (ty := 27) #[.int .u32 9, .slice none 0 0] rfl rfl rfl rfl HX.out infoS rfl (cellsS_one _ _ _ _) ?_; intro w3 ht hg; replace HB := Lib.hid (below_of_grown1 (HB.out.trans (HB2.out.mono HB.out.size)) hg (by omega) (by omega)); replace HX := Lib.hid ht; clear ht hg)
  clear hW2 hs2 HB2
  have hgw3 := HX.out.lt
  have HS0 : Hid (SAt g1 9 (pl 0) w3) := Lib.hid ⟨none, 0, HX.out, RowP.nil _, fresh_none _ _ _⟩
  go_loopw [2] (fun i wr => ∃ j : Nat, j ≤ 4 ∧ i = .int .i64 j ∧ Hid (SAt g1 9 (pl j) wr) ∧ Hid (Below g1 w3 wr))
    (fun i _ => 4 - (intOf i).toNat)
  case atStart => exact ⟨0, by omega, rfl, HS0, Lib.hid (Below.refl _ _)⟩
  case round =>
    clear HS0 HX
    obtain ⟨j, hj, rfl, HSA, HW⟩ := hrel
    have hwr3 := HW.out.size
    by_cases hlt : j < 4
    · obtain ⟨A, k, hx, hr, hf⟩ := HSA.out
      rw [HPL.out] at hx hr hf
      have HX := Lib.hid hx
      have HR := Lib.hid hr
      have HPJ := Lib.hid (fun v W h => HPU.out j hlt v W h)
      clear hx hr hf HSA
      have q : (j : Int) < 4 := by omega
      go_wp2_with (first
        | ((with_reducible refine gate9 ?_); refine ldB (ty := 27) (cs := #[.int .u32 9, .slice A j k]) rfl rfl rfl HX.out Try.underlying27 rfl infoS ?_)
        | (go_at_call 7; (with_reducible refine (HPJ.out _ _ HR.out).mono ?_); rintro e w4 ⟨A4, k4, n4, rfl, hr, hf, hb⟩; have HR4 := Lib.hid hr; have HF4 := Lib.hid (hf.less (show g1 + 1 ≤ wr.heap.size by omega)); replace HX := Lib.hid (HX.out.later hb); replace HW := Lib.hid (HW.out.trans (hb.mono (by omega))); clear hr hf hb)
        | ((with_reducible refine gate9 ?_); refine stB (ty := 27) #[.int .u32 9, .slice A4 (j + 1) k4] rfl rfl rfl rfl HX.out infoS rfl (cellsS_one _ _ _ _) ?_; intro w5 ht hg; have HS5 : Hid (SAt g1 9 (pl (j + 1)) w5) := Lib.hid (SAt.put (HPL.out _).symm ht hg HR4.out HF4.out); replace HW := Lib.hid (HW.out.grown hg (by have := HX.out.lt; omega) (fun z hz => by cases hz; omega)); clear ht hg))
      go_roundw
      case rel => exact ⟨j + 1, by omega, by go_num, HS5, HW⟩
      case measure => simp [intOf]; omega
    · obtain rfl : j = 4 := by omega
      obtain ⟨A, k, hx, hr, hf⟩ := HSA.out
      rw [HPL.out] at hx hr hf
      have HX := Lib.hid hx
      have HR := Lib.hid hr
      clear hx hr hf HSA
      obtain ⟨W6, hW6, HG6, HB6, hs6⟩ := one_open wr 37 #[.int .u16 2, .int .u16 3]
      obtain ⟨g6, hg6⟩ : ∃ g, wr.heap.size = g := ⟨_, rfl⟩
      rw [hg6] at HG6 hs6
      have HGP : Hid (RowGp W6 (.slice (some ⟨g6, 0, none⟩) 1 1) gp) := Lib.hid ⟨_, 1, rfl, by decide, by decide, fun _ => ⟨g6, 0, rfl, HG6.out.lt, fun j hj => by
        have : j = 0 := by have : j < 1 := hj; omega
        subst this
        intro i u hu
        rw [HG6.out.at]
        have hi : i < 2 := by have := (List.getElem?_eq_some_iff.1 hu).1; rw [lenGp] at this; exact this
        rcases (by omega : i = 0 ∨ i = 1) with rfl | rfl <;> simpa [gp, cellsGp] using hu⟩⟩
      replace HX := Lib.hid (HX.out.later HB6.out)
      replace HR := Lib.hid (HR.out.below HB6.out)
      replace HW := Lib.hid (HW.out.trans (HB6.out.mono (by omega)))
      have hgW6 : g1 ≤ W6.heap.size := by omega
      clear HB6 HG6
      go_wp2_with (first
        | ((with_reducible refine gate9 ?_); refine ldB (ty := 27) (cs := #[.int .u32 9, .slice A 4 k]) rfl rfl rfl HX.out Try.underlying27 rfl infoS ?_)
        | (go_at_call 9; (with_reducible refine (HA1.out _ _ _ HR.out HGP.out).mono ?_); rintro e w7 ⟨A5, k5, b6, z6, k6, A7, k7, A8, k8, o5, m5, f5, n6, n7, rfl, hk6, hk6', hr, hd, hl6, hb⟩; have HR5 := Lib.hid hr; have HD5 := Lib.hid (fun V (hV : Below w7.heap.size w7 V) => (hV.cell (p := ⟨b6, z6, none⟩) hl6).trans hd); have HV7 := Lib.hid (Below.refl w7.heap.size w7); have hk6i : (k6 : Int) ≤ 9223372036854775807 := (by unfold maxLen at hk6'; omega); replace HW := Lib.hid (HW.out.trans (hb.mono hgW6)); replace HGP := Lib.hid (HGP.out.below hb); have hs7 := hb.size; clear hr hd hb hl6; obtain ⟨W8, hW8, HT4, HT5, HB8, hs8⟩ := two_open w7 27 42 #[.int .u32 0, .slice none 0 0] #[.int .i64 0, .int .i64 0, .bool false, .bool false, .slice none 0 0, .slice none 0 0, .slice none 0 0]; have HB9 := Lib.hid (Below.refl w7.heap.size w7))
        | ((with_reducible refine gate9 ?_); refine stB (ty := 27) #[.int .u32 10, .slice A5 3 k5] rfl rfl rfl rfl HT4.out infoS rfl (cellsS_one _ _ _ _) ?_; intro w9 ht hg; replace HB9 := Lib.hid (below_of_grown1 HB8.out hg HB8.out.size (by omega)); replace HT5 := Lib.hid (HT5.out.kept hg (by omega)); replace HT4 := Lib.hid ht; clear ht hg)
        | ((with_reducible refine gate9 ?_); refine stB (ty := 42) #[.int .i64 300, .int .i64 o5, .bool m5, .bool f5, .slice (some ⟨b6, z6, none⟩) 1 k6, .slice A7 n6 k7, .slice A8 n7 k8] rfl rfl rfl rfl HT5.out infoR rfl (cellsR_one _ _ _ _ _ _ _ _ _ _ _ _ _) ?_; intro w10 ht hg; replace HB9 := Lib.hid (below_of_grown1 HB9.out hg HB9.out.size (by omega)); replace HT4 := Lib.hid (HT4.out.kept hg (by omega)); replace HT5 := Lib.hid ht; replace HR5 := Lib.hid (HR5.out.below HB9.out); replace HV7 := HB9; replace HGP := Lib.hid (HGP.out.below HB9.out); replace HW := Lib.hid (HW.out.trans (HB9.out.mono (by omega))); have hs10 := HB9.out.size; clear ht hg)
        | ((with_reducible refine gate9 ?_); refine ldB (ty := 27) (cs := #[.int .u32 10, .slice A5 3 k5]) rfl rfl rfl HT4.out Try.underlying27 rfl infoS ?_)
        | (go_at_call 9; (with_reducible refine (HA2.out _ _ _ HR5.out HGP.out).mono ?_); rintro e w11 ⟨B5, c5, B6, c6, B7, c7, B8, c8, b5, p5, q5, v6, v7, rfl, hb⟩; replace HW := Lib.hid (HW.out.trans (hb.mono (by omega))); replace HT4 := Lib.hid (HT4.out.later hb); replace HT5 := Lib.hid (HT5.out.later hb); replace HR5 := Lib.hid (HR5.out.below hb); replace HV7 := Lib.hid (HV7.out.trans (hb.mono HV7.out.size)); have hs11 := hb.size; clear hb; obtain ⟨W12, hW12, HT7, HT8, HB12, hs12⟩ := two_open w11 27 42 #[.int .u32 0, .slice none 0 0] #[.int .i64 0, .int .i64 0, .bool false, .bool false, .slice none 0 0, .slice none 0 0, .slice none 0 0])
        | ((with_reducible refine gate9 ?_); refine stB (ty := 27) #[.int .u32 10, .slice B5 3 c5] rfl rfl rfl rfl HT7.out infoS rfl (cellsS_one _ _ _ _) ?_; intro w13 ht hg; replace HB12 := Lib.hid (below_of_grown1 HB12.out hg HB12.out.size (by omega)); replace HT8 := Lib.hid (HT8.out.kept hg (by omega)); clear ht hg)
        | ((with_reducible refine gate9 ?_); refine stB (ty := 42) #[.int .i64 b5, .int .i64 p5, .bool q5, .bool false, .slice B6 0 c6, .slice B7 v6 c7, .slice B8 v7 c8] rfl rfl rfl rfl HT8.out infoR rfl (cellsR_one _ _ _ _ _ _ _ _ _ _ _ _ _) ?_; intro w14 ht hg; replace HB12 := Lib.hid (below_of_grown1 HB12.out hg HB12.out.size (by omega)); replace HT8 := Lib.hid ht; replace HT4 := Lib.hid (HT4.out.later HB12.out); replace HT5 := Lib.hid (HT5.out.later HB12.out); replace HR5 := Lib.hid (HR5.out.below HB12.out); replace HV7 := Lib.hid (HV7.out.trans (HB12.out.mono HV7.out.size)); have e10 := HD5.out _ HV7.out; have e20 := HT4.out.cell 0 (.int .u32 10) rfl; have e21 := HT4.out.cell 1 (.slice A5 3 k5) rfl; replace HW := Lib.hid (HW.out.trans (HB12.out.mono (by omega))); have e0 := HT5.out.cell 0 (.int .i64 300) rfl; have e4 := HT5.out.cell 4 (.slice (some ⟨b6, z6, none⟩) 1 k6) rfl; have hs14 := HB12.out.size; clear ht hg)
        | (go_at_call 8; (with_reducible refine (HUN.out _ _ HR5.out).mono ?_); rintro e w15 ⟨rfl, hb⟩; replace HW := Lib.hid (HW.out.trans (hb.mono (by omega))); replace HT8 := Lib.hid (HT8.out.later hb); clear hb; have e83 := HT8.out.cell 3 (.bool false) rfl))
      go_ret
      exact ⟨rfl, HB.out.trans (HW.out.mono (by omega))⟩
end Go.Proofs.Ytpgdofhnpiefjaa
