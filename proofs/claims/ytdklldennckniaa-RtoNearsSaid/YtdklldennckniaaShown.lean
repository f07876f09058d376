/-
  Chapter 10's examples: contract.
-/
import Derived.Test.YtdklldennckniaaEnv
namespace Go.Proofs.Ytdklldennckniaa
open Go.RowKit
set_option linter.unusedVariables false

def exA : Tm := ⟨500, 250, 1500, 0, true⟩
def exB : Tm := ⟨450, 287, 1598, 0, true⟩
theorem exA_is : sampleT newT 500 = exA := by decide
theorem exB_is : sampleT exA 100 = exB := by decide
set_option maxHeartbeats 1000000 in
set_option maxRecDepth 100000 in
theorem shown_any (w : World) : Calls Try.prog 7 #[] w fun e w' => e = .returned (.bool true) ∧ Below w.heap.size w w' := by
  have HB := Lib.hid (Below.refl w.heap.size w)
  have HN := Lib.hid (fun W => new_any W)
  have hA := fun W => sample_any newT 500 W
  rw [exA_is] at hA
  have hB := fun W => sample_any exA 100 W
  rw [exB_is] at hB
  have HA := Lib.hid hA
  have HBB := Lib.hid hB
  clear hA hB
  have hsix := Lib.hid (back_six newT (by decide) (by decide))
  have hwf := Lib.hid (backN_wf new_wf)
  go_enter Try.func7, Try.ntmps7
  go_wp2_with fail
  refine (HN.out _).mono ?_
  rintro e w1 ⟨rfl, hb⟩
  replace HB := Lib.hid (HB.out.trans (hb.mono HB.out.size))
  clear hb
  go_wp2_with fail
  refine (HA.out _).mono ?_
  rintro e w2 ⟨rfl, hb⟩
  replace HB := Lib.hid (HB.out.trans (hb.mono HB.out.size))
  clear hb
  have HT := Lib.hid (TS.made HB.out zeroT)
  obtain ⟨g1, hg1⟩ : ∃ g, w2.heap.size = g := ⟨_, rfl⟩
  have HF := Lib.hid (Tx.fresh w2 zeroT)
  rw [hg1] at HT HF
  go_wp2_with (first
    | (refine gate9 ?_; refine stT (.tmp 1) (.tmp 6) exA g1 rfl rfl rfl rfl HF.out ?_; intro w3 ht hg; replace HT := Lib.hid (HT.out.set ht hg); clear ht hg HB HF)
    | (refine gate9 ?_; refine ldT (.tmp 1) g1 rfl rfl rfl HT.out.own ?_))
  refine (HBB.out _).mono ?_
  rintro e w4 ⟨rfl, hb⟩
  replace HT := Lib.hid (HT.out.later hb)
  have HU := Lib.hid (TS.made HT.out.below zeroT)
  have HTa := Lib.hid (HT.out.alloc (.cells (cellsT zeroT) 25))
  have hne := HT.out.own.lt
  obtain ⟨g2, hg2⟩ : ∃ g, w4.heap.size = g := ⟨_, rfl⟩
  have hw := HT.out.below.size
  have HF := Lib.hid (Tx.fresh w4 zeroT)
  rw [hg2] at HU hne hw HF
  clear hb HT
  go_wp2_with (refine gate9 ?_; refine stT (.tmp 2) (.tmp 8) exB g2 rfl rfl rfl rfl HF.out ?_; intro w5 ht hg; replace HU := Lib.hid (HU.out.set ht hg); have HT := Lib.hid (HTa.out.kept hg hw (by omega)); clear ht hg HTa HF)
  refine (HN.out _).mono ?_
  rintro e w6 ⟨rfl, hb⟩
  replace HT := Lib.hid (HT.out.later hb)
  replace HU := Lib.hid (HU.out.later hb)
  have HV := Lib.hid (TS.made HT.out.below zeroT)
  have HTa := Lib.hid (HT.out.alloc (.cells (cellsT zeroT) 25))
  have HUa := Lib.hid (HU.out.alloc (.cells (cellsT zeroT) 25))
  have hne1 := HT.out.own.lt
  have hne2 := HU.out.own.lt
  have hw3 := HT.out.below.size
  obtain ⟨g3, hg3⟩ : ∃ g, w6.heap.size = g := ⟨_, rfl⟩
  have HF := Lib.hid (Tx.fresh w6 zeroT)
  rw [hg3] at HV hne1 hne2 hw3 HF
  clear hb HT HU
  go_wp2_with (refine gate9 ?_; refine stT (.tmp 3) (.tmp 9) newT g3 rfl rfl rfl rfl HF.out ?_; intro w7 ht hg; replace HV := Lib.hid (HV.out.set ht hg); have HT := Lib.hid (HTa.out.kept hg hw3 (by omega)); have HU := Lib.hid (HUa.out.kept hg hw3 (by omega)); clear ht hg HTa HUa HF)
  clear HN HA HBB hg1 hg2 hg3
  go_loopw [4] (fun i wr => ∃ k : Nat, k ≤ 6 ∧ i = .int .i64 k ∧ TS w g3 (backN k newT) wr ∧ TS w g1 exA wr ∧ TS w g2 exB wr) (fun i _ => 6 - (intOf i).toNat)
  case atStart => exact ⟨0, by omega, rfl, HV.out, HT.out, HU.out⟩
  case round =>
    obtain ⟨k, hk, rfl, hv, ht, hu⟩ := hrel
    by_cases hlt : k < 6
    · have H1 := Lib.hid hv
      have H2 := Lib.hid ht
      have H3 := Lib.hid hu
      have HBK := Lib.hid (fun W => back_any (backN k newT) (hwf.out k) W)
      clear hv ht hu HV HT HU
      go_wp2_with (first
        | (refine gate9 ?_; refine ldT (.tmp 3) g3 rfl rfl rfl H1.out.own ?_)
        | (refine (HBK.out _).mono ?_; rintro e w8 ⟨rfl, hb⟩; replace H1 := Lib.hid (H1.out.later hb); replace H2 := Lib.hid (H2.out.later hb); replace H3 := Lib.hid (H3.out.later hb); clear hb)
        | (refine gate9 ?_; refine stT (.tmp 3) (.tmp 15) (backT (backN k newT)) g3 rfl rfl rfl rfl H1.out.own ?_; intro w9 ht hg; replace H1 := Lib.hid (H1.out.set ht hg); replace H2 := Lib.hid (H2.out.kept hg hw3 (by omega)); replace H3 := Lib.hid (H3.out.kept hg hw3 (by omega)); clear ht hg))
      go_roundw
      case rel => exact ⟨k + 1, by omega, rfl, H1.out, H2.out, H3.out⟩
      case measure => simp [intOf]; omega
    · obtain rfl : k = 6 := by omega
      have HBE := Lib.hid hv.below
      obtain ⟨-, -, c2, -, -⟩ := hv.own.c
      rw [hsix.out] at c2
      obtain ⟨d0, d1, d2, -, -⟩ := ht.own.c
      obtain ⟨f0, f1, f2, -, -⟩ := hu.own.c
      change wr.cell? _ = some (.int .i64 500) at d0
      change wr.cell? _ = some (.int .i64 250) at d1
      change wr.cell? _ = some (.int .i64 1500) at d2
      change wr.cell? _ = some (.int .i64 450) at f0
      change wr.cell? _ = some (.int .i64 287) at f1
      change wr.cell? _ = some (.int .i64 1598) at f2
      clear hv ht hu HV HT HU hsix hwf
      go_wp2_with fail
      go_ret
      exact ⟨rfl, HBE.out⟩
end Go.Proofs.Ytdklldennckniaa
