/-
  The chapter's examples: contract.
-/
import Derived.Test.YtgngdgiipifacaaSk
namespace Go.Proofs.Ytgngdgiipifacaa
open Go.RowKit
set_option linter.unusedVariables false
set_option linter.unusedSimpArgs false
set_option maxRecDepth 100000

def q5 : Pc := ⟨5, false, true, false, 0, 0, 0, ⟨#[99]⟩⟩
def q4 : Pc := ⟨4, false, false, false, 0, 0, 0, ⟨#[98]⟩⟩
def q3 : Pc := ⟨3, true, false, false, 0, 0, 0, ⟨#[97]⟩⟩
theorem sh1 : putP [] q5 = ([q5], none) := by kernel_rfl
theorem sh2 : putP [q5] q4 = ([q5, q4], none) := by kernel_rfl
theorem sh3 : putP [q5, q4] q3 = ([], some ⟨3, false, 0, 0, 0, ⟨#[97, 98, 99]⟩⟩) := by kernel_rfl
theorem sh4 : cutL ⟨#[97, 98, 99, 100, 101]⟩ 2 = [⟨#[97, 98]⟩, ⟨#[99, 100]⟩, ⟨#[101]⟩] := by kernel_rfl
theorem ok5 : OkB [q5] := ⟨by decide, fun x hx => by rw [List.mem_singleton.1 hx]; decide⟩
theorem ok54 : OkB [q5, q4] := ⟨by decide, fun x hx => by
  rcases List.mem_cons.1 hx with rfl | hx
  · decide
  · rw [List.mem_singleton.1 hx]; decide⟩
theorem put_sh1 (v : Value) (w : World) (h : RowP w v []) : Calls Try.prog 14 #[.agg #[v], .agg #[.int .u32 5, .bool false, .bool true, .bool false, .int .u16 0, .int .u16 0, .int .u32 0, .string ⟨#[99]⟩]] w fun e w' => ∃ A k, e = .returned (.tuple #[.agg #[.slice A 1 k], .agg #[.int .u32 0, .bool false, .int .u16 0, .int .u16 0, .int .u32 0, .string ⟨#[]⟩], .bool false]) ∧ RowP w' (.slice A 1 k) [q5] ∧ Below w.heap.size w w' := by
  have h9 := put_any [] (by decide) okB_nil q5 (by decide) v w h
  rw [sh1] at h9
  exact h9.mono fun e w' ⟨A, k, h1, h2, h3, h4⟩ => ⟨A, k, h1, h2, h4⟩
theorem put_sh2 (v : Value) (w : World) (h : RowP w v [q5]) : Calls Try.prog 14 #[.agg #[v], .agg #[.int .u32 4, .bool false, .bool false, .bool false, .int .u16 0, .int .u16 0, .int .u32 0, .string ⟨#[98]⟩]] w fun e w' => ∃ A k, e = .returned (.tuple #[.agg #[.slice A 2 k], .agg #[.int .u32 0, .bool false, .int .u16 0, .int .u16 0, .int .u32 0, .string ⟨#[]⟩], .bool false]) ∧ RowP w' (.slice A 2 k) [q5, q4] ∧ Below w.heap.size w w' := by
  have h9 := put_any [q5] (by decide) ok5 q4 (by decide) v w h
  rw [sh2] at h9
  exact h9.mono fun e w' ⟨A, k, h1, h2, h3, h4⟩ => ⟨A, k, h1, h2, h4⟩
theorem put_sh3 (v : Value) (w : World) (h : RowP w v [q5, q4]) : Calls Try.prog 14 #[.agg #[v], .agg #[.int .u32 3, .bool true, .bool false, .bool false, .int .u16 0, .int .u16 0, .int .u32 0, .string ⟨#[97]⟩]] w fun e w' => ∃ A k, e = .returned (.tuple #[.agg #[.slice A 0 k], .agg #[.int .u32 3, .bool false, .int .u16 0, .int .u16 0, .int .u32 0, .string ⟨#[97, 98, 99]⟩], .bool true]) ∧ RowP w' (.slice A 0 k) [] ∧ Below w.heap.size w w' := by
  have h9 := put_any [q5, q4] (by decide) ok54 q3 (by decide) v w h
  rw [sh3] at h9
  exact h9.mono fun e w' ⟨A, k, h1, h2, h3, h4⟩ => ⟨A, k, h1, h2, h4⟩
theorem cut_sh (w : World) : Calls Try.prog 10 #[.string ⟨#[97, 98, 99, 100, 101]⟩, .int .i64 2] w fun e w' => ∃ A c, e = .returned (.tuple #[.slice A 3 c, .int .i64 0]) ∧ RowE encS w' (.slice A 3 c) [⟨#[97, 98]⟩, ⟨#[99, 100]⟩, ⟨#[101]⟩] ∧ Below w.heap.size w w' := by
  have h9 := cut_good ⟨#[97, 98, 99, 100, 101]⟩ 2 (by decide) (by decide) (by decide) (by decide) w
  rw [sh4] at h9
  exact h9
set_option maxHeartbeats 4000000 in
theorem shown_any (w : World) : Calls Try.prog 9 #[] w fun e w' => e = .returned (.bool true) ∧ Below w.heap.size w w' := by
  have HP1 := Lib.hid put_sh1
  have HP2 := Lib.hid put_sh2
  have HP3 := Lib.hid put_sh3
  have HCU := Lib.hid cut_sh
  have HST := Lib.hid (fun v1 v2 W h1 h2 => same_texts [⟨#[97, 98]⟩, ⟨#[99, 100]⟩, ⟨#[101]⟩] (by decide) v1 v2 W h1 h2)
  go_enter Try.func9, Try.ntmps9
  go_wp2_with fail
  refine (HCU.out _).mono ?_
  rintro e w0 ⟨A0, k0, rfl, hr, hb⟩
  have HL := Lib.hid hr
  have HB := Lib.hid hb
  clear hr hb
  go_wp2_with (first
    | (go_at_call 14; (with_reducible refine (HP1.out _ _ (RowP.nil _)).mono ?_); rintro e w1 ⟨A1, k1, rfl, hr, hb⟩; have HR1 := Lib.hid hr; replace HL := Lib.hid (RowE.below HL.out hb); replace HB := Lib.hid (HB.out.trans (hb.mono HB.out.size)); clear hr hb; obtain ⟨W1, hW1, HB1, HM1, HC1, hs1⟩ := two_open w1 32 39 #[.slice none 0 0] #[.int .u32 0, .bool false, .int .u16 0, .int .u16 0, .int .u32 0, .string ⟨#[]⟩]; obtain ⟨g1, hg1⟩ : ∃ g, w1.heap.size = g := ⟨_, rfl⟩; rw [hg1] at HB1 HM1)
    | ((with_reducible refine gate9 ?_); refine stB (ty := 32) #[.slice A1 1 k1] rfl rfl rfl rfl HB1.out infoB rfl (cellsB_one _ _ _) ?_; intro w11 ht hg; replace HC1 := Lib.hid (below_of_grown1 HC1.out hg HC1.out.size (Nat.le_of_eq hg1)); replace HM1 := Lib.hid (HM1.out.kept hg (by omega)); replace HB1 := Lib.hid ht; clear ht hg)
    | ((with_reducible refine gate9 ?_); refine stB (ty := 39) #[.int .u32 0, .bool false, .int .u16 0, .int .u16 0, .int .u32 0, .string ⟨#[]⟩] rfl rfl rfl rfl HM1.out infoM rfl (by simp [Value.oneCell']) ?_; intro w12 ht hg; replace HC1 := Lib.hid (below_of_grown1 HC1.out hg HC1.out.size (by omega)); replace HB1 := Lib.hid (HB1.out.kept hg (by omega)); replace HM1 := Lib.hid ht; have hb := HC1.out; replace HR1 := Lib.hid (RowP.below HR1.out hb); replace HL := Lib.hid (RowE.below HL.out hb); replace HB := Lib.hid (HB.out.trans (hb.mono HB.out.size)); clear ht hg hb)
    | ((with_reducible refine gate9 ?_); refine ldB (ty := 32) (cs := #[.slice A1 1 k1]) rfl rfl rfl HB1.out Try.underlying32 rfl infoB ?_)
    | (go_at_call 14; (with_reducible refine (HP2.out _ _ HR1.out).mono ?_); rintro e w2 ⟨A2, k2, rfl, hr, hb⟩; have HR2 := Lib.hid hr; replace HB1 := Lib.hid (HB1.out.later hb); replace HM1 := Lib.hid (HM1.out.later hb); replace HR1 := Lib.hid (RowP.below HR1.out hb); replace HL := Lib.hid (RowE.below HL.out hb); replace HB := Lib.hid (HB.out.trans (hb.mono HB.out.size)); clear hr hb; obtain ⟨W2, hW2, HB2, HM2, HC2, hs2⟩ := two_open w2 32 39 #[.slice none 0 0] #[.int .u32 0, .bool false, .int .u16 0, .int .u16 0, .int .u32 0, .string ⟨#[]⟩]; obtain ⟨g2, hg2⟩ : ∃ g, w2.heap.size = g := ⟨_, rfl⟩; rw [hg2] at HB2 HM2)
    | ((with_reducible refine gate9 ?_); refine stB (ty := 32) #[.slice A2 2 k2] rfl rfl rfl rfl HB2.out infoB rfl (cellsB_one _ _ _) ?_; intro w21 ht hg; replace HC2 := Lib.hid (below_of_grown1 HC2.out hg HC2.out.size (Nat.le_of_eq hg2)); replace HM2 := Lib.hid (HM2.out.kept hg (by omega)); replace HB2 := Lib.hid ht; clear ht hg)
    | ((with_reducible refine gate9 ?_); refine stB (ty := 39) #[.int .u32 0, .bool false, .int .u16 0, .int .u16 0, .int .u32 0, .string ⟨#[]⟩] rfl rfl rfl rfl HM2.out infoM rfl (by simp [Value.oneCell']) ?_; intro w22 ht hg; replace HC2 := Lib.hid (below_of_grown1 HC2.out hg HC2.out.size (by omega)); replace HB2 := Lib.hid (HB2.out.kept hg (by omega)); replace HM2 := Lib.hid ht; have hb := HC2.out; replace HB1 := Lib.hid (HB1.out.later hb); replace HM1 := Lib.hid (HM1.out.later hb); replace HR1 := Lib.hid (RowP.below HR1.out hb); replace HR2 := Lib.hid (RowP.below HR2.out hb); replace HL := Lib.hid (RowE.below HL.out hb); replace HB := Lib.hid (HB.out.trans (hb.mono HB.out.size)); clear ht hg hb)
    | ((with_reducible refine gate9 ?_); refine ldB (ty := 32) (cs := #[.slice A2 2 k2]) rfl rfl rfl HB2.out Try.underlying32 rfl infoB ?_)
    | (go_at_call 14; (with_reducible refine (HP3.out _ _ HR2.out).mono ?_); rintro e w3 ⟨A3, k3, rfl, hr, hb⟩; have HR3 := Lib.hid hr; replace HB1 := Lib.hid (HB1.out.later hb); replace HM1 := Lib.hid (HM1.out.later hb); replace HR1 := Lib.hid (RowP.below HR1.out hb); replace HB2 := Lib.hid (HB2.out.later hb); replace HM2 := Lib.hid (HM2.out.later hb); replace HR2 := Lib.hid (RowP.below HR2.out hb); replace HL := Lib.hid (RowE.below HL.out hb); replace HB := Lib.hid (HB.out.trans (hb.mono HB.out.size)); clear hr hb; obtain ⟨W3, hW3, HB3, HM3, HC3, hs3⟩ := two_open w3 32 39 #[.slice none 0 0] #[.int .u32 0, .bool false, .int .u16 0, .int .u16 0, .int .u32 0, .string ⟨#[]⟩]; obtain ⟨g3, hg3⟩ : ∃ g, w3.heap.size = g := ⟨_, rfl⟩; rw [hg3] at HB3 HM3)
    | ((with_reducible refine gate9 ?_); refine stB (ty := 32) #[.slice A3 0 k3] rfl rfl rfl rfl HB3.out infoB rfl (cellsB_one _ _ _) ?_; intro w31 ht hg; replace HC3 := Lib.hid (below_of_grown1 HC3.out hg HC3.out.size (Nat.le_of_eq hg3)); replace HM3 := Lib.hid (HM3.out.kept hg (by omega)); replace HB3 := Lib.hid ht; clear ht hg)
    | ((with_reducible refine gate9 ?_); refine stB (ty := 39) #[.int .u32 3, .bool false, .int .u16 0, .int .u16 0, .int .u32 0, .string ⟨#[97, 98, 99]⟩] rfl rfl rfl rfl HM3.out infoM rfl (by simp [Value.oneCell']) ?_; intro w32 ht hg; replace HC3 := Lib.hid (below_of_grown1 HC3.out hg HC3.out.size (by omega)); replace HB3 := Lib.hid (HB3.out.kept hg (by omega)); replace HM3 := Lib.hid ht; have hb := HC3.out; replace HB1 := Lib.hid (HB1.out.later hb); replace HM1 := Lib.hid (HM1.out.later hb); replace HR1 := Lib.hid (RowP.below HR1.out hb); replace HB2 := Lib.hid (HB2.out.later hb); replace HM2 := Lib.hid (HM2.out.later hb); replace HR2 := Lib.hid (RowP.below HR2.out hb); replace HR3 := Lib.hid (RowP.below HR3.out hb); replace HL := Lib.hid (RowE.below HL.out hb); replace HB := Lib.hid (HB.out.trans (hb.mono HB.out.size)); clear ht hg hb)
    | ((with_reducible refine gate9 ?_); refine ldB (ty := 32) (cs := #[.slice A3 0 k3]) rfl rfl rfl HB3.out Try.underlying32 rfl infoB ?_))
  have HRW : Hid (RowE encS (w32.alloc (.cells #[.string ⟨#[97, 98]⟩, .string ⟨#[99, 100]⟩, .string ⟨#[101]⟩] 9)) (.slice (some ⟨w32.heap.size, 0, none⟩) 3 3) [⟨#[97, 98]⟩, ⟨#[99, 100]⟩, ⟨#[101]⟩]) := Lib.hid ⟨_, 3, rfl, by decide, by decide, fun _ => ⟨_, 0, rfl, by rw [World.size_alloc]; omega, fun j hj => by
    have hF := Bx.fresh w32 9 #[.string ⟨#[97, 98]⟩, .string ⟨#[99, 100]⟩, .string ⟨#[101]⟩]
    have hj3 : j < 3 := hj
    rcases (by omega : j = 0 ∨ j = 1 ∨ j = 2) with rfl | rfl | rfl
    · exact hF.cell 0 _ rfl
    · exact hF.cell 1 _ rfl
    · exact hF.cell 2 _ rfl⟩⟩
  refine (HST.out _ _ _ (RowE.below HL.out (below_one _ _)) HRW.out).mono ?_
  rintro e w9 ⟨rfl, hb⟩
  have hb9 : Below w32.heap.size w32 w9 := (below_one _ _).trans (hb.mono (by rw [World.size_alloc]; omega))
  have m5 := (HM3.out.later hb9).cell 5 (.string ⟨#[97, 98, 99]⟩) rfl
  have m0 := (HM3.out.later hb9).cell 0 (.int .u32 3) rfl
  have b0 := (HB3.out.later hb9).cell 0 (.slice A3 0 k3) rfl
  have HE := Lib.hid (HB.out.trans (hb9.mono HB.out.size))
  clear hb hb9
  go_wp2_with fail
  go_ret
  exact ⟨rfl, HE.out⟩
end Go.Proofs.Ytgngdgiipifacaa
