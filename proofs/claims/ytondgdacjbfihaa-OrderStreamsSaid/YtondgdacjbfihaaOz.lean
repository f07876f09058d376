/-
  The chapter's examples: contract.
-/
import Derived.Test.YtondgdacjbfihaaOy
namespace Go.Proofs.Ytondgdacjbfihaa
open Go.RowKit
set_option linter.unusedVariables false
set_option linter.unusedSimpArgs false
set_option maxRecDepth 100000

def m1 : Mg := ⟨0, false, 0, 1, 0, ⟨#[98]⟩⟩
def m2 : Mg := ⟨0, false, 1, 0, 0, ⟨#[120]⟩⟩
def m3 : Mg := ⟨0, false, 0, 0, 0, ⟨#[97]⟩⟩
theorem ok1 : OkQ [0, 0] [] := OkQ.empty _
theorem ok2 : OkQ [0, 0] [m1] := ⟨List.pairwise_singleton .., fun x hx => by rw [List.mem_singleton.1 hx]; decide⟩
theorem ok3 : OkQ [0, 1] [m1] := ⟨List.pairwise_singleton .., fun x hx => by rw [List.mem_singleton.1 hx]; decide⟩
theorem new_sh (w : World) : Calls Try.prog 9 #[.int .i64 2] w fun e w' => ∃ A c, e = .returned (.tuple #[.agg #[.slice A 2 c, .slice none 0 0], .int .i64 0]) ∧ RowE enc16 w' (.slice A 2 c) [0, 0] ∧ Below w.heap.size w w' := by
  have h9 := new_any 2 w
  rw [show newN 2 = [0, 0] by decide, show newE 2 = 0 by decide] at h9
  exact h9.mono fun e w' ⟨A, c, h1, h2, h3⟩ => ⟨A, c, h1, row_of_own h2, h3⟩
theorem put_sh1 (vn v : Value) (w : World) (hn : RowE enc16 w vn [0, 0]) (hw : RowM w v []) : Calls Try.prog 12 #[.agg #[vn, v], .agg #[.int .u32 0, .bool false, .int .u16 0, .int .u16 1, .int .u32 0, .string ⟨#[98]⟩]] w fun e w' => ∃ A1 c1 A2 c2 A3 c3, e = .returned (.tuple #[.agg #[.slice A1 2 c1, .slice A2 1 c2], .slice A3 0 c3, .int .i64 0]) ∧ RowE enc16 w' (.slice A1 2 c1) [0, 0] ∧ RowM w' (.slice A2 1 c2) [m1] ∧ RowM w' (.slice A3 0 c3) [] ∧ Below w.heap.size w w' := by
  have h9 := put_any [0, 0] [] m1 (by decide) (by decide) vn v w hn hw ok1
  rw [show putE [0, 0] [] m1 = 0 by kernel_rfl, show putN [0, 0] [] m1 = [0, 0] by kernel_rfl, show putW [0, 0] [] m1 = [m1] by kernel_rfl, show putT [0, 0] [] m1 = [] by kernel_rfl] at h9
  exact h9.mono fun e w' ⟨A1, c1, A2, c2, A3, c3, h1, h2, h3, h4, _, _, _, h8⟩ => ⟨A1, c1, A2, c2, A3, c3, h1, h2, h3, h4, h8⟩
theorem put_sh2 (vn v : Value) (w : World) (hn : RowE enc16 w vn [0, 0]) (hw : RowM w v [m1]) : Calls Try.prog 12 #[.agg #[vn, v], .agg #[.int .u32 0, .bool false, .int .u16 1, .int .u16 0, .int .u32 0, .string ⟨#[120]⟩]] w fun e w' => ∃ A1 c1 A2 c2 A3 c3, e = .returned (.tuple #[.agg #[.slice A1 2 c1, .slice A2 1 c2], .slice A3 1 c3, .int .i64 0]) ∧ RowE enc16 w' (.slice A1 2 c1) [0, 1] ∧ RowM w' (.slice A2 1 c2) [m1] ∧ RowM w' (.slice A3 1 c3) [m2] ∧ Below w.heap.size w w' := by
  have h9 := put_any [0, 0] [m1] m2 (by decide) (by decide) vn v w hn hw ok2
  rw [show putE [0, 0] [m1] m2 = 0 by kernel_rfl, show putN [0, 0] [m1] m2 = [0, 1] by kernel_rfl, show putW [0, 0] [m1] m2 = [m1] by kernel_rfl, show putT [0, 0] [m1] m2 = [m2] by kernel_rfl] at h9
  exact h9.mono fun e w' ⟨A1, c1, A2, c2, A3, c3, h1, h2, h3, h4, _, _, _, h8⟩ => ⟨A1, c1, A2, c2, A3, c3, h1, h2, h3, h4, h8⟩
theorem put_sh3 (vn v : Value) (w : World) (hn : RowE enc16 w vn [0, 1]) (hw : RowM w v [m1]) : Calls Try.prog 12 #[.agg #[vn, v], .agg #[.int .u32 0, .bool false, .int .u16 0, .int .u16 0, .int .u32 0, .string ⟨#[97]⟩]] w fun e w' => ∃ A1 c1 A2 c2 A3 c3, e = .returned (.tuple #[.agg #[.slice A1 2 c1, .slice A2 0 c2], .slice A3 2 c3, .int .i64 0]) ∧ RowE enc16 w' (.slice A1 2 c1) [2, 1] ∧ RowM w' (.slice A2 0 c2) [] ∧ RowM w' (.slice A3 2 c3) [m3, m1] ∧ Below w.heap.size w w' := by
  have h9 := put_any [0, 1] [m1] m3 (by decide) (by decide) vn v w hn hw ok3
  rw [show putE [0, 1] [m1] m3 = 0 by kernel_rfl, show putN [0, 1] [m1] m3 = [2, 1] by kernel_rfl, show putW [0, 1] [m1] m3 = [] by kernel_rfl, show putT [0, 1] [m1] m3 = [m3, m1] by kernel_rfl] at h9
  exact h9.mono fun e w' ⟨A1, c1, A2, c2, A3, c3, h1, h2, h3, h4, _, _, _, h8⟩ => ⟨A1, c1, A2, c2, A3, c3, h1, h2, h3, h4, h8⟩
set_option maxHeartbeats 4000000 in
theorem shown_any (w : World) : Calls Try.prog 8 #[] w fun e w' => e = .returned (.bool true) ∧ Below w.heap.size w w' := by
  have HP1 := Lib.hid put_sh1
  have HP2 := Lib.hid put_sh2
  have HP3 := Lib.hid put_sh3
  have HNW := Lib.hid new_sh
  go_enter Try.func8, Try.ntmps8
  go_wp2_with fail
  refine (HNW.out _).mono ?_
  rintro e w0 ⟨A0, k0, rfl, hr, hb⟩
  obtain ⟨W0, hW0, HZ0, HC0, hs0⟩ := one_open w0 27 #[.slice none 0 0, .slice none 0 0]
  obtain ⟨g0, hg0⟩ : ∃ g, w0.heap.size = g := ⟨_, rfl⟩
  rw [hg0] at HZ0
  have RN0 := Lib.hid hr
  have RW0 := Lib.hid (RowM.nil w0)
  have HB := Lib.hid hb
  clear hr hb hs0
  go_wp2_with (first
    | ((with_reducible refine gate9 ?_); refine stB (ty := 27) #[.slice A0 2 k0, .slice none 0 0] rfl rfl rfl rfl HZ0.out infoQ rfl (cellsQ_one _ _ _ _ _ _) ?_; intro v0 ht hg; have hb := below_of_grown1 HC0.out hg HC0.out.size (Nat.le_of_eq hg0); have HQ0 := Lib.hid ht; have HN0 := Lib.hid (RN0.out.below hb); have HW0 := Lib.hid (RW0.out.below hb); replace HB := Lib.hid (HB.out.trans (hb.mono HB.out.size)); clear ht hg hb HZ0 HC0 RN0 RW0)
    | ((with_reducible refine gate9 ?_); refine ldB (ty := 27) (cs := #[.slice A0 2 k0, .slice none 0 0]) rfl rfl rfl HQ0.out Try.underlying27 rfl infoQ ?_)
    | (go_at_call 12; (with_reducible refine (HP1.out _ _ _ HN0.out HW0.out).mono ?_); rintro e w1 ⟨A1, k1, B1, j1, T1, t1, rfl, hr1, hr2, hr3, hb⟩; replace HQ0 := Lib.hid (HQ0.out.later hb); have RN1 := Lib.hid hr1; have RW1 := Lib.hid hr2; have RT1 := Lib.hid hr3; replace HB := Lib.hid (HB.out.trans (hb.mono HB.out.size)); clear hr1 hr2 hr3 hb; obtain ⟨W1, hW1, HZ1, HC1, hs1⟩ := one_open w1 27 #[.slice none 0 0, .slice none 0 0]; obtain ⟨g1, hg1⟩ : ∃ g, w1.heap.size = g := ⟨_, rfl⟩; rw [hg1] at HZ1; clear hs1)
    | ((with_reducible refine gate9 ?_); refine stB (ty := 27) #[.slice A1 2 k1, .slice B1 1 j1] rfl rfl rfl rfl HZ1.out infoQ rfl (cellsQ_one _ _ _ _ _ _) ?_; intro v1 ht hg; have hb := below_of_grown1 HC1.out hg HC1.out.size (Nat.le_of_eq hg1); have HQ1 := Lib.hid ht; replace HQ0 := Lib.hid (HQ0.out.later hb); have HN1 := Lib.hid (RN1.out.below hb); have HW1 := Lib.hid (RW1.out.below hb); have HT1 := Lib.hid (RT1.out.below hb); replace HB := Lib.hid (HB.out.trans (hb.mono HB.out.size)); clear ht hg hb HZ1 HC1 RN1 RW1)
    | ((with_reducible refine gate9 ?_); refine ldB (ty := 27) (cs := #[.slice A1 2 k1, .slice B1 1 j1]) rfl rfl rfl HQ1.out Try.underlying27 rfl infoQ ?_)
    | (go_at_call 12; (with_reducible refine (HP2.out _ _ _ HN1.out HW1.out).mono ?_); rintro e w2 ⟨A2, k2, B2, j2, T2, t2, rfl, hr1, hr2, hr3, hb⟩; replace HQ0 := Lib.hid (HQ0.out.later hb); replace HQ1 := Lib.hid (HQ1.out.later hb); have RN2 := Lib.hid hr1; have RW2 := Lib.hid hr2; have RT2 := Lib.hid hr3; replace HB := Lib.hid (HB.out.trans (hb.mono HB.out.size)); clear hr1 hr2 hr3 hb; obtain ⟨W2, hW2, HZ2, HC2, hs2⟩ := one_open w2 27 #[.slice none 0 0, .slice none 0 0]; obtain ⟨g2, hg2⟩ : ∃ g, w2.heap.size = g := ⟨_, rfl⟩; rw [hg2] at HZ2; clear hs2)
    | ((with_reducible refine gate9 ?_); refine stB (ty := 27) #[.slice A2 2 k2, .slice B2 1 j2] rfl rfl rfl rfl HZ2.out infoQ rfl (cellsQ_one _ _ _ _ _ _) ?_; intro v2 ht hg; have hb := below_of_grown1 HC2.out hg HC2.out.size (Nat.le_of_eq hg2); have HQ2 := Lib.hid ht; replace HQ0 := Lib.hid (HQ0.out.later hb); replace HQ1 := Lib.hid (HQ1.out.later hb); have HN2 := Lib.hid (RN2.out.below hb); have HW2 := Lib.hid (RW2.out.below hb); have HT2 := Lib.hid (RT2.out.below hb); replace HB := Lib.hid (HB.out.trans (hb.mono HB.out.size)); clear ht hg hb HZ2 HC2 RN2 RW2)
    | ((with_reducible refine gate9 ?_); refine ldB (ty := 27) (cs := #[.slice A2 2 k2, .slice B2 1 j2]) rfl rfl rfl HQ2.out Try.underlying27 rfl infoQ ?_)
    | (go_at_call 12; (with_reducible refine (HP3.out _ _ _ HN2.out HW2.out).mono ?_); rintro e w3 ⟨A3, k3, B3, j3, T3, t3, rfl, hr1, hr2, hr3, hb⟩; replace HQ0 := Lib.hid (HQ0.out.later hb); replace HQ1 := Lib.hid (HQ1.out.later hb); replace HQ2 := Lib.hid (HQ2.out.later hb); obtain ⟨b3, o3, c3', e3, hb3, -, -, hrg⟩ := hr3.at (j := 0) (by decide); cases e3; have HRG3 := Lib.hid hrg; clear hrg; have RN3 := Lib.hid hr1; have RW3 := Lib.hid hr2; have RT3 := Lib.hid hr3; replace HB := Lib.hid (HB.out.trans (hb.mono HB.out.size)); clear hr1 hr2 hr3 hb; obtain ⟨W3, hW3, HZ3, HC3, hs3⟩ := one_open w3 27 #[.slice none 0 0, .slice none 0 0]; obtain ⟨g3, hg3⟩ : ∃ g, w3.heap.size = g := ⟨_, rfl⟩; rw [hg3] at HZ3; clear hs3)
    | ((with_reducible refine gate9 ?_); refine stB (ty := 27) #[.slice A3 2 k3, .slice B3 0 j3] rfl rfl rfl rfl HZ3.out infoQ rfl (cellsQ_one _ _ _ _ _ _) ?_; intro v3 ht hg; have hb := below_of_grown1 HC3.out hg HC3.out.size (Nat.le_of_eq hg3); have HQ3 := Lib.hid ht; replace HQ0 := Lib.hid (HQ0.out.later hb); replace HQ1 := Lib.hid (HQ1.out.later hb); replace HQ2 := Lib.hid (HQ2.out.later hb); have HN3 := Lib.hid (RN3.out.below hb); have HW3 := Lib.hid (RW3.out.below hb); have HT3 := Lib.hid (RT3.out.below hb); replace HB := Lib.hid (HB.out.trans (hb.mono HB.out.size)); have tx : v3.cell? ⟨b3, o3 + 5, none⟩ = some (.string ⟨#[97]⟩) := (hb.cell (p := ⟨b3, o3 + 5, none⟩) hb3).trans (HRG3.out 5 _ rfl); have tc := HQ3.out.cell 1 (.slice B3 0 j3) rfl; clear ht hg hb HZ3 HC3 RN3 RW3))
  go_ret
  exact ⟨rfl, HB.out⟩
end Go.Proofs.Ytondgdacjbfihaa
