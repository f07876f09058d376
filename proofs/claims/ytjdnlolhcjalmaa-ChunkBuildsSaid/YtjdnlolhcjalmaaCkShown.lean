/-
  The chapter's examples of layer 7: the program answers them as the document says.
-/
import Derived.Test.YtjdnlolhcjalmaaLawSame
import Derived.Test.YtjdnlolhcjalmaaCkRead
import Derived.Test.YtjdnlolhcjalmaaCkBuild
namespace Go.Proofs.Ytjdnlolhcjalmaa
open Go.RowKit
set_option linter.unusedVariables false
set_option linter.unusedSimpArgs false
set_option maxRecDepth 100000

def downC : Ck := ⟨7, 0, 5, 0, 0, 0, 0, 0, 0, 0, [], [], [], noB⟩
def oneC : Ck := ⟨0, 3, 1, 0, 0, 0, 0, 0, 0, 0, [], [], [], ⟨#[120]⟩⟩
theorem down_built : buildC downC = (⟨#[7, 0, 0, 8, 0, 0, 0, 5]⟩, 0) := by decide +kernel
theorem one_read : parseC ⟨#[0, 3, 0, 17, 0, 0, 0, 1, 0, 0, 0, 0, 0, 0, 0, 0, 120]⟩ = (oneC, 17, 0) := by kernel_rfl
theorem ack_read : parseC ⟨#[11, 0, 0, 4]⟩ = (zeroC 11 0, 4, 0) := by kernel_rfl
theorem build_down (w : World) : Calls Try.prog 10 #[.agg #[.int .i64 7, .int .i64 0, .int .u32 5, .int .u32 0, .int .u32 0, .int .u32 0, .int .u16 0, .int .u16 0, .int .u16 0, .int .u16 0, .slice none 0 0, .slice none 0 0, .slice none 0 0, .string ⟨#[]⟩]] w fun e w' =>
    e = .returned (.tuple #[.string ⟨#[7, 0, 0, 8, 0, 0, 0, 5]⟩, .int .i64 0]) ∧ Below w.heap.size w w' := by
  have h := ckbuild_any downC ⟨by decide, by decide, by decide, by decide, by decide, by decide, by decide, by decide, fun g h => absurd h (by simp [downC]), fun g h => absurd h (by simp [downC])⟩ (by decide) (by decide) (by decide) (fun g h => absurd h (by simp [downC])) (by decide) (.slice none 0 0) (.slice none 0 0) (.slice none 0 0) w ⟨RowG.nil w, RowN.nil w, RowI.nil w⟩
  rw [down_built] at h
  exact h
theorem parse_one (w : World) : Calls Try.prog 17 #[.string ⟨#[0, 3, 0, 17, 0, 0, 0, 1, 0, 0, 0, 0, 0, 0, 0, 0, 120]⟩] w fun e w' =>
    ∃ A1 k1 A2 k2 A3 k3, e = .returned (.tuple #[.agg #[.int .i64 0, .int .i64 3, .int .u32 1, .int .u32 0, .int .u32 0, .int .u32 0, .int .u16 0, .int .u16 0, .int .u16 0, .int .u16 0, .slice A1 0 k1, .slice A2 0 k2, .slice A3 0 k3, .string ⟨#[120]⟩], .int .i64 17, .int .i64 0]) ∧ Parts w' oneC (.slice A1 0 k1) (.slice A2 0 k2) (.slice A3 0 k3) ∧ Below w.heap.size w w' := by
  have h := ckparse_any ⟨#[0, 3, 0, 17, 0, 0, 0, 1, 0, 0, 0, 0, 0, 0, 0, 0, 120]⟩ (by decide) w
  rw [one_read] at h
  refine h.mono ?_
  rintro e w' ⟨g, d, it, he, hp, hb⟩
  obtain ⟨⟨A1, k1, rfl⟩, ⟨A2, k2, rfl⟩, ⟨A3, k3, rfl⟩⟩ := hp.slices
  exact ⟨A1, k1, A2, k2, A3, k3, he, hp, hb⟩
theorem parse_ack (w : World) : Calls Try.prog 17 #[.string ⟨#[11, 0, 0, 4]⟩] w fun e w' =>
    ∃ A1 k1 A2 k2 A3 k3, e = .returned (.tuple #[.agg #[.int .i64 11, .int .i64 0, .int .u32 0, .int .u32 0, .int .u32 0, .int .u32 0, .int .u16 0, .int .u16 0, .int .u16 0, .int .u16 0, .slice A1 0 k1, .slice A2 0 k2, .slice A3 0 k3, .string ⟨#[]⟩], .int .i64 4, .int .i64 0]) ∧ Below w.heap.size w w' := by
  have h := ckparse_any ⟨#[11, 0, 0, 4]⟩ (by decide) w
  rw [ack_read] at h
  refine h.mono ?_
  rintro e w' ⟨g, d, it, he, hp, hb⟩
  obtain ⟨⟨A1, k1, rfl⟩, ⟨A2, k2, rfl⟩, ⟨A3, k3, rfl⟩⟩ := hp.slices
  exact ⟨A1, k1, A2, k2, A3, k3, he, hb⟩
theorem same_one (A1 A2 A3 : Option Addr) (k1 k2 k3 : Nat) (w : World) (hp : Parts w oneC (.slice A1 0 k1) (.slice A2 0 k2) (.slice A3 0 k3)) :
    Calls Try.prog 18 #[.agg #[.int .i64 0, .int .i64 3, .int .u32 1, .int .u32 0, .int .u32 0, .int .u32 0, .int .u16 0, .int .u16 0, .int .u16 0, .int .u16 0, .slice A1 0 k1, .slice A2 0 k2, .slice A3 0 k3, .string ⟨#[120]⟩], .agg #[.int .i64 0, .int .i64 3, .int .u32 1, .int .u32 0, .int .u32 0, .int .u32 0, .int .u16 0, .int .u16 0, .int .u16 0, .int .u16 0, .slice none 0 0, .slice none 0 0, .slice none 0 0, .string ⟨#[120]⟩]] w fun e w' =>
    e = .returned (.bool true) ∧ Below w.heap.size w w' := by
  have h := same_any oneC oneC (fun _ => rfl) (fun _ => rfl) (fun _ => rfl) (by decide) (by decide) (by decide) (by decide) (.slice A1 0 k1) (.slice A2 0 k2) (.slice A3 0 k3) (.slice none 0 0) (.slice none 0 0) (.slice none 0 0) w hp ⟨RowG.nil w, RowN.nil w, RowI.nil w⟩
  rw [sameB_self] at h
  exact h
theorem one_cells (A1 A2 A3 : Option Addr) (k1 k2 k3 : Nat) : (#[.int .i64 0, .int .i64 3, .int .u32 1, .int .u32 0, .int .u32 0, .int .u32 0, .int .u16 0, .int .u16 0, .int .u16 0, .int .u16 0, .slice A1 0 k1, .slice A2 0 k2, .slice A3 0 k3, .string ⟨#[120]⟩] : Array Value).all (·.oneCell') = true := by kernel_rfl
theorem ack_cells (A1 A2 A3 : Option Addr) (k1 k2 k3 : Nat) : (#[.int .i64 11, .int .i64 0, .int .u32 0, .int .u32 0, .int .u32 0, .int .u32 0, .int .u16 0, .int .u16 0, .int .u16 0, .int .u16 0, .slice A1 0 k1, .slice A2 0 k2, .slice A3 0 k3, .string ⟨#[]⟩] : Array Value).all (·.oneCell') = true := by kernel_rfl
set_option maxHeartbeats 8000000 in
theorem shown_any (w : World) : Calls Try.prog 8 #[] w fun e w' => e = .returned (.bool true) ∧ Below w.heap.size w w' := by
  have HCS := Lib.hid ckSize
  have HB := Lib.hid (Below.refl w.heap.size w)
  have HONE := Lib.hid one_cells
  have HONE' := Lib.hid ack_cells
  go_enter Try.func8, Try.ntmps8
  go_wp2_with (first
    | (go_at_call 10; ((with_reducible refine (build_down _).mono ?_); rintro e w1 ⟨rfl, hb1⟩); replace HB := Lib.hid (HB.out.trans (hb1.mono HB.out.size)); clear hb1)
    | (go_at_call 17; ((with_reducible refine (parse_one _).mono ?_); rintro e w1 ⟨A1, k1, A2, k2, A3, k3, rfl, hp1, hb1⟩); replace HB := Lib.hid (HB.out.trans (hb1.mono HB.out.size)); (have HP := Lib.hid hp1); clear hp1 hb1))
  replace HB := Lib.hid (HB.out.alloc HB.out.size (.cells #[.int .i64 0, .int .i64 3, .int .u32 1, .int .u32 0, .int .u32 0, .int .u32 0, .int .u16 0, .int .u16 0, .int .u16 0, .int .u16 0, .slice A1 0 k1, .slice A2 0 k2, .slice A3 0 k3, .string ⟨#[120]⟩] 28))
  have HX := Lib.hid (heap_alloc_new w1 (.cells #[.int .i64 0, .int .i64 3, .int .u32 1, .int .u32 0, .int .u32 0, .int .u32 0, .int .u16 0, .int .u16 0, .int .u16 0, .int .u16 0, .slice A1 0 k1, .slice A2 0 k2, .slice A3 0 k3, .string ⟨#[120]⟩] 28))
  replace HP := Lib.hid (HP.out.below ((Below.refl _ w1).alloc (Nat.le_refl _) (.cells #[.int .i64 0, .int .i64 3, .int .u32 1, .int .u32 0, .int .u32 0, .int .u32 0, .int .u16 0, .int .u16 0, .int .u16 0, .int .u16 0, .slice A1 0 k1, .slice A2 0 k2, .slice A3 0 k3, .string ⟨#[120]⟩] 28)))
  refine (parse_ack _).mono ?_
  rintro e w2 ⟨B1, l1, B2, l2, B3, l3, rfl, hb2⟩
  replace HB := Lib.hid (HB.out.trans (hb2.mono HB.out.size))
  replace HP := Lib.hid (HP.out.below hb2)
  have hx := (hb2.block _ (Array.getElem?_eq_some_iff.1 HX.out).1).trans HX.out
  have hlt : w1.heap.size < w2.heap.size := (Array.getElem?_eq_some_iff.1 hx).1
  have c0 : w2.cell? ⟨w1.heap.size, 0, none⟩ = some (.int .i64 0) := by rw [cell_in hx]; rfl
  have c1 : w2.cell? ⟨w1.heap.size, 1, none⟩ = some (.int .i64 3) := by rw [cell_in hx]; rfl
  have c2 : w2.cell? ⟨w1.heap.size, 2, none⟩ = some (.int .u32 1) := by rw [cell_in hx]; rfl
  have c3 : w2.cell? ⟨w1.heap.size, 3, none⟩ = some (.int .u32 0) := by rw [cell_in hx]; rfl
  have c4 : w2.cell? ⟨w1.heap.size, 4, none⟩ = some (.int .u32 0) := by rw [cell_in hx]; rfl
  have c5 : w2.cell? ⟨w1.heap.size, 5, none⟩ = some (.int .u32 0) := by rw [cell_in hx]; rfl
  have c6 : w2.cell? ⟨w1.heap.size, 6, none⟩ = some (.int .u16 0) := by rw [cell_in hx]; rfl
  have c7 : w2.cell? ⟨w1.heap.size, 7, none⟩ = some (.int .u16 0) := by rw [cell_in hx]; rfl
  have c8 : w2.cell? ⟨w1.heap.size, 8, none⟩ = some (.int .u16 0) := by rw [cell_in hx]; rfl
  have c9 : w2.cell? ⟨w1.heap.size, 9, none⟩ = some (.int .u16 0) := by rw [cell_in hx]; rfl
  have c10 : w2.cell? ⟨w1.heap.size, 10, none⟩ = some (.slice A1 0 k1) := by rw [cell_in hx]; rfl
  have c11 : w2.cell? ⟨w1.heap.size, 11, none⟩ = some (.slice A2 0 k2) := by rw [cell_in hx]; rfl
  have c12 : w2.cell? ⟨w1.heap.size, 12, none⟩ = some (.slice A3 0 k3) := by rw [cell_in hx]; rfl
  have c13 : w2.cell? ⟨w1.heap.size, 13, none⟩ = some (.string ⟨#[120]⟩) := by rw [cell_in hx]; rfl
  have HP2 := Lib.hid (HP.out.below ((Below.refl _ w2).alloc (Nat.le_refl _) (.cells #[.int .i64 11, .int .i64 0, .int .u32 0, .int .u32 0, .int .u32 0, .int .u32 0, .int .u16 0, .int .u16 0, .int .u16 0, .int .u16 0, .slice B1 0 l1, .slice B2 0 l2, .slice B3 0 l3, .string ⟨#[]⟩] 28)))
  have HB2 := Lib.hid (HB.out.alloc HB.out.size (.cells #[.int .i64 11, .int .i64 0, .int .u32 0, .int .u32 0, .int .u32 0, .int .u32 0, .int .u16 0, .int .u16 0, .int .u16 0, .int .u16 0, .slice B1 0 l1, .slice B2 0 l2, .slice B3 0 l3, .string ⟨#[]⟩] 28))
  have HX2 := Lib.hid (heap_alloc_new w2 (.cells #[.int .i64 11, .int .i64 0, .int .u32 0, .int .u32 0, .int .u32 0, .int .u32 0, .int .u16 0, .int .u16 0, .int .u16 0, .int .u16 0, .slice B1 0 l1, .slice B2 0 l2, .slice B3 0 l3, .string ⟨#[]⟩] 28))
  clear hx hb2 HX HP HB
  go_wp2_with fail
  refine (same_one _ _ _ _ _ _ _ HP2.out).mono ?_
  rintro e w3 ⟨rfl, hb3⟩
  have hx3 := (hb3.block _ (Array.getElem?_eq_some_iff.1 HX2.out).1).trans HX2.out
  have d0 : w3.cell? ⟨w2.heap.size, 0, none⟩ = some (.int .i64 11) := by rw [cell_in hx3]; rfl
  replace HB2 := Lib.hid (HB2.out.trans (hb3.mono HB2.out.size))
  clear hx3 hb3 c0 c1 c2 c3 c4 c5 c6 c7 c8 c9 c10 c11 c12 c13
  go_wp2_with fail
  go_ret
  exact ⟨rfl, HB2.out⟩
end Go.Proofs.Ytjdnlolhcjalmaa
