/-
  The chapter's examples, plain: three Datas of 1000 bytes are three packets. The chapter's examples: a contract.
-/
import Derived.Test.YtlbaockipeojhaaGreatBundle
import Derived.Test.YtlbaockipeojhaaGreatPparse
import Derived.Laws.OwnMore
section
namespace Go.Proofs.YtlbaockipeojhaaGreat
open Go.RowKit
set_option linter.unusedVariables false
set_option linter.unusedSimpArgs false
set_option maxRecDepth 100000

def dC : Ck := ⟨0, 3, 0, 0, 0, 0, 0, 0, 0, 0, [], [], [], zerosB 1000⟩
theorem dC_wf : WfC dC := by
  constructor <;> (first | decide | (intro x hx; simp [dC] at hx))
theorem dC_fit : FitC dC := by
  refine ⟨dC_wf, by decide, by decide, by decide, fun x hx => by simp [dC] at hx, ?_⟩
  show (zerosB 1000).size ≤ 1000000
  rw [zerosB_size]
  omega
theorem shown_three : (bundleP 1 2 3 1500 [dC, dC, dC]).length = 3 := by decide +kernel
end Go.Proofs.YtlbaockipeojhaaGreat
end
section
namespace Go.Proofs.YtlbaockipeojhaaGreat
open Go.RowKit
set_option linter.unusedVariables false
set_option linter.unusedSimpArgs false
set_option maxRecDepth 100000

theorem made_zeros : (madeCells (Value.int .u8 0).cells (1000 * 1)).toList = (zerosL 1000).map enc8 := by
  show (madeCells #[Value.int .u8 0] 1000).toList = _
  rw [toList_madeCells_one]
  unfold zerosL
  rw [List.map_replicate]
  rfl
theorem make_thousand (w : World) : ∃ w', (Instr.makeSlice 47 (.int .i64 1000) (.int .i64 1000)).run Tryz.prog w = .ok (.slice (some ⟨w.heap.size, 0, none⟩) 1000 1000) w' ∧ (convert 47 9 (.slice (some ⟨w.heap.size, 0, none⟩) 1000 1000)).run Tryz.prog w' = .ok (.string (zerosB 1000)) w' ∧ Below w.heap.size w w' := by
  obtain ⟨i0, hi0, hz0, hz1, hz2⟩ := info_parts info8
  obtain ⟨w', h1, h2, h3⟩ := run_make_full (P := Tryz.prog) w w.heap.size 47 5 i0 (.int .u8 0) 1 Tryz.underlying47 hi0 hz0 hz1 .i64 .i64 1000 (by rw [hz2]; omega) (by unfold maxLen; omega) (Nat.le_refl _)
  rw [made_zeros] at h2
  exact ⟨w', h1, text_own h2, (Below.refl _ w).grown h3 (Nat.le_refl _) fun k hk => by cases hk⟩
def threeV : List Cv := [⟨dC, .slice none 0 0, .slice none 0 0, .slice none 0 0⟩, ⟨dC, .slice none 0 0, .slice none 0 0, .slice none 0 0⟩, ⟨dC, .slice none 0 0, .slice none 0 0, .slice none 0 0⟩]
theorem three_flat : flatK threeV = ([.int .i64 0, .int .i64 3, .int .u32 0, .int .u32 0, .int .u32 0, .int .u32 0, .int .u16 0, .int .u16 0, .int .u16 0, .int .u16 0, .slice none 0 0, .slice none 0 0, .slice none 0 0, .string (zerosB 1000)] ++ [.int .i64 0, .int .i64 3, .int .u32 0, .int .u32 0, .int .u32 0, .int .u32 0, .int .u16 0, .int .u16 0, .int .u16 0, .int .u16 0, .slice none 0 0, .slice none 0 0, .slice none 0 0, .string (zerosB 1000)] ++ [.int .i64 0, .int .i64 3, .int .u32 0, .int .u32 0, .int .u32 0, .int .u32 0, .int .u16 0, .int .u16 0, .int .u16 0, .int .u16 0, .slice none 0 0, .slice none 0 0, .slice none 0 0, .string (zerosB 1000)] : List Value) := by
  rfl
theorem three_in (w : World) (W : World) (hb : w.alloc (.cells ([.int .i64 0, .int .i64 3, .int .u32 0, .int .u32 0, .int .u32 0, .int .u32 0, .int .u16 0, .int .u16 0, .int .u16 0, .int .u16 0, .slice none 0 0, .slice none 0 0, .slice none 0 0, .string (zerosB 1000)] ++ [.int .i64 0, .int .i64 3, .int .u32 0, .int .u32 0, .int .u32 0, .int .u32 0, .int .u16 0, .int .u16 0, .int .u16 0, .int .u16 0, .slice none 0 0, .slice none 0 0, .slice none 0 0, .string (zerosB 1000)] ++ [.int .i64 0, .int .i64 3, .int .u32 0, .int .u32 0, .int .u32 0, .int .u32 0, .int .u16 0, .int .u16 0, .int .u16 0, .int .u16 0, .slice none 0 0, .slice none 0 0, .slice none 0 0, .string (zerosB 1000)] : List Value).toArray 52) = W) : Rk W (.slice (some ⟨w.heap.size, 0, none⟩) 3 3) threeV := by
  subst hb
  refine ⟨?_, ?_⟩
  · have := OwnG.full (w := w) (B := w.heap.size) (Nat.le_refl _) 52 14 (flatK threeV) 3 (by unfold maxLen; omega) (by rw [flatK_length]; rfl)
    rw [three_flat] at this
    exact rowK_of_own (by rw [three_flat]; exact this)
  · intro x hx
    have : x = ⟨dC, .slice none 0 0, .slice none 0 0, .slice none 0 0⟩ := by
      simp only [threeV, List.mem_cons, List.not_mem_nil, or_false] at hx
      rcases hx with h | h | h <;> exact h
    subst this
    exact ⟨RowG.nil _, RowN.nil _, RowI.nil _⟩
theorem three_fit : ∀ x ∈ threeV, FitC x.c := by
  intro x hx
  simp only [threeV, List.mem_cons, List.not_mem_nil, or_false] at hx
  rcases hx with h | h | h <;> (rw [h]; exact dC_fit)
theorem eleven : parseP ⟨#[49, 50, 51, 52, 53, 54, 55, 56, 57, 48, 49]⟩ = (zeroP, 3) := by
  have h : checked ⟨#[49, 50, 51, 52, 53, 54, 55, 56, 57, 48, 49]⟩ = 3 := by unfold checked; rw [if_pos (by decide)]
  rw [parseP_2 (by decide) (by rw [h]; decide), h]
  rfl
theorem pk_eleven (w : World) : Calls Tryz.prog 14 #[.string ⟨#[49, 50, 51, 52, 53, 54, 55, 56, 57, 48, 49]⟩] w fun e w' => ∃ A k, e = .returned (.tuple #[.agg #[.int .u16 0, .int .u16 0, .int .u32 0, .slice A 0 k], .int .i64 3]) ∧ Below w.heap.size w w' := by
  have H := pparse_any ⟨#[49, 50, 51, 52, 53, 54, 55, 56, 57, 48, 49]⟩ (by decide) w
  rw [eleven] at H
  refine H.mono ?_
  rintro e w' ⟨V, lv, he, hr, hl, hb⟩
  have hcl : (ckV lv).length = lv.length := by simp [ckV]
  have h0 : lv = [] := List.eq_nil_of_length_eq_zero (by rw [← hcl, hl]; rfl)
  subst h0
  obtain ⟨A, k, rfl, -⟩ := hr.slice
  exact ⟨A, k, he, hb⟩
theorem pk_three (w : World) (A : Addr) (h : Rk w (.slice (some A) 3 3) threeV) : Calls Tryz.prog 17 #[.int .u16 1, .int .u16 2, .int .u32 3, .slice (some A) 3 3, .int .i64 1500] w fun e w' => ∃ B k, e = .returned (.slice B 3 k) ∧ Below w.heap.size w w' := by
  have H := bundle_any 1 2 3 threeV (by decide) (.slice (some A) 3 3) 1500 (by decide) (by decide) w h three_fit
  refine H.mono ?_
  rintro e w' ⟨V, ps, he, hr, hl, hb⟩
  have h3 : ps.length = 3 := by
    have h := congrArg List.length hl
    rw [show ckV threeV = [dC, dC, dC] from rfl, shown_three] at h
    simpa [ckP] using h
  obtain ⟨B, k, rfl, -⟩ := hr.row
  rw [h3] at he
  exact ⟨B, k, he, hb⟩
set_option maxHeartbeats 4000000 in
theorem shown_any (w : World) : Calls Tryz.prog 5 #[] w fun e w' => e = .returned (.bool true) ∧ Below w.heap.size w w' := by
  obtain ⟨w1, h1, h2, h3⟩ := make_thousand w
  have HM := Lib.hid (fun W W' h => three_in W W' h)
  have HP3 := Lib.hid pk_three
  have HAL := Lib.hid (fun k W => alone_any k W)
  generalize hz : zerosB 1000 = z at *
  have HB1 := Lib.hid h3
  clear h3
  go_enter Tryz.func5, Tryz.ntmps5
  go_wp2_with fail
  have hrk := HM.out (w1.alloc (.cells (#[.int .i64 0, .int .i64 3, .int .u32 0, .int .u32 0, .int .u32 0, .int .u32 0, .int .u16 0, .int .u16 0, .int .u16 0, .int .u16 0, .slice none 0 0, .slice none 0 0, .slice none 0 0, .string z] : Array Value) 52)) _ rfl
  rw [World.size_alloc] at hrk
  refine (HP3.out _ _ hrk).mono ?_
  rintro _ w2 ⟨B, k, rfl, hb2⟩
  have HB2 := Lib.hid (((HB1.out.alloc HB1.out.size (.cells (#[.int .i64 0, .int .i64 3, .int .u32 0, .int .u32 0, .int .u32 0, .int .u32 0, .int .u16 0, .int .u16 0, .int .u16 0, .int .u16 0, .slice none 0 0, .slice none 0 0, .slice none 0 0, .string z] : Array Value) 52)).alloc (by rw [World.size_alloc]; have := HB1.out.size; omega) _).trans (hb2.mono (by simp only [World.size_alloc]; have := HB1.out.size; omega)))
  clear hrk hb2 HM HP3 h1 h2
  go_wp2_with fail
  refine (pk_eleven _).mono ?_
  rintro _ w3 ⟨A, k2, rfl, hb3⟩
  have HB3 := Lib.hid ((HB2.out.trans (hb3.mono HB2.out.size)).alloc (Nat.le_trans HB2.out.size hb3.size) (.cells #[.int .u16 0, .int .u16 0, .int .u32 0, .slice A 0 k2] 26))
  clear hb3
  have a1 : aloneB 1 = true := by decide
  have a0 : aloneB 0 = false := by decide
  go_wp2_with fail
  refine (HAL.out 1 _).mono ?_
  rintro _ w4 ⟨rfl, rfl⟩
  rw [a1]
  go_wp2_with fail
  refine (HAL.out 0 _).mono ?_
  rintro _ w5 ⟨rfl, rfl⟩
  rw [a0]
  go_wp2_with fail
  go_ret
  exact ⟨rfl, HB3.out⟩
end Go.Proofs.YtlbaockipeojhaaGreat
end
