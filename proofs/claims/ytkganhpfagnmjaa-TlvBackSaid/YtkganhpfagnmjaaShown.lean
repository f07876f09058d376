/-
  The chapter's examples of layer 6: the program answers them as the document says.
-/
import Derived.Test.YtkganhpfagnmjaaParse
import Derived.Test.YtkganhpfagnmjaaBuild
namespace Go.Proofs.Ytkganhpfagnmjaa
open Go.RowKit
set_option linter.unusedVariables false

def abcItems : List Item := [(1, ⟨#[97, 98, 99]⟩), (2, ⟨#[]⟩)]
theorem abc_built : buildB abcItems = (⟨#[0, 1, 0, 7, 97, 98, 99, 0, 0, 2, 0, 4]⟩, 0) := by decide
theorem wrong_parse {s : ByteArray} (h : s.size ≤ 4000) (h0 : s.data.toList ≠ []) (he : errL s.data.toList = 2) : parseB s = ([], 0, 2) := by
  unfold parseB
  rw [if_neg (by omega), parseL_err h0 (by omega), he]
theorem parse_one (w : World) : Calls Try.prog 20 #[.string ⟨#[0, 1, 0, 3]⟩] w fun e w' => ∃ v, e = .returned (.tuple #[v, .int .i64 0, .int .i64 2]) ∧ Below w.heap.size w w' := by
  have h := parse_any ⟨#[0, 1, 0, 3]⟩ (by decide) w
  rw [wrong_parse (by decide) (by decide) (by decide)] at h
  exact h.mono fun e w' ⟨v, he, _, hb⟩ => ⟨v, he, hb⟩
theorem parse_two (w : World) : Calls Try.prog 20 #[.string ⟨#[0, 1, 0, 5, 120, 1]⟩] w fun e w' => ∃ v, e = .returned (.tuple #[v, .int .i64 0, .int .i64 2]) ∧ Below w.heap.size w w' := by
  have h := parse_any ⟨#[0, 1, 0, 5, 120, 1]⟩ (by decide) w
  rw [wrong_parse (by decide) (by decide) (by decide)] at h
  exact h.mono fun e w' ⟨v, he, _, hb⟩ => ⟨v, he, hb⟩
theorem abc_row (w : World) : RowI (w.alloc (.cells #[.int .i64 1, .string ⟨#[97, 98, 99]⟩, .int .i64 2, .string ⟨#[]⟩] 47)) (.slice (some ⟨w.heap.size, 0, none⟩) 2 2) abcItems :=
  rowI_of_own (OwnG.full (B := w.heap.size) (Nat.le_refl _) 47 2 (flatI abcItems) 2 (by decide) rfl)
theorem build_abc (w : World) : Calls Try.prog 11 #[.slice (some ⟨w.heap.size, 0, none⟩) 2 2] (w.alloc (.cells #[.int .i64 1, .string ⟨#[97, 98, 99]⟩, .int .i64 2, .string ⟨#[]⟩] 47)) fun e w' =>
    e = .returned (.tuple #[.string ⟨#[0, 1, 0, 7, 97, 98, 99, 0, 0, 2, 0, 4]⟩, .int .i64 0]) ∧ Below w.heap.size w w' := by
  have h := build_any abcItems (by decide) (by intro x hx; simp [abcItems] at hx; rcases hx with rfl | rfl <;> decide) _ _ (abc_row w)
  rw [abc_built] at h
  exact h.mono fun e w' ⟨he, hb⟩ => ⟨he, ((Below.refl _ _).alloc (Nat.le_refl _) _).trans (hb.mono (by simp))⟩
set_option maxHeartbeats 1000000 in
theorem shown_any (w : World) : Calls Try.prog 9 #[] w fun e w' => e = .returned (.bool true) ∧ Below w.heap.size w w' := by
  have HB := Lib.hid (Below.refl w.heap.size w)
  go_enter Try.func9, Try.ntmps9
  go_wp2_with (first
    | (go_at_call 11; ((with_reducible refine (build_abc _).mono ?_); rintro e w1 ⟨rfl, hb1⟩); replace HB := Lib.hid (HB.out.trans (hb1.mono HB.out.size)); clear hb1)
    | (go_at_call 20; ((with_reducible refine (parse_one _).mono ?_); rintro e w1 ⟨v1, rfl, hb1⟩); replace HB := Lib.hid (HB.out.trans (hb1.mono HB.out.size)); clear hb1)
    | (go_at_call 20; ((with_reducible refine (parse_two _).mono ?_); rintro e w1 ⟨v2, rfl, hb1⟩); replace HB := Lib.hid (HB.out.trans (hb1.mono HB.out.size)); clear hb1))
  go_ret
  exact ⟨rfl, HB.out⟩
end Go.Proofs.Ytkganhpfagnmjaa
