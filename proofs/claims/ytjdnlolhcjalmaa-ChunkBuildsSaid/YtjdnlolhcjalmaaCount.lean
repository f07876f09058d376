/-
  How many items are read of a text, and where the wrong one may begin: plain facts.
-/
import Derived.Test.YtjdnlolhcjalmaaItems
namespace Go.Proofs.Ytjdnlolhcjalmaa
set_option linter.unusedVariables false

theorem count_le : ∀ (n : Nat) (L : List UInt8), L.length ≤ n → (parseL L).1.length * 4 ≤ L.length + 3 := by
  intro n
  induction n with
  | zero => intro L hL; have : L = [] := List.eq_nil_of_length_eq_zero (by omega); subst this; rw [parseL_nil]; simp
  | succ n ih =>
    intro L hL
    by_cases h0 : L = []
    · subst h0; rw [parseL_nil]; simp
    by_cases he : errL L = 0
    · by_cases hr : (parseL (L.drop (sizeL L))).2.2 = 0
      · rw [parseL_ok h0 he hr]
        have hp := sizeL_pos he
        have hl := List.length_pos_iff.2 h0
        have h1 := ih (L.drop (sizeL L)) (by rw [List.length_drop]; omega)
        rw [List.length_drop] at h1
        have h4 := errL_ok he
        rw [List.length_cons]
        by_cases hs : sizeL L ≤ L.length
        · omega
        · have : L.drop (sizeL L) = [] := List.drop_eq_nil_of_le (by omega)
          rw [this, parseL_nil]
          simp
          omega
      · rw [parseL_later h0 he hr]; simp
    · rw [parseL_err h0 he]; simp
theorem parse_count {s : ByteArray} : (parseB s).1.length * 4 ≤ s.size + 3 := by
  unfold parseB
  split
  · simp
  · rw [size_list s]
    exact count_le _ _ (Nat.le_refl _)
theorem place_le : ∀ (n : Nat) (L : List UInt8), L.length ≤ n → (parseL L).2.1 ≤ L.length := by
  intro n
  induction n with
  | zero => intro L hL; have : L = [] := List.eq_nil_of_length_eq_zero (by omega); subst this; rw [parseL_nil]; simp
  | succ n ih =>
    intro L hL
    by_cases h0 : L = []
    · subst h0; rw [parseL_nil]; simp
    by_cases he : errL L = 0
    · by_cases hr : (parseL (L.drop (sizeL L))).2.2 = 0
      · rw [parseL_ok h0 he hr]; exact Nat.zero_le _
      · rw [parseL_later h0 he hr]
        have hp := sizeL_pos he
        have hl := List.length_pos_iff.2 h0
        have h1 := ih (L.drop (sizeL L)) (by rw [List.length_drop]; omega)
        rw [List.length_drop] at h1
        by_cases hs : sizeL L ≤ L.length
        · dsimp only
          omega
        · have : L.drop (sizeL L) = [] := List.drop_eq_nil_of_le (by omega)
          rw [this, parseL_nil] at hr
          exact absurd rfl hr
    · rw [parseL_err h0 he]; exact Nat.zero_le _
theorem parse_of {s : ByteArray} (h : s.size ≤ 4000) : parseB s = parseL s.data.toList := by unfold parseB; rw [if_neg (by omega)]
theorem err_zero {s : ByteArray} (h : (parseB s).2.2 = 0) (hs : s.size ≤ 4000) : parseB s = ((parseB s).1, 0, 0) := by
  have h1 : (parseB s).2.1 = 0 := by rw [parse_of hs] at h ⊢; exact parse_fst h
  generalize parseB s = r at *
  obtain ⟨a, b, c⟩ := r
  simp_all
theorem err_none {s : ByteArray} (h : (parseB s).2.2 ≠ 0) (hs : s.size ≤ 4000) : parseB s = ([], (parseB s).2.1, (parseB s).2.2) := by
  have h1 : (parseB s).1 = [] := by rw [parse_of hs] at h ⊢; exact parse_none h
  generalize parseB s = r at *
  obtain ⟨a, b, c⟩ := r
  simp_all
end Go.Proofs.Ytjdnlolhcjalmaa
