/-
  The places at which a row's items begin, one behind the other, and what is told of them: plain facts.
-/
import Derived.Test.YtjdnlolhcjalmaaFirst
namespace Go.Proofs.Ytjdnlolhcjalmaa
set_option linter.unusedVariables false

/-- Where the k-th item begins. -/
def placeAt (L : List UInt8) : Nat → Nat
  | 0 => 0
  | k + 1 => placeAt L k + sizeL (L.drop (placeAt L k))
def placesL (L : List UInt8) (k : Nat) : List Nat := (List.range k).map (placeAt L)
theorem placesL_zero (L : List UInt8) : placesL L 0 = [] := rfl
theorem placesL_succ (L : List UInt8) (k : Nat) : placesL L (k + 1) = placesL L k ++ [placeAt L k] := by simp [placesL, List.range_succ]
theorem placesL_length (L : List UInt8) (k : Nat) : (placesL L k).length = k := by simp [placesL]
/-- The first k items are right. -/
def Good (L : List UInt8) (k : Nat) : Prop := ∀ j, j < k → placeAt L j < L.length ∧ errL (L.drop (placeAt L j)) = 0
theorem Good.zero (L : List UInt8) : Good L 0 := fun j h => absurd h (Nat.not_lt_zero _)
theorem Good.succ {L : List UInt8} {k : Nat} (h : Good L k) (h1 : placeAt L k < L.length) (h2 : errL (L.drop (placeAt L k)) = 0) : Good L (k + 1) := fun j hj => by
  by_cases e : j = k
  · subst e; exact ⟨h1, h2⟩
  · exact h j (by omega)
theorem Good.le {L : List UInt8} {k : Nat} (h : Good L k) : 4 * k ≤ placeAt L k := by
  induction k with
  | zero => exact Nat.zero_le _
  | succ k ih =>
    have h1 := ih fun j hj => h j (by omega)
    have h2 := sizeL_pos (h k (by omega)).2
    show 4 * (k + 1) ≤ placeAt L k + sizeL (L.drop (placeAt L k))
    omega
theorem sizeL_le (L : List UInt8) (h : errL L = 0) : sizeL L ≤ L.length + 3 := by
  have := errL_ok h
  have hp := padN_lt (num L 2)
  unfold sizeL
  omega
theorem Good.bound {L : List UInt8} {k : Nat} (h : Good L k) : placeAt L k ≤ L.length + 3 := by
  cases k with
  | zero => exact Nat.zero_le _
  | succ k =>
    obtain ⟨h1, h2⟩ := h k (by omega)
    have h3 := sizeL_le _ h2
    rw [List.length_drop] at h3
    show placeAt L k + sizeL (L.drop (placeAt L k)) ≤ _
    omega
def itemsAt (L : List UInt8) (ps : List Nat) : List Item := ps.map fun p => itemL (L.drop p)
theorem itemsAt_snoc (L : List UInt8) (ps : List Nat) (p : Nat) : itemsAt L (ps ++ [p]) = itemsAt L ps ++ [itemL (L.drop p)] := by simp [itemsAt]
theorem good_glue {L : List UInt8} {k : Nat} (h : Good L k) : parseL L = glue (placeAt L k) (itemsAt L (placesL L k)) (parseL (L.drop (placeAt L k))) := by
  induction k with
  | zero => exact (glue_zero L).symm
  | succ k ih =>
    obtain ⟨h1, h2⟩ := h k (by omega)
    rw [ih fun j hj => h j (by omega), glue_step L _ _ h1 h2, placesL_succ, itemsAt_snoc]
    rfl
theorem good_end {L : List UInt8} {k : Nat} (h : Good L k) (he : L.length ≤ placeAt L k) : parseL L = (itemsAt L (placesL L k), 0, 0) := by
  rw [good_glue h, glue_end L _ _ he]
theorem good_err {L : List UInt8} {k : Nat} (h : Good L k) (h1 : placeAt L k < L.length) (he : errL (L.drop (placeAt L k)) ≠ 0) : parseL L = ([], placeAt L k, errL (L.drop (placeAt L k))) := by
  rw [good_glue h, glue_err L _ _ h1 he]
theorem firstI_ok {L : List UInt8} (h : errL L = 0) : firstI L = itemL L := by unfold firstI; rw [if_pos h]
theorem sizeV_item {L : List UInt8} (h : errL L = 0) : sizeV (itemL L).2.size = sizeL L := by
  obtain ⟨h0, h1, h2, h3, _⟩ := errL_ok h
  have hv : (itemL L).2.size = num L 2 - 4 := by show (valL L).size = _; simp [valL, ByteArray.size]; omega
  unfold sizeV sizeL
  rw [hv, show 4 + (num L 2 - 4) = num L 2 by omega]
theorem item_small {L : List UInt8} (h : errL L = 0) : (itemL L).2.size ≤ 1400 := by
  obtain ⟨h0, h1, h2, h3, _⟩ := errL_ok h
  have hv : (itemL L).2.size = num L 2 - 4 := by show (valL L).size = _; simp [valL, ByteArray.size]; omega
  omega
/-- What is told at the end: all items, or the wrong one's place. -/
def Ends (L : List UInt8) (ys : List Nat) : Prop := ∃ k, Good L k ∧ ((ys = placesL L k ∧ L.length ≤ placeAt L k) ∨ (ys = placesL L (k + 1) ∧ placeAt L k < L.length ∧ errL (L.drop (placeAt L k)) ≠ 0))
/-- What was told till it was enough. -/
def Begins (L : List UInt8) (ys : List Nat) : Prop := ∃ k, Good L k ∧ ys = placesL L (k + 1) ∧ placeAt L k < L.length
theorem ends_all {L : List UInt8} {ys : List Nat} (h : Ends L ys) (hg : ∀ p ∈ ys, errL (L.drop p) = 0) : parseL L = (itemsAt L ys, 0, 0) := by
  obtain ⟨k, hk, ⟨rfl, he⟩ | ⟨rfl, h1, he⟩⟩ := h
  · exact good_end hk he
  · rw [placesL_succ] at hg
    exact absurd (hg _ (by simp)) he
theorem begins_err {L : List UInt8} {ys : List Nat} {p : Nat} (h : Begins L (ys ++ [p])) (he : errL (L.drop p) ≠ 0) : parseL L = ([], p, errL (L.drop p)) := by
  obtain ⟨k, hk, e, h1⟩ := h
  rw [placesL_succ] at e
  have e1 := (List.append_inj' e rfl).2
  obtain rfl : p = placeAt L k := by simpa using e1
  exact good_err hk h1 he
end Go.Proofs.Ytjdnlolhcjalmaa
