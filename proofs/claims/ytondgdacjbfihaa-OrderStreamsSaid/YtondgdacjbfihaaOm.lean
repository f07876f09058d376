/-
  What takeOut seeks: plain.
-/
import Derived.Test.YtondgdacjbfihaaOl
namespace Go.Proofs.Ytondgdacjbfihaa
open Go.RowKit
set_option linter.unusedVariables false
set_option linter.unusedSimpArgs false

/-- Where the message of a stream and a number waits: the first one, or -1. -/
def idxS (wt : List Mg) (s : Int) (n : UInt16) : Int := idxP (fun x => ofB s x && decide (x.ss = n)) wt
theorem far16 (a nx : UInt16) (far : Nat) (h : far < 65536) : (a - nx).toNat = far ↔ a = nx + UInt16.ofNat far := by
  constructor
  · intro e
    rw [← e, UInt16.ofNat_toNat, UInt16.add_comm, UInt16.sub_add_cancel]
  · intro e
    rw [e, UInt16.add_comm, UInt16.add_sub_cancel, UInt16.toNat_ofNat', Nat.mod_eq_of_lt (by omega)]
theorem plAt_idx (wt : List Mg) (s : Int) (nx : UInt16) (far : Nat) (h : far < 65536) : plAt wt s nx far = idxS wt s (nx + UInt16.ofNat far) := by
  unfold plAt idxS
  congr 1
  funext x
  congr 1
  rw [Bool.eq_iff_iff, decide_eq_true_iff, decide_eq_true_iff]
  exact far16 x.ss nx far h
theorem idxS_no {wt : List Mg} {s : Int} {n : UInt16} (h : idxS wt s n = -1) : ∀ x ∈ wt, ofB s x = true → x.ss ≠ n := by
  unfold idxS idxP findL at h
  cases hq : wt.findIdx? (fun x => ofB s x && decide (x.ss = n)) with
  | some i => rw [hq] at h; simp only at h; omega
  | none =>
    rw [List.findIdx?_eq_none_iff] at hq
    intro x hx ho e
    have := hq x hx
    rw [ho, e] at this
    simp at this
theorem idxS_yes {wt : List Mg} {s : Int} {n : UInt16} (h : idxS wt s n ≠ -1) : ∃ i : Nat, idxS wt s n = (i : Int) ∧ ∃ hi : i < wt.length, ofB s wt[i] = true ∧ wt[i].ss = n := by
  unfold idxS idxP findL at *
  cases hq : wt.findIdx? (fun x => ofB s x && decide (x.ss = n)) with
  | none => rw [hq] at h; exact absurd rfl h
  | some i =>
    obtain ⟨h1, h2, _⟩ := List.findIdx?_eq_some_iff_getElem.1 hq
    rw [Bool.and_eq_true, decide_eq_true_iff] at h2
    exact ⟨i, rfl, h1, h2.1, h2.2⟩
end Go.Proofs.Ytondgdacjbfihaa
