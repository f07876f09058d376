/-
  What is told newly, and what is left: plain.
-/
import Derived.Test.YtpgdofhnpiefjaaSu
namespace Go.Proofs.Ytpgdofhnpiefjaa
open Go.RowKit
set_option linter.unusedVariables false
set_option linter.unusedSimpArgs false
set_option maxRecDepth 100000

def notA (x : Pc) : Bool := !decide (x.st = 2)
theorem notA_yes {x : Pc} (h : x.st ≠ 2) : notA x = true := by simp [notA, h]
theorem notA_no {x : Pc} (h : x.st = 2) : notA x = false := by simp [notA, h]
/-- What is told of pieces that are gone. -/
theorem goneTo_by (now : Int) {l : List Pc} (k : Nat) : ∀ j, j ≤ l.length → (goneTo now l k j).by' = sumZ notA (l.take j)
  | 0, _ => rfl
  | j + 1, h => by
    rw [goneTo_succ now l k j (by omega), sumZ_take notA l j (by omega), ← goneTo_by now k j (by omega)]
    unfold stepD
    by_cases e : l[j].st = 2
    · rw [if_pos e, notA_no e]; simp
    · rw [if_neg e, notA_yes e, (tellR_frame now _ _).2.2.2.2.1]; simp
/-- Fresh just where bytes were told. -/
structure FrI (r : Rs) : Prop where
  lo : 0 ≤ r.by'
  fr : r.fr = decide (0 < r.by')
theorem FrI.tell {r : Rs} (h : 0 ≤ r.by') (now : Int) {x : Pc} (hx : 1 ≤ x.sz) : FrI (tellR now r x) := by
  obtain ⟨_, _, _, _, t5, _, _, t8⟩ := tellR_frame now r x
  refine ⟨by rw [t5]; omega, ?_⟩
  rw [t8, t5, decide_eq_true (by omega)]
theorem goneTo_fr (now : Int) {l : List Pc} (hok : ∀ x ∈ l, OkPc x) (k : Nat) : ∀ j, j ≤ l.length → FrI (goneTo now l k j)
  | 0, _ => ⟨by simp [goneTo, r0L], by simp [goneTo, r0L]⟩
  | j + 1, h => by
    rw [goneTo_succ now l k j (by omega)]
    have h1 := goneTo_fr now hok k j (by omega)
    unfold stepD
    split
    · exact ⟨h1.lo, h1.fr⟩
    · refine FrI.tell ?_ now (hok _ (List.getElem_mem _)).z1
      exact h1.lo
theorem mkTo_fr (gs : List (Nat × Nat)) (now : Int) {r : Rs} (hr : FrI r) {l : List Pc} (hok : ∀ x ∈ l, OkPc x) : ∀ j, j ≤ l.length → FrI (mkTo gs now r l j).r
  | 0, _ => hr
  | j + 1, h => by
    rw [mkTo_succ gs now r l j (by omega)]
    have h1 := mkTo_fr gs now hr hok j (by omega)
    unfold stepM
    split <;> split
    · exact h1
    · exact FrI.tell h1.lo now (hok _ (List.getElem_mem _)).z1
    · exact h1
    · exact h1
/-- What the pieces that are left make of the count. -/
def btOf (old new : Pc) : Int := if new.st = 2 then 0 else new.sz - (if old.st = 2 then new.sz else 0)
def btTo (l t : List Pc) (k : Nat) : Nat → Int
  | 0 => 0
  | j + 1 => btTo l t k j + btOf l[k + j]! t[j]!
theorem bytes_to {now : Int} {l : List Pc} {gs : List (Nat × Nat)} {k : Nat} (hok : ∀ x ∈ l, OkPc x) (hk : k ≤ l.length) : ∀ j, k + j ≤ l.length → sumZ notA (l.take (k + j)) = btTo l (ackL2 now l gs k) k j + (mkTo gs now (goneTo now l k k) (l.drop k) j).r.by'
  | 0, _ => by
    show sumZ notA (l.take k) = 0 + (goneTo now l k k).by'
    rw [goneTo_by now k k hk]; omega
  | j + 1, h => by
    have ih := bytes_to (now := now) (gs := gs) hok hk j (by omega)
    have hkj : k + j < l.length := by omega
    have hjd : j < (l.drop k).length := by rw [List.length_drop]; omega
    obtain ⟨h1, h2⟩ := ackL2_at (now := now) (gs := gs) hok hk
    have hx := hok _ (List.getElem_mem hkj)
    have e1 : l[k + j]! = l[k + j] := getElem!_pos l _ hkj
    have e2 : (ackL2 now l gs k)[j]! = ackX gs (ackM now l gs k).a j l[k + j] := by
      have h3 := h2 j hkj
      rw [List.getElem!_eq_getElem?_getD, h3]
      rfl
    obtain ⟨x1, x2, x3, x4, x5⟩ := ackX_ok gs (ackM now l gs k).a j hx
    have hd : (l.drop k)[j]'(by simp; omega) = l[k + j] := List.getElem_drop ..
    have hlen := (mkTo_I gs now (goneTo now l k k) (l := l.drop k) (fun x hx => hok x (List.mem_of_mem_drop hx)) j (Nat.le_of_lt hjd)).len
    rw [show k + (j + 1) = k + j + 1 by omega, sumZ_take notA l (k + j) hkj, ih, mkTo_succ gs now _ (l.drop k) j hjd, hd]
    show _ = btTo l (ackL2 now l gs k) k j + btOf l[k + j]! (ackL2 now l gs k)[j]! + _
    rw [e1, e2]
    unfold btOf stepM
    rw [hlen, x3]
    by_cases hh : hitG gs (j + 1) = true
    · rw [if_pos (x5.2 hh), if_pos hh]
      by_cases h2' : l[k + j].st = 2
      · rw [if_pos h2', notA_no h2']; simp
      · rw [if_neg h2', notA_yes h2', (tellR_frame now _ _).2.2.2.2.1]; simp; omega
    · rw [if_neg (fun e => hh (x5.1 e)), if_neg hh]
      by_cases h2' : l[k + j].st = 2
      · rw [if_pos h2', if_pos h2', notA_no h2']; simp
      · rw [if_neg h2', if_neg h2', notA_yes h2']; simp; omega
theorem bytes_all {now : Int} {l : List Pc} {gs : List (Nat × Nat)} {k : Nat} (hok : ∀ x ∈ l, OkPc x) (hk : k ≤ l.length) : sumZ notA l = btTo l (ackL2 now l gs k) k (l.length - k) + (ackM now l gs k).r.by' := by
  have h := bytes_to (now := now) (gs := gs) hok hk (l.length - k) (by omega)
  rw [show k + (l.length - k) = l.length by omega, List.take_length] at h
  exact h
theorem fresh_all {now : Int} {l : List Pc} {gs : List (Nat × Nat)} {k : Nat} (hok : ∀ x ∈ l, OkPc x) (hk : k ≤ l.length) : FrI (ackM now l gs k).r :=
  mkTo_fr gs now (goneTo_fr now hok k k hk) (fun x hx => hok x (List.mem_of_mem_drop hx)) _ (by simp)
theorem btTo_bound {l t : List Pc} {k : Nat} (ht : ∀ x ∈ t, OkPc x) : ∀ j, j ≤ t.length → -(1500 * (j : Int)) ≤ btTo l t k j ∧ btTo l t k j ≤ 1500 * (j : Int)
  | 0, _ => by simp [btTo]
  | j + 1, h => by
    have ih := btTo_bound (l := l) (k := k) ht j (by omega)
    have e : t[j]! = t[j] := getElem!_pos t j (by omega)
    have hx := ht _ (List.getElem_mem (show j < t.length by omega))
    have h1 := hx.z1; have h2 := hx.z2
    have hb : -1500 ≤ btOf l[k + j]! t[j]! ∧ btOf l[k + j]! t[j]! ≤ 1500 := by
      rw [e]; unfold btOf
      split
      · omega
      · split <;> omega
    show _ ≤ btTo l t k j + btOf l[k + j]! t[j]! ∧ btTo l t k j + btOf l[k + j]! t[j]! ≤ _
    omega
theorem sumZ_le_all (f : Pc → Bool) : ∀ (l : List Pc), (∀ x ∈ l, OkPc x) → sumZ f l ≤ sumZ (fun _ => true) l
  | [], _ => by simp [sumZ_nil]
  | x :: l, h => by
    have ih := sumZ_le_all f l (fun y hy => h y (List.mem_cons_of_mem _ hy))
    have h1 := (h x (List.mem_cons_self ..)).z1
    rw [sumZ_cons, sumZ_cons]
    split <;> simp <;> omega
end Go.Proofs.Ytpgdofhnpiefjaa
