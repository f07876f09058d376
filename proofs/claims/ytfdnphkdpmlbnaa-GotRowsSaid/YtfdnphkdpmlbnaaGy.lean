/-
  Numbers one after another, ahead of a gap and behind it; plain.
-/
import Derived.Test.YtfdnphkdpmlbnaaGr
import Derived.Test.YtfdnphkdpmlbnaaGj
namespace Go.Proofs.Ytfdnphkdpmlbnaa
open Go.RowKit
set_option linter.unusedVariables false
set_option linter.unusedSimpArgs false

/-- The numbers behind a gap. -/
def rowH (c : UInt32) (gap i : Nat) : List UInt32 := (List.range' (gap + 1) i).map fun j => c + UInt32.ofNat j
theorem rowH_len (c : UInt32) (gap i : Nat) : (rowH c gap i).length = i := by simp [rowH]
theorem rowH_succ (c : UInt32) (gap i : Nat) : rowH c gap (i + 1) = rowH c gap i ++ [c + UInt32.ofNat (gap + 1 + i)] := by
  unfold rowH
  rw [List.range'_concat, List.map_append]
  simp
theorem rowH_mem {c : UInt32} {gap i : Nat} {x : UInt32} : x ∈ rowH c gap i ↔ ∃ j, (gap + 1 ≤ j ∧ j < gap + 1 + i) ∧ c + UInt32.ofNat j = x := by
  unfold rowH
  rw [List.mem_map]
  constructor
  · rintro ⟨j, hj, e⟩; exact ⟨j, List.mem_range'_1.1 hj, e⟩
  · rintro ⟨j, hj, e⟩; exact ⟨j, List.mem_range'_1.2 hj, e⟩
theorem rowH_key {c : UInt32} {gap i : Nat} (h : gap + i < 1000) {x : UInt32} (hx : x ∈ rowH c gap i) : gap + 1 ≤ key c x ∧ key c x < gap + 1 + i := by
  obtain ⟨j, hj, rfl⟩ := rowH_mem.1 hx
  rw [key_add (by omega)]
  exact hj
theorem rowH_strict (c : UInt32) {gap i : Nat} (h : gap + i < 1000) : Strict c (rowH c gap i) := by
  unfold rowH
  refine strict_iff.2 ?_
  rw [List.pairwise_map]
  refine List.Pairwise.imp_of_mem (fun {a b} ha hb hab => ?_) (List.pairwise_lt_range' (s := gap + 1) (n := i))
  rw [List.mem_range'_1] at ha hb
  rw [key_add (by omega), key_add (by omega)]
  exact hab
theorem rowH_right (c : UInt32) {gap i : Nat} (hg : 1 ≤ gap) (h : gap + i < 1000) : RightG ⟨c, rowH c gap i, []⟩ :=
  ⟨rowH_strict c h, fun x hx => by have := rowH_key h hx; show 2 ≤ key c x ∧ key c x ≤ 4000; omega, Nat.zero_le _⟩
theorem none_right (c : UInt32) : RightG ⟨c, [], []⟩ := ⟨by simp [Strict], fun x hx => absurd hx (by simp), Nat.zero_le _⟩
theorem has_not {c : UInt32} {ab du : List UInt32} {n : UInt32} (h1 : 1 ≤ key c n) (h2 : key c n ≤ 4000) (h3 : n ∉ ab) : hasB ⟨c, ab, du⟩ n = false := by
  unfold hasB
  rw [Bool.or_eq_false_iff]
  refine ⟨decide_eq_false ?_, decide_eq_false h3⟩
  show ¬ (c - n).toNat < 2147483648
  unfold key at h1 h2
  simp only [UInt32.toNat_sub] at *
  have := c.toNat_lt; have := n.toNat_lt
  omega
theorem row_next (a : UInt32) : takeG ⟨a, [], []⟩ (a + 1) = (⟨a + 1, [], []⟩, true) := by
  unfold takeG
  have hk := key_next a
  rw [if_neg (by rw [has_not (by omega) (by omega) (by simp)]; decide), if_neg (show ¬ 4000 < key a (a + 1) by omega), if_pos rfl]
  rfl
theorem up_one (c : UInt32) {k : Nat} (h : k < 5000) : c + UInt32.ofNat k + 1 = c + UInt32.ofNat (k + 1) := by
  apply key_inj (f := c)
  have h1 := key_add (f := c) (k := k) (by omega)
  rw [key_up (by omega), h1, key_add (by omega)]
theorem row_next2 (c : UInt32) {i : Nat} (h : i < 1000) : takeG ⟨c + UInt32.ofNat i, [], []⟩ (c + UInt32.ofNat (i + 1)) = (⟨c + UInt32.ofNat (i + 1), [], []⟩, true) := by
  have h9 := row_next (c + UInt32.ofNat i)
  rw [up_one c (by omega)] at h9
  exact h9
theorem row_far (c : UInt32) {gap i : Nat} (hg : 1 ≤ gap) (h : gap + i < 900) : takeG ⟨c, rowH c gap i, []⟩ (c + UInt32.ofNat (gap + 1 + i)) = (⟨c, rowH c gap (i + 1), []⟩, true) := by
  have hk : key c (c + UInt32.ofNat (gap + 1 + i)) = gap + 1 + i := key_add (by omega)
  have hin : c + UInt32.ofNat (gap + 1 + i) ∉ rowH c gap i := fun hx => by have := rowH_key (by omega) hx; omega
  have hne : c + UInt32.ofNat (gap + 1 + i) ≠ c + 1 := fun e => by rw [e, key_next] at hk; omega
  have hins : ins c (c + UInt32.ofNat (gap + 1 + i)) (rowH c gap i) = rowH c gap (i + 1) := by
    have h9 := ins_place (c := c) (n := c + UInt32.ofNat (gap + 1 + i)) (p := (rowH c gap i).length) (rowH_strict c (by omega)) (Nat.le_refl _)
      (fun x hx => by rw [List.take_length] at hx; have := rowH_key (by omega) hx; omega) (fun x hx => by rw [List.drop_length] at hx; cases hx)
    rw [← h9, List.take_length, List.drop_length, rowH_succ]
  unfold takeG
  rw [if_neg (by rw [has_not (by omega) (by omega) hin]; decide), if_neg (show ¬ 4000 < key c (c + UInt32.ofNat (gap + 1 + i)) by omega), if_neg hne, hins]
theorem runs_rowH (c : UInt32) (gap : Nat) : ∀ (i : Nat), gap + i < 1000 → runs (rowH c gap (i + 1)) = [(c + UInt32.ofNat (gap + 1), c + UInt32.ofNat (gap + 1 + i))]
  | 0, _ => by simp [rowH, runs, runStep]
  | i + 1, h => by
    rw [rowH_succ, runs_snoc, runs_rowH c gap i (by omega)]
    have h9 : c + UInt32.ofNat (gap + 1 + i) + 1 = c + UInt32.ofNat (gap + 1 + (i + 1)) := up_one c (by omega)
    exact runStep_yes [] (c + UInt32.ofNat (gap + 1), c + UInt32.ofNat (gap + 1 + i)) _ h9
theorem gaps_rowH (c : UInt32) {gap i : Nat} (h : gap + i < 900) : gapsG ⟨c, rowH c gap (i + 1), []⟩ = [(gap + 1, gap + 1 + i)] := by
  unfold gapsG
  have hs : srt c (rowH c gap (i + 1)) = rowH c gap (i + 1) := (srt_eq c _ _ (rowH_strict c (by omega)) (fun z => Iff.rfl)).symm
  show List.take 100 (List.map (gapOf c) (runs (srt c (rowH c gap (i + 1))))) = _
  rw [hs, runs_rowH c gap i (by omega)]
  unfold gapOf
  simp only [List.map_cons, List.map_nil]
  rw [key_add (by omega), key_add (by omega), Nat.mod_eq_of_lt (by omega), Nat.mod_eq_of_lt (by omega)]
  rfl
theorem gaps_none (c : UInt32) : gapsG ⟨c, [], []⟩ = [] := rfl
theorem last_rowH (c : UInt32) (gap i : Nat) : lastG ⟨c, rowH c gap (i + 1), []⟩ = c + UInt32.ofNat (gap + 1 + i) := by
  have hl := rowH_len c gap (i + 1)
  have h9 : lastG ⟨c, rowH c gap (i + 1), []⟩ = (rowH c gap (i + 1))[(rowH c gap (i + 1)).length - 1]! := if_neg (show ¬ (rowH c gap (i + 1)).length = 0 by omega)
  rw [h9, hl, rowH_succ, show i + 1 - 1 = i by omega, getElem!_pos _ i (by rw [List.length_append, rowH_len]; simp), List.getElem_append_right (by rw [rowH_len]; exact Nat.le_refl _)]
  simp
theorem nat_first (first : UInt32) {i : Nat} (h : i < 900) : ((first.toNat : Int) + (i : Int)) % 4294967296 = ((first - 1 + UInt32.ofNat (i + 1)).toNat : Int) := by
  rw [plus_nat first (by omega)]
  have e : first + UInt32.ofNat i = first - 1 + UInt32.ofNat (i + 1) := key_inj (f := first - 1) (by rw [key_num first (by omega), key_add (by omega)])
  rw [e]
theorem nat_last (first : UInt32) {i : Nat} (h : i < 900) : (((first.toNat : Int) + (i : Int)) % 4294967296 - 1) % 4294967296 = ((first - 1 + UInt32.ofNat i).toNat : Int) := by
  have h1 : (1 : UInt32).toNat = 1 := rfl
  have := first.toNat_lt
  simp only [UInt32.toNat_add, UInt32.toNat_sub, UInt32.toNat_ofNat', h1]
  omega
theorem nat_less (first : UInt32) : ((first.toNat : Int) - 1) % 4294967296 = ((first - 1).toNat : Int) := by
  have h1 : (1 : UInt32).toNat = 1 := rfl
  have := first.toNat_lt
  simp only [UInt32.toNat_sub, h1]
  omega
/-- Where the law's loop stands: both gots in their boxes. -/
def GoS (w : World) (g1 g2 B0 : Nat) (c : UInt32) (gap i : Nat) (W : World) : Prop := GAt g1 B0 ⟨c + UInt32.ofNat i, [], []⟩ W ∧ GAt g2 B0 ⟨c, rowH c gap i, []⟩ W ∧ Below w.heap.size w W ∧ B0 ≤ W.heap.size
end Go.Proofs.Ytfdnphkdpmlbnaa
