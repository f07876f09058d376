/-
  Plain: what the document's reader makes of a chunk's value, and that it is what parseV says. Plain: the half-read chunk of the document's reader is bounded, and what the document's parser says of it. The reference's numbers out of bytes, two and four: contracts. The document's reader of items: a contract. The document's reader of a chunk's value: types without items: contracts. The document's reader of a chunk's value: types of items alone: a contract. The document's reader of a chunk's value: types 1 and 2: contracts.
-/
import Derived.Test.YtlbaockipeojhaaGreatCkRead
import Derived.Test.YtlbaockipeojhaaGreatGet
import Derived.Test.YtlbaockipeojhaaGreatPkMem
import Derived.Test.YtlbaockipeojhaaGreatRefParse
import Derived.Test.YtlbaockipeojhaaGreatFillA
section
section
namespace Go.Proofs.YtlbaockipeojhaaGreat
open Go.RowKit
set_option linter.unusedVariables false
set_option linter.unusedSimpArgs false
set_option maxRecDepth 100000

theorem rd32_0 (s : ByteArray) (q : Bool) (h : 4 ≤ s.size) : rd32 s q = (num4 s.data.toList 0, cutB s 4, q) := by
  have := rd32_at s 0 q (by omega)
  rwa [cut_zero] at this
/-- The document's reader. -/
def sackC (c : Ck) (v : ByteArray) : Ck × Bool :=
  if v.size < 12 then (c, false)
  else if v.size ≠ 12 + 4 * num v.data.toList 8 + 4 * num v.data.toList 10 then (c, false)
  else ({ c with tsn := num4 v.data.toList 0, window := num4 v.data.toList 4, gaps := c.gaps ++ (List.range (num v.data.toList 8)).map (fun i => (num v.data.toList (12 + 4 * i), num v.data.toList (12 + 4 * i + 2))), dups := c.dups ++ (List.range (num v.data.toList 10)).map (fun i => num4 v.data.toList (12 + 4 * num v.data.toList 8 + 4 * i)) }, true)
def itemsC (c : Ck) (v : ByteArray) : Ck × Bool := ({ c with items := (parseB v).1 }, decide ((parseB v).2.2 = 0))
def readC (c : Ck) (v : ByteArray) : Ck × Bool :=
  if c.type = 0 then (if v.size < 12 then (c, false) else ({ c with tsn := num4 v.data.toList 0, stream := num v.data.toList 4, ssn := num v.data.toList 6, ppid := num4 v.data.toList 8, text := cutB v 12 }, true))
  else if c.type = 1 ∨ c.type = 2 then (if v.size < 16 then (c, false) else itemsC { c with tag := num4 v.data.toList 0, window := num4 v.data.toList 4, outs := num v.data.toList 8, ins := num v.data.toList 10, tsn := num4 v.data.toList 12 } (cutB v 16))
  else if c.type = 3 then sackC c v
  else if c.type = 4 ∨ c.type = 5 ∨ c.type = 6 ∨ c.type = 9 then itemsC c v
  else if c.type = 7 then (if v.size ≠ 4 then (c, false) else ({ c with tsn := num4 v.data.toList 0 }, true))
  else ({ c with text := v }, true)
theorem set_short (k f : Int) (v : ByteArray) (n : Nat) (hn : ∀ a b c d e g h i, (numsL ⟨k, f, a, b, c, d, e, g, h, i, [], [], [], noB⟩).length = n) (h : v.size < n) : (setNums (zeroC k f) v false).2.2 = true := by
  obtain ⟨a, b, c, d, e, g, hh, i, h1, -, -, h4, -⟩ := set_facts k f v
  cases hq : (setNums (zeroC k f) v false).2.2
  · have := h4 hq
    rw [hn] at this
    omega
  · rfl
theorem bad_nums {k f : Int} {v : ByteArray} (h : (setNums (zeroC k f) v false).2.2 = true) : (parseV k f v).2 = false := by
  obtain ⟨a, b, c, d, e, g, hh, i, h1, -, -, -, -⟩ := set_facts k f v
  have hs : setNums (zeroC k f) v false = (⟨k, f, a, b, c, d, e, g, hh, i, [], [], [], noB⟩, (setNums (zeroC k f) v false).2.1, true) := by rw [← h1, ← h]
  by_cases t3 : k = 3
  · subst t3
    rw [parseV_sack hs]
    have := (reps_facts (setNums (zeroC 3 f) v false).2.1 true).2.2
    cases hq : (repsS (setNums (zeroC 3 f) v false).2.1 true).2.2.2
    · have := (this hq).1
      cases this
    · rfl
  · cases hi : hasItems k
    · rw [parseV_text hs t3 hi]; rfl
    · rw [parseV_items hs t3 hi]; rfl
theorem nums_0 (f : Int) (v : ByteArray) (h : 12 ≤ v.size) : setNums (zeroC 0 f) v false = (⟨0, f, num4 v.data.toList 0, 0, 0, num4 v.data.toList 8, num v.data.toList 4, num v.data.toList 6, 0, 0, [], [], [], noB⟩, cutB v 12, false) := by
  unfold setNums
  rw [if_pos (show (zeroC 0 f).type = 0 from rfl)]
  dsimp only
  rw [rd32_0 v _ (by omega)]
  dsimp only
  rw [rd16_at v 4 _ (by omega)]
  dsimp only
  rw [rd16_at v 6 _ (by omega)]
  dsimp only
  rw [rd32_at v 8 _ (by omega)]
  rfl
theorem nums_1 (k f : Int) (hk : k = 1 ∨ k = 2) (v : ByteArray) (h : 16 ≤ v.size) : setNums (zeroC k f) v false = (⟨k, f, num4 v.data.toList 12, num4 v.data.toList 0, num4 v.data.toList 4, 0, 0, 0, num v.data.toList 8, num v.data.toList 10, [], [], [], noB⟩, cutB v 16, false) := by
  unfold setNums
  rw [if_neg (show ¬ (zeroC k f).type = 0 from by show ¬ k = 0; omega), if_pos (show (zeroC k f).type = 1 ∨ (zeroC k f).type = 2 from hk)]
  dsimp only
  rw [rd32_0 v _ (by omega)]
  dsimp only
  rw [rd32_at v 4 _ (by omega)]
  dsimp only
  rw [rd16_at v 8 _ (by omega)]
  dsimp only
  rw [rd16_at v 10 _ (by omega)]
  dsimp only
  rw [rd32_at v 12 _ (by omega)]
  rfl
theorem nums_3 (f : Int) (v : ByteArray) (h : 8 ≤ v.size) : setNums (zeroC 3 f) v false = (⟨3, f, num4 v.data.toList 0, 0, num4 v.data.toList 4, 0, 0, 0, 0, 0, [], [], [], noB⟩, cutB v 8, false) := by
  unfold setNums
  rw [if_neg (show ¬ (zeroC 3 f).type = 0 from by show ¬ (3 : Int) = 0; omega), if_neg (show ¬ ((zeroC 3 f).type = 1 ∨ (zeroC 3 f).type = 2) from by show ¬ ((3 : Int) = 1 ∨ (3 : Int) = 2); omega), if_pos (show (zeroC 3 f).type = 3 from rfl)]
  dsimp only
  rw [rd32_0 v _ (by omega)]
  dsimp only
  rw [rd32_at v 4 _ (by omega)]
  rfl
theorem nums_7 (f : Int) (v : ByteArray) (h : 4 ≤ v.size) : setNums (zeroC 7 f) v false = (⟨7, f, num4 v.data.toList 0, 0, 0, 0, 0, 0, 0, 0, [], [], [], noB⟩, cutB v 4, false) := by
  unfold setNums
  rw [if_neg (show ¬ (zeroC 7 f).type = 0 from by show ¬ (7 : Int) = 0; omega), if_neg (show ¬ ((zeroC 7 f).type = 1 ∨ (zeroC 7 f).type = 2) from by show ¬ ((7 : Int) = 1 ∨ (7 : Int) = 2); omega), if_neg (show ¬ (zeroC 7 f).type = 3 from by show ¬ (7 : Int) = 3; omega), if_pos (show (zeroC 7 f).type = 7 from rfl)]
  dsimp only
  rw [rd32_0 v _ h]
  rfl
theorem nums_else (k f : Int) (v : ByteArray) (h0 : k ≠ 0) (h1 : ¬ (k = 1 ∨ k = 2)) (h3 : k ≠ 3) (h7 : k ≠ 7) : setNums (zeroC k f) v false = (⟨k, f, 0, 0, 0, 0, 0, 0, 0, 0, [], [], [], noB⟩, v, false) := by
  unfold setNums
  rw [if_neg (show ¬ (zeroC k f).type = 0 from h0), if_neg (show ¬ ((zeroC k f).type = 1 ∨ (zeroC k f).type = 2) from h1), if_neg (show ¬ (zeroC k f).type = 3 from h3), if_neg (show ¬ (zeroC k f).type = 7 from h7)]
  rfl
theorem hasItems_is (k : Int) : hasItems k = decide (k = 1 ∨ k = 2 ∨ k = 4 ∨ k = 5 ∨ k = 6 ∨ k = 9) := by
  unfold hasItems formOf
  repeat' split
  all_goals (simp; omega)
theorem reps_at (v : ByteArray) (h : 12 ≤ v.size) : repsS (cutB v 8) false = if v.size = 12 + 4 * num v.data.toList 8 + 4 * num v.data.toList 10 then (gapsAt (cutB v 12).data.toList (num v.data.toList 8), dupsAt (cutB v 12).data.toList (4 * num v.data.toList 8) (num v.data.toList 10), noB, false) else ([], [], cutB v 12, true) := by
  unfold repsS
  dsimp only
  rw [rd16_at v 8 _ (by omega)]
  dsimp only
  rw [rd16_at v 10 _ (by omega)]
  dsimp only
  rw [cut_size]
  by_cases hx : v.size = 12 + 4 * num v.data.toList 8 + 4 * num v.data.toList 10
  · rw [if_pos (by omega), if_pos hx]
  · rw [if_neg (by omega), if_neg hx]
theorem read_is (k f : Int) (v : ByteArray) : (parseV k f v).2 = ((readC (zeroC k f) v).2 && formedB (readC (zeroC k f) v).1) ∧ ((readC (zeroC k f) v).2 = true → (parseV k f v).1 = (readC (zeroC k f) v).1) := by
  unfold readC
  by_cases h0 : k = 0
  · subst h0
    rw [if_pos (show (zeroC 0 f).type = 0 from rfl)]
    by_cases hs : v.size < 12
    · rw [if_pos hs, bad_nums (set_short 0 f v 12 (fun _ _ _ _ _ _ _ _ => rfl) hs)]
      exact ⟨rfl, fun h => by cases h⟩
    · rw [if_neg hs, parseV_text (nums_0 f v (by omega)) (by decide) rfl]
      exact ⟨rfl, fun _ => rfl⟩
  rw [if_neg (show ¬ (zeroC k f).type = 0 from h0)]
  by_cases h1 : k = 1 ∨ k = 2
  · rw [if_pos (show (zeroC k f).type = 1 ∨ (zeroC k f).type = 2 from h1)]
    have hi : hasItems k = true := by rw [hasItems_is]; exact decide_eq_true (by omega)
    by_cases hs : v.size < 16
    · rw [if_pos hs, bad_nums (set_short k f v 16 (fun _ _ _ _ _ _ _ _ => by rcases h1 with rfl | rfl <;> rfl) hs)]
      exact ⟨rfl, fun h => by cases h⟩
    · rw [if_neg hs, parseV_items (nums_1 k f h1 v (by omega)) (by omega) hi]
      exact ⟨rfl, fun _ => rfl⟩
  rw [if_neg (show ¬ ((zeroC k f).type = 1 ∨ (zeroC k f).type = 2) from h1)]
  by_cases h3 : k = 3
  · subst h3
    rw [if_pos (show (zeroC 3 f).type = 3 from rfl)]
    unfold sackC
    by_cases hs : v.size < 12
    · rw [if_pos hs]
      refine ⟨?_, fun h => by cases h⟩
      by_cases h8 : v.size < 8
      · rw [bad_nums (set_short 3 f v 8 (fun _ _ _ _ _ _ _ _ => rfl) h8)]; rfl
      · rw [parseV_sack (nums_3 f v (by omega))]
        have := (reps_facts (cutB v 8) false).2.2
        cases hq : (repsS (cutB v 8) false).2.2.2
        · exfalso
          have h9 := (this hq).2.1
          rw [cut_size] at h9
          omega
        · rfl
    · rw [if_neg hs, parseV_sack (nums_3 f v (by omega)), reps_at v (by omega)]
      by_cases hx : v.size = 12 + 4 * num v.data.toList 8 + 4 * num v.data.toList 10
      · rw [if_pos hx, if_neg (by omega)]
        have e1 : gapsAt (cutB v 12).data.toList (num v.data.toList 8) = (List.range (num v.data.toList 8)).map (fun i => (num v.data.toList (12 + 4 * i), num v.data.toList (12 + 4 * i + 2))) := by
          unfold gapsAt cutB
          refine List.map_congr_left fun i _ => ?_
          rw [toB_list, num_behind, num_behind, Nat.add_assoc]
        have e2 : dupsAt (cutB v 12).data.toList (4 * num v.data.toList 8) (num v.data.toList 10) = (List.range (num v.data.toList 10)).map (fun i => num4 v.data.toList (12 + 4 * num v.data.toList 8 + 4 * i)) := by
          unfold dupsAt cutB
          refine List.map_congr_left fun i _ => ?_
          unfold num4
          rw [toB_list, num_behind, num_behind]
          simp only [Nat.add_assoc]
        rw [e1, e2]
        exact ⟨rfl, fun _ => rfl⟩
      · rw [if_neg hx, if_pos hx]
        exact ⟨rfl, fun h => by cases h⟩
  rw [if_neg (show ¬ (zeroC k f).type = 3 from h3)]
  by_cases h4 : k = 4 ∨ k = 5 ∨ k = 6 ∨ k = 9
  · rw [if_pos (show (zeroC k f).type = 4 ∨ (zeroC k f).type = 5 ∨ (zeroC k f).type = 6 ∨ (zeroC k f).type = 9 from h4), parseV_items (nums_else k f v h0 h1 h3 (by omega)) h3 (by rw [hasItems_is]; exact decide_eq_true (by omega))]
    exact ⟨rfl, fun _ => rfl⟩
  rw [if_neg (show ¬ ((zeroC k f).type = 4 ∨ (zeroC k f).type = 5 ∨ (zeroC k f).type = 6 ∨ (zeroC k f).type = 9) from h4)]
  have hi : hasItems k = false := by rw [hasItems_is]; exact decide_eq_false (by omega)
  by_cases h7 : k = 7
  · subst h7
    rw [if_pos (show (zeroC 7 f).type = 7 from rfl)]
    by_cases hs : v.size < 4
    · rw [if_pos (by omega), bad_nums (set_short 7 f v 4 (fun _ _ _ _ _ _ _ _ => rfl) hs)]
      exact ⟨rfl, fun h => by cases h⟩
    · rw [parseV_text (nums_7 f v (by omega)) h3 hi]
      by_cases h44 : v.size = 4
      · rw [if_neg (by omega)]
        have e : cutB v 4 = noB := by rw [← h44]; exact cut_all v
        rw [e]
        exact ⟨rfl, fun _ => rfl⟩
      · rw [if_pos h44]
        refine ⟨?_, fun h => by cases h⟩
        show formedB _ = false
        rw [← Bool.not_eq_true]
        intro hf
        obtain ⟨-, -, hx, -⟩ := formed_parts hf
        have hz := cut_size v 4
        have : ((cutB v 4).size : Int) ≤ 0 := by simpa [formOf] using hx.2
        omega
  rw [if_neg (show ¬ (zeroC k f).type = 7 from h7), parseV_text (nums_else k f v h0 h1 h3 h7) h3 hi]
  exact ⟨rfl, fun _ => rfl⟩
end Go.Proofs.YtlbaockipeojhaaGreat
end
section
namespace Go.Proofs.YtlbaockipeojhaaGreat
open Go.RowKit
set_option linter.unusedVariables false
set_option linter.unusedSimpArgs false
set_option maxRecDepth 100000

theorem items_small (v : ByteArray) (hv : v.size ≤ 4000) : (parseB v).1.length ≤ 1001 ∧ ∀ x ∈ (parseB v).1, x.2.size ≤ 1400 := by
  refine ⟨by have := parse_count (s := v); omega, ?_⟩
  by_cases h : (parseB v).2.2 = 0
  · have h1 := (build_ok (items_fine h).1).1
    rw [List.all_eq_true] at h1
    intro x hx
    have := h1 x hx
    unfold rightI at this
    simp only [Bool.and_eq_true, decide_eq_true_eq] at this
    exact this.2
  · have h1 : (parseB v).1 = [] := by
      unfold parseB at h ⊢
      rw [if_neg (by omega)] at h ⊢
      exact parse_none h
    rw [h1]
    intro x hx
    cases hx
theorem read_fit (k f : Int) (v : ByteArray) (hv : v.size ≤ 4000) : FitC (readC (zeroC k f) v).1 := by
  have z4 : (0 : Nat) < 4294967296 := by decide
  have z2 : (0 : Nat) < 65536 := by decide
  have hz : FitC (zeroC k f) := ⟨⟨z4, z4, z4, z4, z2, z2, z2, z2, by simp [zeroC], by simp [zeroC]⟩, by simp [zeroC], by simp [zeroC], by simp [zeroC], by simp [zeroC], by simp [zeroC, noB, ByteArray.size]⟩
  have hi := items_small v hv
  have hi' := items_small (cutB v 16) (by rw [cut_size]; omega)
  have q4 := fun i => num4_lt v.data.toList i
  have q2 := fun i => num_lt v.data.toList i
  unfold readC
  split
  · split
    · exact hz
    · exact ⟨⟨q4 _, z4, z4, q4 _, q2 _, q2 _, z2, z2, by simp [zeroC], by simp [zeroC]⟩, by simp [zeroC], by simp [zeroC], by simp [zeroC], by simp [zeroC], by show (cutB v 12).size ≤ _; rw [cut_size]; omega⟩
  split
  · split
    · exact hz
    · exact ⟨⟨q4 _, q4 _, q4 _, z4, z2, z2, q2 _, q2 _, by simp [zeroC, itemsC], by simp [zeroC, itemsC]⟩, by simp [zeroC, itemsC], by simp [zeroC, itemsC], Nat.le_trans hi'.1 (by decide), fun x hx => Nat.le_trans (hi'.2 x hx) (by decide), by simp [zeroC, itemsC, noB, ByteArray.size]⟩
  split
  · unfold sackC
    split
    · exact hz
    split
    · exact hz
    · rename_i h1 h2
      refine ⟨⟨q4 _, z4, q4 _, z4, z2, z2, z2, z2, ?_, ?_⟩, ?_, ?_, by simp [zeroC], by simp [zeroC], by simp [zeroC, noB, ByteArray.size]⟩
      · intro g hg
        simp only [zeroC, List.nil_append, List.mem_map] at hg
        obtain ⟨i, -, rfl⟩ := hg
        exact ⟨q2 _, q2 _⟩
      · intro g hg
        simp only [zeroC, List.nil_append, List.mem_map] at hg
        obtain ⟨i, -, rfl⟩ := hg
        exact q4 _
      · simp only [zeroC, List.nil_append, List.length_map, List.length_range]; omega
      · simp only [zeroC, List.nil_append, List.length_map, List.length_range]; omega
  split
  · exact ⟨⟨z4, z4, z4, z4, z2, z2, z2, z2, by simp [zeroC, itemsC], by simp [zeroC, itemsC]⟩, by simp [zeroC, itemsC], by simp [zeroC, itemsC], Nat.le_trans hi.1 (by decide), fun x hx => Nat.le_trans (hi.2 x hx) (by decide), by simp [zeroC, itemsC, noB, ByteArray.size]⟩
  split
  · split
    · exact hz
    · exact ⟨⟨q4 _, z4, z4, z4, z2, z2, z2, z2, by simp [zeroC], by simp [zeroC]⟩, by simp [zeroC], by simp [zeroC], by simp [zeroC], by simp [zeroC], by simp [zeroC, noB, ByteArray.size]⟩
  · exact ⟨⟨z4, z4, z4, z4, z2, z2, z2, z2, by simp [zeroC], by simp [zeroC]⟩, by simp [zeroC], by simp [zeroC], by simp [zeroC], by simp [zeroC], by show v.size ≤ _; omega⟩
theorem read_right (k f : Int) (v : ByteArray) (hv : 4 + v.size ≤ 1400) : (parseV k f v).2 = ((readC (zeroC k f) v).2 && decide ((buildC (readC (zeroC k f) v).1).2 = 0)) := by
  obtain ⟨h1, h2⟩ := read_is k f v
  cases hp : (parseV k f v).2
  · rw [hp] at h1
    cases hr : (readC (zeroC k f) v).2
    · rfl
    · rw [hr, Bool.true_and] at h1
      symm
      rw [Bool.true_and]
      refine decide_eq_false fun h => ?_
      have := (buildC_ok h).2.1
      rw [← h1] at this
      cases this
  · rw [hp] at h1
    have h3 := h1.symm
    rw [Bool.and_eq_true] at h3
    obtain ⟨w1, w2, w3, w4, -, -⟩ := value_read hp
    have h4 := h2 h3.1
    rw [h4] at w2 w3 w4
    rw [h3.1, buildC_of w3 w2 (by omega)]
    rfl
theorem valC_size (s : ByteArray) (h : lenC s ≤ s.size) : (valC s).size = lenC s - 4 := by
  unfold valC
  rw [toB_size, List.length_take, List.length_drop, ← size_list]
  omega
/-- What the document's parser of a chunk answers. -/
theorem parseC_ref (s : ByteArray) (h4 : 4 ≤ s.size) (R : Ck × Bool) (hR : readC (zeroC (byteAt s.data.toList 0) (byteAt s.data.toList 1)) (valC s) = R) : parseC s = if lenC s < 4 then (zeroC 0 0, 0, 2) else if s.size < lenC s then (zeroC 0 0, 0, 3) else if 1400 < lenC s then (zeroC 0 0, 0, 4)
    else if (R.2 = true ∧ (buildC R.1).2 = 0) ∧ tailC s = zerosL (tailC s).length then (R.1, sizeC s, 0) else (zeroC 0 0, 0, 2) := by
  unfold parseC
  rw [if_neg (by omega)]
  by_cases h1 : lenC s < 4
  · rw [if_pos h1, if_neg (by omega), if_pos h1]
  rw [if_neg h1, if_neg h1]
  by_cases h2 : s.size < lenC s
  · rw [if_pos h2, if_pos h2]
  rw [if_neg h2, if_neg h2]
  by_cases h3 : 1400 < lenC s
  · rw [if_pos h3, if_pos h3]
  rw [if_neg h3, if_neg h3]
  have hv := valC_size s (by omega)
  have hp := read_right (byteAt s.data.toList 0) (byteAt s.data.toList 1) (valC s) (by omega)
  have hq := (read_is (byteAt s.data.toList 0) (byteAt s.data.toList 1) (valC s)).2
  rw [hR] at hp hq
  rw [hp]
  by_cases h5 : tailC s = zerosL (tailC s).length
  · by_cases h6 : R.2 = true ∧ (buildC R.1).2 = 0
    · rw [if_pos ⟨by rw [h6.1, h6.2]; rfl, h5⟩, if_pos ⟨h6, h5⟩, hq h6.1]
    · rw [if_neg (fun h => h6 ⟨(Bool.and_eq_true_iff.1 h.1).1, of_decide_eq_true (Bool.and_eq_true_iff.1 h.1).2⟩), if_neg (fun h => h6 h.1)]
  · rw [if_neg (fun h => h5 h.2), if_neg (fun h => h5 h.2)]
end Go.Proofs.YtlbaockipeojhaaGreat
end
end
section
section
namespace Go.Proofs.YtlbaockipeojhaaGreat
open Go.RowKit
set_option linter.unusedVariables false
set_option linter.unusedSimpArgs false
set_option maxRecDepth 100000

set_option maxHeartbeats 2000000 in
theorem rnumber7_2 (s : ByteArray) (hs : s.size = 2) (w : World) : Calls Tryz.prog 60 #[.string s] w fun e w' => e = .returned (.int .u32 ((num s.data.toList 0 : Nat) : Int)) ∧ w' = w := by
  have b0 := byteAt_lt s.data.toList 0
  have r0 : 0 < s.size := by omega
  have h0 := (byteAt_byte (s := s) (k := 0) r0).symm
  have p0 : (0 : Int) < (s.size : Int) := by omega
  have b1 := byteAt_lt s.data.toList 1
  have r1 : 1 < s.size := by omega
  have h1 := (byteAt_byte (s := s) (k := 1) r1).symm
  have p1 : (1 : Int) < (s.size : Int) := by omega
  have hz := or_zero32 (byteAt s.data.toList 0) (byteAt_lt _ _)
  have HV := Lib.hid (show num s.data.toList 0 = byteAt s.data.toList 0 * 256 + byteAt s.data.toList 1 from by unfold num; rfl)
  rw [HV.out]
  clear HV
  generalize byteAt s.data.toList 0 = x0 at *
  generalize byteAt s.data.toList 1 = x1 at *
  have o1 := or_byte32 (x0) x1 (by omega) b1
  have hsz : (s.size : Int) = 2 := by omega
  have w1 : IntKind.u32.wrap ((x0 : Int) * 256) = (x0 : Int) * 256 := by rw [IntKind.wrap_u32]; omega
  go_enter Tryz.func60, Tryz.ntmps60
  go_wp2_with fail
  refine wp_loop_rounds 3 ?_
  rw [rounds_succ]
  go_wp2_with fail
  rw [rounds_succ]
  go_wp2_with fail
  rw [rounds_succ]
  go_wp2_with fail
  go_ret
  exact ⟨rfl, rfl⟩
set_option maxHeartbeats 2000000 in
theorem rnumber7_4 (s : ByteArray) (hs : s.size = 4) (w : World) : Calls Tryz.prog 60 #[.string s] w fun e w' => e = .returned (.int .u32 ((num4 s.data.toList 0 : Nat) : Int)) ∧ w' = w := by
  have b0 := byteAt_lt s.data.toList 0
  have r0 : 0 < s.size := by omega
  have h0 := (byteAt_byte (s := s) (k := 0) r0).symm
  have p0 : (0 : Int) < (s.size : Int) := by omega
  have b1 := byteAt_lt s.data.toList 1
  have r1 : 1 < s.size := by omega
  have h1 := (byteAt_byte (s := s) (k := 1) r1).symm
  have p1 : (1 : Int) < (s.size : Int) := by omega
  have b2 := byteAt_lt s.data.toList 2
  have r2 : 2 < s.size := by omega
  have h2 := (byteAt_byte (s := s) (k := 2) r2).symm
  have p2 : (2 : Int) < (s.size : Int) := by omega
  have b3 := byteAt_lt s.data.toList 3
  have r3 : 3 < s.size := by omega
  have h3 := (byteAt_byte (s := s) (k := 3) r3).symm
  have p3 : (3 : Int) < (s.size : Int) := by omega
  have hz := or_zero32 (byteAt s.data.toList 0) (byteAt_lt _ _)
  have HV := Lib.hid (show num4 s.data.toList 0 = ((byteAt s.data.toList 0 * 256 + byteAt s.data.toList 1) * 256 + byteAt s.data.toList 2) * 256 + byteAt s.data.toList 3 from by unfold num4 num; simp only [Nat.zero_add, Nat.reduceAdd]; omega)
  rw [HV.out]
  clear HV
  generalize byteAt s.data.toList 0 = x0 at *
  generalize byteAt s.data.toList 1 = x1 at *
  generalize byteAt s.data.toList 2 = x2 at *
  generalize byteAt s.data.toList 3 = x3 at *
  have o1 := or_byte32 (x0) x1 (by omega) b1
  generalize hy1 : (x0) * 256 + x1 = y1 at *
  have z1 : y1 < 65536 := by omega
  clear hy1
  have o2 := or_byte32 (y1) x2 (by omega) b2
  generalize hy2 : (y1) * 256 + x2 = y2 at *
  have z2 : y2 < 16777216 := by omega
  clear hy2
  have o3 := or_byte32 (y2) x3 (by omega) b3
  have hsz : (s.size : Int) = 4 := by omega
  have w1 : IntKind.u32.wrap ((x0 : Int) * 256) = (x0 : Int) * 256 := by rw [IntKind.wrap_u32]; omega
  have w2 : IntKind.u32.wrap ((y1 : Int) * 256) = (y1 : Int) * 256 := by rw [IntKind.wrap_u32]; omega
  have w3 : IntKind.u32.wrap ((y2 : Int) * 256) = (y2 : Int) * 256 := by rw [IntKind.wrap_u32]; omega
  go_enter Tryz.func60, Tryz.ntmps60
  go_wp2_with fail
  refine wp_loop_rounds 5 ?_
  rw [rounds_succ]
  go_wp2_with fail
  rw [rounds_succ]
  go_wp2_with fail
  rw [rounds_succ]
  go_wp2_with fail
  rw [rounds_succ]
  go_wp2_with fail
  rw [rounds_succ]
  go_wp2_with fail
  go_ret
  exact ⟨rfl, rfl⟩
set_option maxHeartbeats 2000000 in
theorem rnumber8_2 (s : ByteArray) (hs : s.size = 2) (w : World) : Calls Tryz.prog 36 #[.string s] w fun e w' => e = .returned (.int .u32 ((num s.data.toList 0 : Nat) : Int)) ∧ w' = w := by
  have b0 := byteAt_lt s.data.toList 0
  have r0 : 0 < s.size := by omega
  have h0 := (byteAt_byte (s := s) (k := 0) r0).symm
  have p0 : (0 : Int) < (s.size : Int) := by omega
  have b1 := byteAt_lt s.data.toList 1
  have r1 : 1 < s.size := by omega
  have h1 := (byteAt_byte (s := s) (k := 1) r1).symm
  have p1 : (1 : Int) < (s.size : Int) := by omega
  have hz := or_zero32 (byteAt s.data.toList 0) (byteAt_lt _ _)
  have HV := Lib.hid (show num s.data.toList 0 = byteAt s.data.toList 0 * 256 + byteAt s.data.toList 1 from by unfold num; rfl)
  rw [HV.out]
  clear HV
  generalize byteAt s.data.toList 0 = x0 at *
  generalize byteAt s.data.toList 1 = x1 at *
  have o1 := or_byte32 (x0) x1 (by omega) b1
  have hsz : (s.size : Int) = 2 := by omega
  have w1 : IntKind.u32.wrap ((x0 : Int) * 256) = (x0 : Int) * 256 := by rw [IntKind.wrap_u32]; omega
  go_enter Tryz.func36, Tryz.ntmps36
  go_wp2_with fail
  refine wp_loop_rounds 3 ?_
  rw [rounds_succ]
  go_wp2_with fail
  rw [rounds_succ]
  go_wp2_with fail
  rw [rounds_succ]
  go_wp2_with fail
  go_ret
  exact ⟨rfl, rfl⟩
set_option maxHeartbeats 2000000 in
theorem rnumber8_4 (s : ByteArray) (hs : s.size = 4) (w : World) : Calls Tryz.prog 36 #[.string s] w fun e w' => e = .returned (.int .u32 ((num4 s.data.toList 0 : Nat) : Int)) ∧ w' = w := by
  have b0 := byteAt_lt s.data.toList 0
  have r0 : 0 < s.size := by omega
  have h0 := (byteAt_byte (s := s) (k := 0) r0).symm
  have p0 : (0 : Int) < (s.size : Int) := by omega
  have b1 := byteAt_lt s.data.toList 1
  have r1 : 1 < s.size := by omega
  have h1 := (byteAt_byte (s := s) (k := 1) r1).symm
  have p1 : (1 : Int) < (s.size : Int) := by omega
  have b2 := byteAt_lt s.data.toList 2
  have r2 : 2 < s.size := by omega
  have h2 := (byteAt_byte (s := s) (k := 2) r2).symm
  have p2 : (2 : Int) < (s.size : Int) := by omega
  have b3 := byteAt_lt s.data.toList 3
  have r3 : 3 < s.size := by omega
  have h3 := (byteAt_byte (s := s) (k := 3) r3).symm
  have p3 : (3 : Int) < (s.size : Int) := by omega
  have hz := or_zero32 (byteAt s.data.toList 0) (byteAt_lt _ _)
  have HV := Lib.hid (show num4 s.data.toList 0 = ((byteAt s.data.toList 0 * 256 + byteAt s.data.toList 1) * 256 + byteAt s.data.toList 2) * 256 + byteAt s.data.toList 3 from by unfold num4 num; simp only [Nat.zero_add, Nat.reduceAdd]; omega)
  rw [HV.out]
  clear HV
  generalize byteAt s.data.toList 0 = x0 at *
  generalize byteAt s.data.toList 1 = x1 at *
  generalize byteAt s.data.toList 2 = x2 at *
  generalize byteAt s.data.toList 3 = x3 at *
  have o1 := or_byte32 (x0) x1 (by omega) b1
  generalize hy1 : (x0) * 256 + x1 = y1 at *
  have z1 : y1 < 65536 := by omega
  clear hy1
  have o2 := or_byte32 (y1) x2 (by omega) b2
  generalize hy2 : (y1) * 256 + x2 = y2 at *
  have z2 : y2 < 16777216 := by omega
  clear hy2
  have o3 := or_byte32 (y2) x3 (by omega) b3
  have hsz : (s.size : Int) = 4 := by omega
  have w1 : IntKind.u32.wrap ((x0 : Int) * 256) = (x0 : Int) * 256 := by rw [IntKind.wrap_u32]; omega
  have w2 : IntKind.u32.wrap ((y1 : Int) * 256) = (y1 : Int) * 256 := by rw [IntKind.wrap_u32]; omega
  have w3 : IntKind.u32.wrap ((y2 : Int) * 256) = (y2 : Int) * 256 := by rw [IntKind.wrap_u32]; omega
  go_enter Tryz.func36, Tryz.ntmps36
  go_wp2_with fail
  refine wp_loop_rounds 5 ?_
  rw [rounds_succ]
  go_wp2_with fail
  rw [rounds_succ]
  go_wp2_with fail
  rw [rounds_succ]
  go_wp2_with fail
  rw [rounds_succ]
  go_wp2_with fail
  rw [rounds_succ]
  go_wp2_with fail
  go_ret
  exact ⟨rfl, rfl⟩
end Go.Proofs.YtlbaockipeojhaaGreat
end
section
namespace Go.Proofs.YtlbaockipeojhaaGreat
open Go.RowKit
set_option linter.unusedVariables false
set_option linter.unusedSimpArgs false
set_option maxRecDepth 100000

/-- A chunk in a box, and a place for another one. -/
structure RdS (CA CB : Array Value) (w W : World) : Prop where
  own : W.heap[w.heap.size]? = some (.cells CA 74 (0, 0))
  out : W.heap[w.heap.size + 1]? = some (.cells CB 74 (0, 0))
  below : Below w.heap.size w W
theorem RdS.later {CA CB : Array Value} {w W W' : World} (h : RdS CA CB w W) (hb : Below W.heap.size W W') : RdS CA CB w W' :=
  ⟨(hb.block _ (Array.getElem?_eq_some_iff.1 h.own).1).trans h.own, (hb.block _ (Array.getElem?_eq_some_iff.1 h.out).1).trans h.out, h.below.trans (hb.mono h.below.size)⟩
theorem rdS_new (CA CB : Array Value) (w : World) : RdS CA CB w ((w.alloc (.cells CA 74)).alloc (.cells CB 74)) :=
  ⟨heap_second_at w _ _ rfl, heap_new_at _ _ (by rw [World.size_alloc]), below_two w _ _⟩
theorem RdS.put {CA CB : Array Value} {w W : World} (h : RdS CA CB w W) (i : Nat) (v : Value) : RdS (CA.setIfInBounds i v) CB w (W.setCell ⟨w.heap.size, i, none⟩ v) :=
  ⟨row_set h.own i v, (Below.heap_setCell W ⟨w.heap.size, i, none⟩ v (w.heap.size + 1) (by show w.heap.size + 1 ≠ w.heap.size; omega)).trans h.out, Below.setCell h.below (Nat.le_refl _) _⟩
theorem rkSize8 : (Tryz.prog.info? 74).map (·.size) = some 14 := by kernel_rfl
set_option maxHeartbeats 8000000 in
theorem ritems_any (c : Ck) (g d it : Value) (v : ByteArray) (hv : v.size ≤ 1000000) (w : World) (hp : Parts w c g d it) :
    Calls Tryz.prog 93 #[.agg (cellsC c g d it), .string v] w fun e w' => ∃ it', e = .returned (.tuple #[.agg (cellsC (itemsC c v).1 g d it'), .bool (itemsC c v).2]) ∧ OwnG w' w.heap.size 105 2 it' (parseB v).1.length (flatI (parseB v).1) ∧ Below w.heap.size w w' := by
  have HPA := Lib.hid (fun W => rparse_any v hv W)
  have HRS := Lib.hid rkSize8
  obtain ⟨⟨A1, k1, rfl⟩, ⟨A2, k2, rfl⟩, ⟨A3, k3, rfl⟩⟩ := hp.slices
  have HQ := Lib.hid (show (itemsC c v).2 = ((((parseB v).2.2 : Nat) : Int) == 0) from by
    unfold itemsC
    dsimp only
    rw [Bool.eq_iff_iff, decide_eq_true_eq, beq_iff_eq]; omega)
  rw [HQ.out]
  clear HQ hp hv
  unfold itemsC
  dsimp only
  obtain ⟨ty, fl, tsn, tag, win, ppid, st, ssn, outs, ins, gaps, dups, items, text⟩ := c
  dsimp only [cellsC]
  have HS := Lib.hid (rdS_new #[.int .i64 ty, .int .i64 fl, .int .u32 (tsn : Int), .int .u32 (tag : Int), .int .u32 (win : Int), .int .u32 (ppid : Int), .int .u16 (st : Int), .int .u16 (ssn : Int), .int .u16 (outs : Int), .int .u16 (ins : Int), .slice A1 gaps.length k1, .slice A2 dups.length k2, .slice A3 items.length k3, .string text] #[.int .i64 0, .int .i64 0, .int .u32 0, .int .u32 0, .int .u32 0, .int .u32 0, .int .u16 0, .int .u16 0, .int .u16 0, .int .u16 0, .slice none 0 0, .slice none 0 0, .slice none 0 0, .string ⟨#[]⟩] w)
  generalize hn4 : (parseB v).1.length = n4 at *
  generalize (parseB v).2.2 = e0 at *
  generalize (parseB v).2.1 = m0 at *
  go_enter Tryz.func93, Tryz.ntmps93
  go_wp2_with fail
  refine (HPA.out _).mono ?_
  rintro _ w1 ⟨V4, rfl, hown, hb1⟩
  have HS1 := Lib.hid (HS.out.later hb1)
  obtain ⟨A4, k4, rfl, -⟩ := hown.slice
  have HO := Lib.hid hown
  have c12 : w1.cell? ⟨w.heap.size, 12, none⟩ = some (.slice A3 items.length k3) := by rw [cell_in HS1.out.own]; rfl
  have f12 : w1.frozen? ⟨w.heap.size, 12, none⟩ = false := frozen_of_row HS1.out.own 12
  have HS2 : Hid (RdS #[.int .i64 ty, .int .i64 fl, .int .u32 (tsn : Int), .int .u32 (tag : Int), .int .u32 (win : Int), .int .u32 (ppid : Int), .int .u16 (st : Int), .int .u16 (ssn : Int), .int .u16 (outs : Int), .int .u16 (ins : Int), .slice A1 gaps.length k1, .slice A2 dups.length k2, .slice A4 n4 k4, .string text] #[.int .i64 0, .int .i64 0, .int .u32 0, .int .u32 0, .int .u32 0, .int .u32 0, .int .u16 0, .int .u16 0, .int .u16 0, .int .u16 0, .slice none 0 0, .slice none 0 0, .slice none 0 0, .string ⟨#[]⟩] w (w1.setCell ⟨w.heap.size, 12, none⟩ (.slice A4 n4 k4))) := Lib.hid (HS1.out.put 12 (.slice A4 n4 k4))
  have HONE := Lib.hid (show (#[.int .i64 ty, .int .i64 fl, .int .u32 (tsn : Int), .int .u32 (tag : Int), .int .u32 (win : Int), .int .u32 (ppid : Int), .int .u16 (st : Int), .int .u16 (ssn : Int), .int .u16 (outs : Int), .int .u16 (ins : Int), .slice A1 gaps.length k1, .slice A2 dups.length k2, .slice A4 n4 k4, .string text] : Array Value).all (·.oneCell') = true from by simp [Value.oneCell'])
  have HO2 : Hid (OwnG ((w1.setCell ⟨w.heap.size, 12, none⟩ (.slice A4 n4 k4)).setRow (w.heap.size + 1) #[.int .i64 ty, .int .i64 fl, .int .u32 (tsn : Int), .int .u32 (tag : Int), .int .u32 (win : Int), .int .u32 (ppid : Int), .int .u16 (st : Int), .int .u16 (ssn : Int), .int .u16 (outs : Int), .int .u16 (ins : Int), .slice A1 gaps.length k1, .slice A2 dups.length k2, .slice A4 n4 k4, .string text]) w.heap.size 105 2 (.slice A4 n4 k4) n4 (flatI (parseB v).1)) := Lib.hid (by
    have hlt := fun j hj => HO.out.lt j hj
    refine (OwnG.base HO.out (by simp only [World.size_alloc]; omega)).keep fun j hj => ?_
    have := (hlt j hj).1
    simp only [World.size_alloc] at this
    rw [setRow_other _ _ _ _ (by omega), Below.heap_setCell _ _ _ _ (by show j ≠ w.heap.size; omega)])
  clear hown hb1 HPA HS
  go_wp2_with (first
    | (refine wpList_load_row rfl 74 (.tmp 2) rfl w.heap.size rfl 74 #[.int .i64 ty, .int .i64 fl, .int .u32 (tsn : Int), .int .u32 (tag : Int), .int .u32 (win : Int), .int .u32 (ppid : Int), .int .u16 (st : Int), .int .u16 (ssn : Int), .int .u16 (outs : Int), .int .u16 (ins : Int), .slice A1 gaps.length k1, .slice A2 dups.length k2, .slice A4 n4 k4, .string text] (0, 0) _ HS2.out.own Tryz.underlying74 rfl HRS.out ?_)
    | (refine wpList_store_row rfl 74 (.tmp 4) (.tmp 17) rfl (w.heap.size + 1) #[.int .i64 ty, .int .i64 fl, .int .u32 (tsn : Int), .int .u32 (tag : Int), .int .u32 (win : Int), .int .u32 (ppid : Int), .int .u16 (st : Int), .int .u16 (ssn : Int), .int .u16 (outs : Int), .int .u16 (ins : Int), .slice A1 gaps.length k1, .slice A2 dups.length k2, .slice A4 n4 k4, .string text] rfl rfl 74 _ HS2.out.out HRS.out rfl HONE.out ?_))
  exact bodyPost_ret (v := .tuple #[.agg #[.int .i64 ty, .int .i64 fl, .int .u32 (tsn : Int), .int .u32 (tag : Int), .int .u32 (win : Int), .int .u32 (ppid : Int), .int .u16 (st : Int), .int .u16 (ssn : Int), .int .u16 (outs : Int), .int .u16 (ins : Int), .slice A1 gaps.length k1, .slice A2 dups.length k2, .slice A4 n4 k4, .string text], .bool ((e0 : Int) == 0)]) (results_row1 Tryz.results93 _ _ (w.heap.size + 1) _ #[.int .i64 ty, .int .i64 fl, .int .u32 (tsn : Int), .int .u32 (tag : Int), .int .u32 (win : Int), .int .u32 (ppid : Int), .int .u16 (st : Int), .int .u16 (ssn : Int), .int .u16 (outs : Int), .int .u16 (ins : Int), .slice A1 gaps.length k1, .slice A2 dups.length k2, .slice A4 n4 k4, .string text] _ _ (by rfl) (setRow_heap _ _ _ _ _ _ HS2.out.out) Tryz.underlying74 rfl HRS.out) rfl ⟨_, rfl, HO2.out, below_setRow HS2.out.below (by omega) _⟩
end Go.Proofs.YtlbaockipeojhaaGreat
end
section
namespace Go.Proofs.YtlbaockipeojhaaGreat
open Go.RowKit
set_option linter.unusedVariables false
set_option linter.unusedSimpArgs false
set_option maxRecDepth 100000

set_option maxHeartbeats 8000000 in
theorem rread_else (c : Ck) (g d it : Value) (v : ByteArray) (hv : v.size ≤ 1000000) (w : World) (hp : Parts w c g d it) (hk : c.type ≠ 0 ∧ c.type ≠ 1 ∧ c.type ≠ 2 ∧ c.type ≠ 3 ∧ c.type ≠ 4 ∧ c.type ≠ 5 ∧ c.type ≠ 6 ∧ c.type ≠ 9 ∧ c.type ≠ 7) :
    Calls Tryz.prog 61 #[.agg (cellsC c g d it), .string v] w fun e w' => e = .returned (.tuple #[.agg (cellsC { c with text := v } g d it), .bool true]) ∧ Below w.heap.size w w' := by
  have HRS := Lib.hid rkSize8
  obtain ⟨⟨A1, k1, rfl⟩, ⟨A2, k2, rfl⟩, ⟨A3, k3, rfl⟩⟩ := hp.slices
  clear hp
  obtain ⟨ty, fl, tsn, tag, win, ppid, st, ssn, outs, ins, gaps, dups, items, text⟩ := c
  dsimp only [cellsC] at *
  have z0 : (ty == 0) = false := beq_eq_false_iff_ne.2 (by omega)
  have z1 : (ty == 1) = false := beq_eq_false_iff_ne.2 (by omega)
  have z2 : (ty == 2) = false := beq_eq_false_iff_ne.2 (by omega)
  have z3 : (ty == 3) = false := beq_eq_false_iff_ne.2 (by omega)
  have z4 : (ty == 4) = false := beq_eq_false_iff_ne.2 (by omega)
  have z5 : (ty == 5) = false := beq_eq_false_iff_ne.2 (by omega)
  have z6 : (ty == 6) = false := beq_eq_false_iff_ne.2 (by omega)
  have z9 : (ty == 9) = false := beq_eq_false_iff_ne.2 (by omega)
  have z7 : (ty == 7) = false := beq_eq_false_iff_ne.2 (by omega)
  clear hk
  go_enter Tryz.func61, Tryz.ntmps61
  go_wp2_with (first
    | (refine wpList_load_row rfl 74 (.tmp 2) rfl w.heap.size rfl 74 #[.int .i64 ty, .int .i64 fl, .int .u32 (tsn : Int), .int .u32 (tag : Int), .int .u32 (win : Int), .int .u32 (ppid : Int), .int .u16 (st : Int), .int .u16 (ssn : Int), .int .u16 (outs : Int), .int .u16 (ins : Int), .slice A1 gaps.length k1, .slice A2 dups.length k2, .slice A3 items.length k3, .string v] (0, 0) _ (rdS_new #[.int .i64 ty, .int .i64 fl, .int .u32 (tsn : Int), .int .u32 (tag : Int), .int .u32 (win : Int), .int .u32 (ppid : Int), .int .u16 (st : Int), .int .u16 (ssn : Int), .int .u16 (outs : Int), .int .u16 (ins : Int), .slice A1 gaps.length k1, .slice A2 dups.length k2, .slice A3 items.length k3, .string v] #[.int .i64 0, .int .i64 0, .int .u32 0, .int .u32 0, .int .u32 0, .int .u32 0, .int .u16 0, .int .u16 0, .int .u16 0, .int .u16 0, .slice none 0 0, .slice none 0 0, .slice none 0 0, .string ⟨#[]⟩] w).own Tryz.underlying74 rfl HRS.out ?_))
  exact bodyPost_ret (v := .tuple #[.agg #[.int .i64 ty, .int .i64 fl, .int .u32 (tsn : Int), .int .u32 (tag : Int), .int .u32 (win : Int), .int .u32 (ppid : Int), .int .u16 (st : Int), .int .u16 (ssn : Int), .int .u16 (outs : Int), .int .u16 (ins : Int), .slice A1 gaps.length k1, .slice A2 dups.length k2, .slice A3 items.length k3, .string v], .bool true]) (results_row1 Tryz.results61 _ _ (w.heap.size + 1) _ #[.int .i64 ty, .int .i64 fl, .int .u32 (tsn : Int), .int .u32 (tag : Int), .int .u32 (win : Int), .int .u32 (ppid : Int), .int .u16 (st : Int), .int .u16 (ssn : Int), .int .u16 (outs : Int), .int .u16 (ins : Int), .slice A1 gaps.length k1, .slice A2 dups.length k2, .slice A3 items.length k3, .string v] _ _ (by rfl) (rdS_new #[.int .i64 ty, .int .i64 fl, .int .u32 (tsn : Int), .int .u32 (tag : Int), .int .u32 (win : Int), .int .u32 (ppid : Int), .int .u16 (st : Int), .int .u16 (ssn : Int), .int .u16 (outs : Int), .int .u16 (ins : Int), .slice A1 gaps.length k1, .slice A2 dups.length k2, .slice A3 items.length k3, .string v] #[.int .i64 ty, .int .i64 fl, .int .u32 (tsn : Int), .int .u32 (tag : Int), .int .u32 (win : Int), .int .u32 (ppid : Int), .int .u16 (st : Int), .int .u16 (ssn : Int), .int .u16 (outs : Int), .int .u16 (ins : Int), .slice A1 gaps.length k1, .slice A2 dups.length k2, .slice A3 items.length k3, .string v] w).out Tryz.underlying74 rfl HRS.out) rfl ⟨rfl, (rdS_new #[.int .i64 ty, .int .i64 fl, .int .u32 (tsn : Int), .int .u32 (tag : Int), .int .u32 (win : Int), .int .u32 (ppid : Int), .int .u16 (st : Int), .int .u16 (ssn : Int), .int .u16 (outs : Int), .int .u16 (ins : Int), .slice A1 gaps.length k1, .slice A2 dups.length k2, .slice A3 items.length k3, .string v] #[.int .i64 ty, .int .i64 fl, .int .u32 (tsn : Int), .int .u32 (tag : Int), .int .u32 (win : Int), .int .u32 (ppid : Int), .int .u16 (st : Int), .int .u16 (ssn : Int), .int .u16 (outs : Int), .int .u16 (ins : Int), .slice A1 gaps.length k1, .slice A2 dups.length k2, .slice A3 items.length k3, .string v] w).below⟩
set_option maxHeartbeats 8000000 in
theorem rread_0_no (c : Ck) (g d it : Value) (v : ByteArray) (hv : v.size ≤ 1000000) (w : World) (hp : Parts w c g d it) (hk : c.type = 0 ∧ v.size < 12) :
    Calls Tryz.prog 61 #[.agg (cellsC c g d it), .string v] w fun e w' => e = .returned (.tuple #[.agg (cellsC c g d it), .bool false]) ∧ Below w.heap.size w w' := by
  have HRS := Lib.hid rkSize8
  obtain ⟨⟨A1, k1, rfl⟩, ⟨A2, k2, rfl⟩, ⟨A3, k3, rfl⟩⟩ := hp.slices
  clear hp
  obtain ⟨ty, fl, tsn, tag, win, ppid, st, ssn, outs, ins, gaps, dups, items, text⟩ := c
  dsimp only [cellsC] at *
  have z0 : (ty == 0) = true := beq_iff_eq.2 (by omega)
  have y0 : decide ((v.size : Int) < 12) = true := decide_eq_true (by omega)
  clear hk
  go_enter Tryz.func61, Tryz.ntmps61
  go_wp2_with (first
    | (refine wpList_load_row rfl 74 (.tmp 2) rfl w.heap.size rfl 74 #[.int .i64 ty, .int .i64 fl, .int .u32 (tsn : Int), .int .u32 (tag : Int), .int .u32 (win : Int), .int .u32 (ppid : Int), .int .u16 (st : Int), .int .u16 (ssn : Int), .int .u16 (outs : Int), .int .u16 (ins : Int), .slice A1 gaps.length k1, .slice A2 dups.length k2, .slice A3 items.length k3, .string text] (0, 0) _ (rdS_new #[.int .i64 ty, .int .i64 fl, .int .u32 (tsn : Int), .int .u32 (tag : Int), .int .u32 (win : Int), .int .u32 (ppid : Int), .int .u16 (st : Int), .int .u16 (ssn : Int), .int .u16 (outs : Int), .int .u16 (ins : Int), .slice A1 gaps.length k1, .slice A2 dups.length k2, .slice A3 items.length k3, .string text] #[.int .i64 0, .int .i64 0, .int .u32 0, .int .u32 0, .int .u32 0, .int .u32 0, .int .u16 0, .int .u16 0, .int .u16 0, .int .u16 0, .slice none 0 0, .slice none 0 0, .slice none 0 0, .string ⟨#[]⟩] w).own Tryz.underlying74 rfl HRS.out ?_))
  exact bodyPost_ret (v := .tuple #[.agg #[.int .i64 ty, .int .i64 fl, .int .u32 (tsn : Int), .int .u32 (tag : Int), .int .u32 (win : Int), .int .u32 (ppid : Int), .int .u16 (st : Int), .int .u16 (ssn : Int), .int .u16 (outs : Int), .int .u16 (ins : Int), .slice A1 gaps.length k1, .slice A2 dups.length k2, .slice A3 items.length k3, .string text], .bool false]) (results_row1 Tryz.results61 _ _ (w.heap.size + 1) _ #[.int .i64 ty, .int .i64 fl, .int .u32 (tsn : Int), .int .u32 (tag : Int), .int .u32 (win : Int), .int .u32 (ppid : Int), .int .u16 (st : Int), .int .u16 (ssn : Int), .int .u16 (outs : Int), .int .u16 (ins : Int), .slice A1 gaps.length k1, .slice A2 dups.length k2, .slice A3 items.length k3, .string text] _ _ (by rfl) (rdS_new #[.int .i64 ty, .int .i64 fl, .int .u32 (tsn : Int), .int .u32 (tag : Int), .int .u32 (win : Int), .int .u32 (ppid : Int), .int .u16 (st : Int), .int .u16 (ssn : Int), .int .u16 (outs : Int), .int .u16 (ins : Int), .slice A1 gaps.length k1, .slice A2 dups.length k2, .slice A3 items.length k3, .string text] #[.int .i64 ty, .int .i64 fl, .int .u32 (tsn : Int), .int .u32 (tag : Int), .int .u32 (win : Int), .int .u32 (ppid : Int), .int .u16 (st : Int), .int .u16 (ssn : Int), .int .u16 (outs : Int), .int .u16 (ins : Int), .slice A1 gaps.length k1, .slice A2 dups.length k2, .slice A3 items.length k3, .string text] w).out Tryz.underlying74 rfl HRS.out) rfl ⟨rfl, (rdS_new #[.int .i64 ty, .int .i64 fl, .int .u32 (tsn : Int), .int .u32 (tag : Int), .int .u32 (win : Int), .int .u32 (ppid : Int), .int .u16 (st : Int), .int .u16 (ssn : Int), .int .u16 (outs : Int), .int .u16 (ins : Int), .slice A1 gaps.length k1, .slice A2 dups.length k2, .slice A3 items.length k3, .string text] #[.int .i64 ty, .int .i64 fl, .int .u32 (tsn : Int), .int .u32 (tag : Int), .int .u32 (win : Int), .int .u32 (ppid : Int), .int .u16 (st : Int), .int .u16 (ssn : Int), .int .u16 (outs : Int), .int .u16 (ins : Int), .slice A1 gaps.length k1, .slice A2 dups.length k2, .slice A3 items.length k3, .string text] w).below⟩
set_option maxHeartbeats 8000000 in
theorem rread_7_no (c : Ck) (g d it : Value) (v : ByteArray) (hv : v.size ≤ 1000000) (w : World) (hp : Parts w c g d it) (hk : c.type = 7 ∧ v.size ≠ 4) :
    Calls Tryz.prog 61 #[.agg (cellsC c g d it), .string v] w fun e w' => e = .returned (.tuple #[.agg (cellsC c g d it), .bool false]) ∧ Below w.heap.size w w' := by
  have HRS := Lib.hid rkSize8
  obtain ⟨⟨A1, k1, rfl⟩, ⟨A2, k2, rfl⟩, ⟨A3, k3, rfl⟩⟩ := hp.slices
  clear hp
  obtain ⟨ty, fl, tsn, tag, win, ppid, st, ssn, outs, ins, gaps, dups, items, text⟩ := c
  dsimp only [cellsC] at *
  have z0 : (ty == 0) = false := beq_eq_false_iff_ne.2 (by omega)
  have z1 : (ty == 1) = false := beq_eq_false_iff_ne.2 (by omega)
  have z2 : (ty == 2) = false := beq_eq_false_iff_ne.2 (by omega)
  have z3 : (ty == 3) = false := beq_eq_false_iff_ne.2 (by omega)
  have z4 : (ty == 4) = false := beq_eq_false_iff_ne.2 (by omega)
  have z5 : (ty == 5) = false := beq_eq_false_iff_ne.2 (by omega)
  have z6 : (ty == 6) = false := beq_eq_false_iff_ne.2 (by omega)
  have z9 : (ty == 9) = false := beq_eq_false_iff_ne.2 (by omega)
  have z7 : (ty == 7) = true := beq_iff_eq.2 (by omega)
  have y0 : ((v.size : Int) != 4) = true := bne_iff_ne.2 (by omega)
  clear hk
  go_enter Tryz.func61, Tryz.ntmps61
  go_wp2_with (first
    | (refine wpList_load_row rfl 74 (.tmp 2) rfl w.heap.size rfl 74 #[.int .i64 ty, .int .i64 fl, .int .u32 (tsn : Int), .int .u32 (tag : Int), .int .u32 (win : Int), .int .u32 (ppid : Int), .int .u16 (st : Int), .int .u16 (ssn : Int), .int .u16 (outs : Int), .int .u16 (ins : Int), .slice A1 gaps.length k1, .slice A2 dups.length k2, .slice A3 items.length k3, .string text] (0, 0) _ (rdS_new #[.int .i64 ty, .int .i64 fl, .int .u32 (tsn : Int), .int .u32 (tag : Int), .int .u32 (win : Int), .int .u32 (ppid : Int), .int .u16 (st : Int), .int .u16 (ssn : Int), .int .u16 (outs : Int), .int .u16 (ins : Int), .slice A1 gaps.length k1, .slice A2 dups.length k2, .slice A3 items.length k3, .string text] #[.int .i64 0, .int .i64 0, .int .u32 0, .int .u32 0, .int .u32 0, .int .u32 0, .int .u16 0, .int .u16 0, .int .u16 0, .int .u16 0, .slice none 0 0, .slice none 0 0, .slice none 0 0, .string ⟨#[]⟩] w).own Tryz.underlying74 rfl HRS.out ?_))
  exact bodyPost_ret (v := .tuple #[.agg #[.int .i64 ty, .int .i64 fl, .int .u32 (tsn : Int), .int .u32 (tag : Int), .int .u32 (win : Int), .int .u32 (ppid : Int), .int .u16 (st : Int), .int .u16 (ssn : Int), .int .u16 (outs : Int), .int .u16 (ins : Int), .slice A1 gaps.length k1, .slice A2 dups.length k2, .slice A3 items.length k3, .string text], .bool false]) (results_row1 Tryz.results61 _ _ (w.heap.size + 1) _ #[.int .i64 ty, .int .i64 fl, .int .u32 (tsn : Int), .int .u32 (tag : Int), .int .u32 (win : Int), .int .u32 (ppid : Int), .int .u16 (st : Int), .int .u16 (ssn : Int), .int .u16 (outs : Int), .int .u16 (ins : Int), .slice A1 gaps.length k1, .slice A2 dups.length k2, .slice A3 items.length k3, .string text] _ _ (by rfl) (rdS_new #[.int .i64 ty, .int .i64 fl, .int .u32 (tsn : Int), .int .u32 (tag : Int), .int .u32 (win : Int), .int .u32 (ppid : Int), .int .u16 (st : Int), .int .u16 (ssn : Int), .int .u16 (outs : Int), .int .u16 (ins : Int), .slice A1 gaps.length k1, .slice A2 dups.length k2, .slice A3 items.length k3, .string text] #[.int .i64 ty, .int .i64 fl, .int .u32 (tsn : Int), .int .u32 (tag : Int), .int .u32 (win : Int), .int .u32 (ppid : Int), .int .u16 (st : Int), .int .u16 (ssn : Int), .int .u16 (outs : Int), .int .u16 (ins : Int), .slice A1 gaps.length k1, .slice A2 dups.length k2, .slice A3 items.length k3, .string text] w).out Tryz.underlying74 rfl HRS.out) rfl ⟨rfl, (rdS_new #[.int .i64 ty, .int .i64 fl, .int .u32 (tsn : Int), .int .u32 (tag : Int), .int .u32 (win : Int), .int .u32 (ppid : Int), .int .u16 (st : Int), .int .u16 (ssn : Int), .int .u16 (outs : Int), .int .u16 (ins : Int), .slice A1 gaps.length k1, .slice A2 dups.length k2, .slice A3 items.length k3, .string text] #[.int .i64 ty, .int .i64 fl, .int .u32 (tsn : Int), .int .u32 (tag : Int), .int .u32 (win : Int), .int .u32 (ppid : Int), .int .u16 (st : Int), .int .u16 (ssn : Int), .int .u16 (outs : Int), .int .u16 (ins : Int), .slice A1 gaps.length k1, .slice A2 dups.length k2, .slice A3 items.length k3, .string text] w).below⟩
set_option maxHeartbeats 8000000 in
theorem rread_7 (c : Ck) (g d it : Value) (v : ByteArray) (hv : v.size ≤ 1000000) (w : World) (hp : Parts w c g d it) (hk : c.type = 7 ∧ v.size = 4) :
    Calls Tryz.prog 61 #[.agg (cellsC c g d it), .string v] w fun e w' => e = .returned (.tuple #[.agg (cellsC { c with tsn := num4 v.data.toList 0 } g d it), .bool true]) ∧ Below w.heap.size w w' := by
  have HRS := Lib.hid rkSize8
  obtain ⟨⟨A1, k1, rfl⟩, ⟨A2, k2, rfl⟩, ⟨A3, k3, rfl⟩⟩ := hp.slices
  clear hp
  obtain ⟨ty, fl, tsn, tag, win, ppid, st, ssn, outs, ins, gaps, dups, items, text⟩ := c
  dsimp only [cellsC] at *
  have z0 : (ty == 0) = false := beq_eq_false_iff_ne.2 (by omega)
  have z1 : (ty == 1) = false := beq_eq_false_iff_ne.2 (by omega)
  have z2 : (ty == 2) = false := beq_eq_false_iff_ne.2 (by omega)
  have z3 : (ty == 3) = false := beq_eq_false_iff_ne.2 (by omega)
  have z4 : (ty == 4) = false := beq_eq_false_iff_ne.2 (by omega)
  have z5 : (ty == 5) = false := beq_eq_false_iff_ne.2 (by omega)
  have z6 : (ty == 6) = false := beq_eq_false_iff_ne.2 (by omega)
  have z9 : (ty == 9) = false := beq_eq_false_iff_ne.2 (by omega)
  have z7 : (ty == 7) = true := beq_iff_eq.2 (by omega)
  have y0 : ((v.size : Int) != 4) = false := by rw [bne_eq_false_iff_eq]; omega
  have HN0 := Lib.hid (fun W => rnumber7_4 v hk.2 W)
  clear hk
  generalize num4 v.data.toList 0 = m0 at *
  go_enter Tryz.func61, Tryz.ntmps61
  go_wp2_with fail
  refine (HN0.out _).mono ?_
  rintro _ wx ⟨rfl, rfl⟩
  go_wp2_with (first
    | (refine wpList_load_row rfl 74 (.tmp 2) rfl w.heap.size rfl 74 #[.int .i64 ty, .int .i64 fl, .int .u32 (m0 : Int), .int .u32 (tag : Int), .int .u32 (win : Int), .int .u32 (ppid : Int), .int .u16 (st : Int), .int .u16 (ssn : Int), .int .u16 (outs : Int), .int .u16 (ins : Int), .slice A1 gaps.length k1, .slice A2 dups.length k2, .slice A3 items.length k3, .string text] (0, 0) _ (rdS_new #[.int .i64 ty, .int .i64 fl, .int .u32 (m0 : Int), .int .u32 (tag : Int), .int .u32 (win : Int), .int .u32 (ppid : Int), .int .u16 (st : Int), .int .u16 (ssn : Int), .int .u16 (outs : Int), .int .u16 (ins : Int), .slice A1 gaps.length k1, .slice A2 dups.length k2, .slice A3 items.length k3, .string text] #[.int .i64 0, .int .i64 0, .int .u32 0, .int .u32 0, .int .u32 0, .int .u32 0, .int .u16 0, .int .u16 0, .int .u16 0, .int .u16 0, .slice none 0 0, .slice none 0 0, .slice none 0 0, .string ⟨#[]⟩] w).own Tryz.underlying74 rfl HRS.out ?_))
  exact bodyPost_ret (v := .tuple #[.agg #[.int .i64 ty, .int .i64 fl, .int .u32 (m0 : Int), .int .u32 (tag : Int), .int .u32 (win : Int), .int .u32 (ppid : Int), .int .u16 (st : Int), .int .u16 (ssn : Int), .int .u16 (outs : Int), .int .u16 (ins : Int), .slice A1 gaps.length k1, .slice A2 dups.length k2, .slice A3 items.length k3, .string text], .bool true]) (results_row1 Tryz.results61 _ _ (w.heap.size + 1) _ #[.int .i64 ty, .int .i64 fl, .int .u32 (m0 : Int), .int .u32 (tag : Int), .int .u32 (win : Int), .int .u32 (ppid : Int), .int .u16 (st : Int), .int .u16 (ssn : Int), .int .u16 (outs : Int), .int .u16 (ins : Int), .slice A1 gaps.length k1, .slice A2 dups.length k2, .slice A3 items.length k3, .string text] _ _ (by rfl) (rdS_new #[.int .i64 ty, .int .i64 fl, .int .u32 (m0 : Int), .int .u32 (tag : Int), .int .u32 (win : Int), .int .u32 (ppid : Int), .int .u16 (st : Int), .int .u16 (ssn : Int), .int .u16 (outs : Int), .int .u16 (ins : Int), .slice A1 gaps.length k1, .slice A2 dups.length k2, .slice A3 items.length k3, .string text] #[.int .i64 ty, .int .i64 fl, .int .u32 (m0 : Int), .int .u32 (tag : Int), .int .u32 (win : Int), .int .u32 (ppid : Int), .int .u16 (st : Int), .int .u16 (ssn : Int), .int .u16 (outs : Int), .int .u16 (ins : Int), .slice A1 gaps.length k1, .slice A2 dups.length k2, .slice A3 items.length k3, .string text] w).out Tryz.underlying74 rfl HRS.out) rfl ⟨rfl, (rdS_new #[.int .i64 ty, .int .i64 fl, .int .u32 (m0 : Int), .int .u32 (tag : Int), .int .u32 (win : Int), .int .u32 (ppid : Int), .int .u16 (st : Int), .int .u16 (ssn : Int), .int .u16 (outs : Int), .int .u16 (ins : Int), .slice A1 gaps.length k1, .slice A2 dups.length k2, .slice A3 items.length k3, .string text] #[.int .i64 ty, .int .i64 fl, .int .u32 (m0 : Int), .int .u32 (tag : Int), .int .u32 (win : Int), .int .u32 (ppid : Int), .int .u16 (st : Int), .int .u16 (ssn : Int), .int .u16 (outs : Int), .int .u16 (ins : Int), .slice A1 gaps.length k1, .slice A2 dups.length k2, .slice A3 items.length k3, .string text] w).below⟩
theorem num4_cut8 (v : ByteArray) (a b : Nat) (h : b ≤ v.size) (hab : a + 4 = b) (W : World) : Calls Tryz.prog 60 #[.string (v.extract a b)] W fun e w' => e = .returned (.int .u32 ((num4 v.data.toList a : Nat) : Int)) ∧ w' = W := by
  have hs : (v.extract a b).size = 4 := by rw [ByteArray.size_extract]; omega
  have h1 := rnumber7_4 (v.extract a b) hs W
  have e : num4 (v.extract a b).data.toList 0 = num4 v.data.toList a := by
    have hb : ∀ i, i < 4 → byteAt (v.extract a b).data.toList i = byteAt v.data.toList (a + i) := fun i hi => by
      rw [cut_list]
      unfold byteAt
      simp only [List.getD_eq_getElem?_getD, List.getElem?_take, List.getElem?_drop]
      rw [if_pos (by omega)]
    unfold num4 num
    rw [hb 0 (by omega), hb (0 + 1) (by omega), hb (0 + 2) (by omega), hb (0 + 2 + 1) (by omega)]
    simp only [Nat.add_zero, Nat.zero_add, Nat.add_assoc]
  rw [e] at h1
  exact h1
theorem num2_cut8 (v : ByteArray) (a b : Nat) (h : b ≤ v.size) (hab : a + 2 = b) (W : World) : Calls Tryz.prog 60 #[.string (v.extract a b)] W fun e w' => e = .returned (.int .u32 ((num v.data.toList a : Nat) : Int)) ∧ w' = W := by
  have hs : (v.extract a b).size = 2 := by rw [ByteArray.size_extract]; omega
  have h1 := rnumber7_2 (v.extract a b) hs W
  have e : num (v.extract a b).data.toList 0 = num v.data.toList a := by
    have hb : ∀ i, i < 2 → byteAt (v.extract a b).data.toList i = byteAt v.data.toList (a + i) := fun i hi => by
      rw [cut_list]
      unfold byteAt
      simp only [List.getD_eq_getElem?_getD, List.getElem?_take, List.getElem?_drop]
      rw [if_pos (by omega)]
    unfold num
    rw [hb 0 (by omega), hb (0 + 1) (by omega)]
    simp only [Nat.add_zero, Nat.zero_add]
  rw [e] at h1
  exact h1
theorem cut_is8 (v : ByteArray) (a : Nat) : v.extract a v.size = cutB v a := by
  apply bytes_ext
  rw [cut_list]
  unfold cutB
  show _ = v.data.toList.drop a
  rw [List.take_of_length_le]
  rw [List.length_drop, ← size_list]
  omega
set_option maxHeartbeats 8000000 in
theorem rread_0 (c : Ck) (g d it : Value) (v : ByteArray) (hv : v.size ≤ 1000000) (w : World) (hp : Parts w c g d it) (hk : c.type = 0 ∧ 12 ≤ v.size) :
    Calls Tryz.prog 61 #[.agg (cellsC c g d it), .string v] w fun e w' => e = .returned (.tuple #[.agg (cellsC { c with tsn := num4 v.data.toList 0, stream := num v.data.toList 4, ssn := num v.data.toList 6, ppid := num4 v.data.toList 8, text := cutB v 12 } g d it), .bool true]) ∧ Below w.heap.size w w' := by
  have HRS := Lib.hid rkSize8
  obtain ⟨⟨A1, k1, rfl⟩, ⟨A2, k2, rfl⟩, ⟨A3, k3, rfl⟩⟩ := hp.slices
  clear hp
  obtain ⟨ty, fl, tsn, tag, win, ppid, st, ssn, outs, ins, gaps, dups, items, text⟩ := c
  dsimp only [cellsC] at *
  have z0 : (ty == 0) = true := beq_iff_eq.2 (by omega)
  have y0 : decide ((v.size : Int) < 12) = false := decide_eq_false (by omega)
  have y4 : (4 : Int) ≤ (v.size : Int) := by omega
  have y6 : (6 : Int) ≤ (v.size : Int) := by omega
  have y8 : (8 : Int) ≤ (v.size : Int) := by omega
  have y12 : (12 : Int) ≤ (v.size : Int) := by omega
  have HN0 := Lib.hid (fun W => num4_cut8 v 0 4 (by omega) rfl W)
  have HN1 := Lib.hid (fun W => num2_cut8 v 4 6 (by omega) rfl W)
  have HN2 := Lib.hid (fun W => num2_cut8 v 6 8 (by omega) rfl W)
  have HN3 := Lib.hid (fun W => num4_cut8 v 8 12 (by omega) rfl W)
  have b1 := num_lt v.data.toList 4
  have b2 := num_lt v.data.toList 6
  rw [← cut_is8]
  clear hk
  generalize num4 v.data.toList 0 = m0 at *
  generalize num v.data.toList 4 = m1 at *
  generalize num v.data.toList 6 = m2 at *
  generalize num4 v.data.toList 8 = m3 at *
  have j1 : (m1 : Int) % 65536 = (m1 : Int) := by omega
  have j2 : (m2 : Int) % 65536 = (m2 : Int) := by omega
  have j3 : IntKind.u16.wrap (m1 : Int) = (m1 : Int) := by rw [IntKind.wrap_u16]; omega
  have j4 : IntKind.u16.wrap (m2 : Int) = (m2 : Int) := by rw [IntKind.wrap_u16]; omega
  go_enter Tryz.func61, Tryz.ntmps61
  go_wp2_with fail
  refine (HN0.out _).mono ?_
  rintro _ wx ⟨rfl, rfl⟩
  go_wp2_with fail
  refine (HN1.out _).mono ?_
  rintro _ wx ⟨rfl, rfl⟩
  go_wp2_with fail
  refine (HN2.out _).mono ?_
  rintro _ wx ⟨rfl, rfl⟩
  go_wp2_with fail
  refine (HN3.out _).mono ?_
  rintro _ wx ⟨rfl, rfl⟩
  go_wp2_with (first
    | (refine wpList_load_row rfl 74 (.tmp 2) rfl w.heap.size rfl 74 #[.int .i64 ty, .int .i64 fl, .int .u32 (m0 : Int), .int .u32 (tag : Int), .int .u32 (win : Int), .int .u32 (m3 : Int), .int .u16 (m1 : Int), .int .u16 (m2 : Int), .int .u16 (outs : Int), .int .u16 (ins : Int), .slice A1 gaps.length k1, .slice A2 dups.length k2, .slice A3 items.length k3, .string (v.extract 12 v.size)] (0, 0) _ (rdS_new #[.int .i64 ty, .int .i64 fl, .int .u32 (m0 : Int), .int .u32 (tag : Int), .int .u32 (win : Int), .int .u32 (m3 : Int), .int .u16 (m1 : Int), .int .u16 (m2 : Int), .int .u16 (outs : Int), .int .u16 (ins : Int), .slice A1 gaps.length k1, .slice A2 dups.length k2, .slice A3 items.length k3, .string (v.extract 12 v.size)] #[.int .i64 0, .int .i64 0, .int .u32 0, .int .u32 0, .int .u32 0, .int .u32 0, .int .u16 0, .int .u16 0, .int .u16 0, .int .u16 0, .slice none 0 0, .slice none 0 0, .slice none 0 0, .string ⟨#[]⟩] w).own Tryz.underlying74 rfl HRS.out ?_))
  exact bodyPost_ret (v := .tuple #[.agg #[.int .i64 ty, .int .i64 fl, .int .u32 (m0 : Int), .int .u32 (tag : Int), .int .u32 (win : Int), .int .u32 (m3 : Int), .int .u16 (m1 : Int), .int .u16 (m2 : Int), .int .u16 (outs : Int), .int .u16 (ins : Int), .slice A1 gaps.length k1, .slice A2 dups.length k2, .slice A3 items.length k3, .string (v.extract 12 v.size)], .bool true]) (results_row1 Tryz.results61 _ _ (w.heap.size + 1) _ #[.int .i64 ty, .int .i64 fl, .int .u32 (m0 : Int), .int .u32 (tag : Int), .int .u32 (win : Int), .int .u32 (m3 : Int), .int .u16 (m1 : Int), .int .u16 (m2 : Int), .int .u16 (outs : Int), .int .u16 (ins : Int), .slice A1 gaps.length k1, .slice A2 dups.length k2, .slice A3 items.length k3, .string (v.extract 12 v.size)] _ _ (by rfl) (rdS_new #[.int .i64 ty, .int .i64 fl, .int .u32 (m0 : Int), .int .u32 (tag : Int), .int .u32 (win : Int), .int .u32 (m3 : Int), .int .u16 (m1 : Int), .int .u16 (m2 : Int), .int .u16 (outs : Int), .int .u16 (ins : Int), .slice A1 gaps.length k1, .slice A2 dups.length k2, .slice A3 items.length k3, .string (v.extract 12 v.size)] #[.int .i64 ty, .int .i64 fl, .int .u32 (m0 : Int), .int .u32 (tag : Int), .int .u32 (win : Int), .int .u32 (m3 : Int), .int .u16 (m1 : Int), .int .u16 (m2 : Int), .int .u16 (outs : Int), .int .u16 (ins : Int), .slice A1 gaps.length k1, .slice A2 dups.length k2, .slice A3 items.length k3, .string (v.extract 12 v.size)] w).out Tryz.underlying74 rfl HRS.out) rfl ⟨rfl, (rdS_new #[.int .i64 ty, .int .i64 fl, .int .u32 (m0 : Int), .int .u32 (tag : Int), .int .u32 (win : Int), .int .u32 (m3 : Int), .int .u16 (m1 : Int), .int .u16 (m2 : Int), .int .u16 (outs : Int), .int .u16 (ins : Int), .slice A1 gaps.length k1, .slice A2 dups.length k2, .slice A3 items.length k3, .string (v.extract 12 v.size)] #[.int .i64 ty, .int .i64 fl, .int .u32 (m0 : Int), .int .u32 (tag : Int), .int .u32 (win : Int), .int .u32 (m3 : Int), .int .u16 (m1 : Int), .int .u16 (m2 : Int), .int .u16 (outs : Int), .int .u16 (ins : Int), .slice A1 gaps.length k1, .slice A2 dups.length k2, .slice A3 items.length k3, .string (v.extract 12 v.size)] w).below⟩
end Go.Proofs.YtlbaockipeojhaaGreat
end
section
namespace Go.Proofs.YtlbaockipeojhaaGreat
open Go.RowKit
set_option linter.unusedVariables false
set_option linter.unusedSimpArgs false
set_option maxRecDepth 100000

set_option maxHeartbeats 8000000 in
theorem rread_items (c : Ck) (g d it : Value) (v : ByteArray) (hv : v.size ≤ 1000000) (w : World) (hp : Parts w c g d it) (hk : c.type = 4 ∨ c.type = 5 ∨ c.type = 6 ∨ c.type = 9) :
    Calls Tryz.prog 61 #[.agg (cellsC c g d it), .string v] w fun e w' => ∃ it', e = .returned (.tuple #[.agg (cellsC (itemsC c v).1 g d it'), .bool (itemsC c v).2]) ∧ OwnG w' w.heap.size 105 2 it' (parseB v).1.length (flatI (parseB v).1) ∧ Below w.heap.size w w' := by
  have HIT := Lib.hid (fun W (hW : Below w.heap.size w W) => ritems_any c g d it v hv W (hp.below hW))
  have HRS := Lib.hid rkSize8
  obtain ⟨⟨A1, k1, rfl⟩, ⟨A2, k2, rfl⟩, ⟨A3, k3, rfl⟩⟩ := hp.slices
  clear hp
  obtain ⟨ty, fl, tsn, tag, win, ppid, st, ssn, outs, ins, gaps, dups, items, text⟩ := c
  unfold itemsC at *
  dsimp only [cellsC] at *
  generalize (decide ((parseB v).2.2 = 0)) = q at *
  generalize hn4 : (parseB v).1.length = n4 at *
  have z0 : (ty == 0) = false := beq_eq_false_iff_ne.2 (by omega)
  have z1 : (ty == 1) = false := beq_eq_false_iff_ne.2 (by omega)
  have z2 : (ty == 2) = false := beq_eq_false_iff_ne.2 (by omega)
  have z3 : (ty == 3) = false := beq_eq_false_iff_ne.2 (by omega)
  have HK := Lib.hid hk
  clear hk
  go_enter Tryz.func61, Tryz.ntmps61
  by_cases h4 : (ty == 4) = true
  case neg =>
   rw [Bool.not_eq_true] at h4
   by_cases h5 : (ty == 5) = true
   case neg =>
    rw [Bool.not_eq_true] at h5
    by_cases h6 : (ty == 6) = true
    case neg =>
     rw [Bool.not_eq_true] at h6
     have h9 : (ty == 9) = true := by have := HK.out; have a4 := beq_eq_false_iff_ne.1 h4; have a5 := beq_eq_false_iff_ne.1 h5; have a6 := beq_eq_false_iff_ne.1 h6; exact beq_iff_eq.2 (by omega)
     go_wp2_with (first
       | (refine wpList_load_row rfl 74 (.tmp 2) rfl w.heap.size rfl 74 #[.int .i64 ty, .int .i64 fl, .int .u32 (tsn : Int), .int .u32 (tag : Int), .int .u32 (win : Int), .int .u32 (ppid : Int), .int .u16 (st : Int), .int .u16 (ssn : Int), .int .u16 (outs : Int), .int .u16 (ins : Int), .slice A1 gaps.length k1, .slice A2 dups.length k2, .slice A3 items.length k3, .string text] (0, 0) _ (rdS_new #[.int .i64 ty, .int .i64 fl, .int .u32 (tsn : Int), .int .u32 (tag : Int), .int .u32 (win : Int), .int .u32 (ppid : Int), .int .u16 (st : Int), .int .u16 (ssn : Int), .int .u16 (outs : Int), .int .u16 (ins : Int), .slice A1 gaps.length k1, .slice A2 dups.length k2, .slice A3 items.length k3, .string text] #[.int .i64 0, .int .i64 0, .int .u32 0, .int .u32 0, .int .u32 0, .int .u32 0, .int .u16 0, .int .u16 0, .int .u16 0, .int .u16 0, .slice none 0 0, .slice none 0 0, .slice none 0 0, .string ⟨#[]⟩] w).own Tryz.underlying74 rfl HRS.out ?_))
     refine (HIT.out _ (rdS_new #[.int .i64 ty, .int .i64 fl, .int .u32 (tsn : Int), .int .u32 (tag : Int), .int .u32 (win : Int), .int .u32 (ppid : Int), .int .u16 (st : Int), .int .u16 (ssn : Int), .int .u16 (outs : Int), .int .u16 (ins : Int), .slice A1 gaps.length k1, .slice A2 dups.length k2, .slice A3 items.length k3, .string text] #[.int .i64 0, .int .i64 0, .int .u32 0, .int .u32 0, .int .u32 0, .int .u32 0, .int .u16 0, .int .u16 0, .int .u16 0, .int .u16 0, .slice none 0 0, .slice none 0 0, .slice none 0 0, .string ⟨#[]⟩] w).below).mono ?_
     rintro _ w1 ⟨V4, rfl, hown, hb1⟩
     obtain ⟨A4, k4, rfl, -⟩ := hown.slice
     have HSE := Lib.hid ((rdS_new #[.int .i64 ty, .int .i64 fl, .int .u32 (tsn : Int), .int .u32 (tag : Int), .int .u32 (win : Int), .int .u32 (ppid : Int), .int .u16 (st : Int), .int .u16 (ssn : Int), .int .u16 (outs : Int), .int .u16 (ins : Int), .slice A1 gaps.length k1, .slice A2 dups.length k2, .slice A3 items.length k3, .string text] #[.int .i64 0, .int .i64 0, .int .u32 0, .int .u32 0, .int .u32 0, .int .u32 0, .int .u16 0, .int .u16 0, .int .u16 0, .int .u16 0, .slice none 0 0, .slice none 0 0, .slice none 0 0, .string ⟨#[]⟩] w).later hb1)
     have HO := Lib.hid hown
     have HONE := Lib.hid (show (#[.int .i64 ty, .int .i64 fl, .int .u32 (tsn : Int), .int .u32 (tag : Int), .int .u32 (win : Int), .int .u32 (ppid : Int), .int .u16 (st : Int), .int .u16 (ssn : Int), .int .u16 (outs : Int), .int .u16 (ins : Int), .slice A1 gaps.length k1, .slice A2 dups.length k2, .slice A4 n4 k4, .string text] : Array Value).all (·.oneCell') = true from by simp [Value.oneCell'])
     have HO2 : Hid (OwnG (w1.setRow (w.heap.size + 1) #[.int .i64 ty, .int .i64 fl, .int .u32 (tsn : Int), .int .u32 (tag : Int), .int .u32 (win : Int), .int .u32 (ppid : Int), .int .u16 (st : Int), .int .u16 (ssn : Int), .int .u16 (outs : Int), .int .u16 (ins : Int), .slice A1 gaps.length k1, .slice A2 dups.length k2, .slice A4 n4 k4, .string text]) w.heap.size 105 2 (.slice A4 n4 k4) n4 (flatI (parseB v).1)) := Lib.hid (by
       have hlt := fun j hj => HO.out.lt j hj
       refine (OwnG.base HO.out (by simp only [World.size_alloc]; omega)).keep fun j hj => ?_
       have := (hlt j hj).1
       simp only [World.size_alloc] at this
       rw [setRow_other _ _ _ _ (by omega)])
     clear hown hb1 HIT
     go_wp2_with (refine wpList_store_row rfl 74 (.tmp 4) (.tmp 86) rfl (w.heap.size + 1) #[.int .i64 ty, .int .i64 fl, .int .u32 (tsn : Int), .int .u32 (tag : Int), .int .u32 (win : Int), .int .u32 (ppid : Int), .int .u16 (st : Int), .int .u16 (ssn : Int), .int .u16 (outs : Int), .int .u16 (ins : Int), .slice A1 gaps.length k1, .slice A2 dups.length k2, .slice A4 n4 k4, .string text] rfl rfl 74 _ HSE.out.out HRS.out rfl HONE.out ?_)
     exact bodyPost_ret (v := .tuple #[.agg #[.int .i64 ty, .int .i64 fl, .int .u32 (tsn : Int), .int .u32 (tag : Int), .int .u32 (win : Int), .int .u32 (ppid : Int), .int .u16 (st : Int), .int .u16 (ssn : Int), .int .u16 (outs : Int), .int .u16 (ins : Int), .slice A1 gaps.length k1, .slice A2 dups.length k2, .slice A4 n4 k4, .string text], .bool q]) (results_row1 Tryz.results61 _ _ (w.heap.size + 1) _ #[.int .i64 ty, .int .i64 fl, .int .u32 (tsn : Int), .int .u32 (tag : Int), .int .u32 (win : Int), .int .u32 (ppid : Int), .int .u16 (st : Int), .int .u16 (ssn : Int), .int .u16 (outs : Int), .int .u16 (ins : Int), .slice A1 gaps.length k1, .slice A2 dups.length k2, .slice A4 n4 k4, .string text] _ _ (by rfl) (setRow_heap _ _ _ _ _ _ HSE.out.out) Tryz.underlying74 rfl HRS.out) rfl ⟨_, rfl, HO2.out, below_setRow HSE.out.below (by omega) _⟩
    case pos =>
     go_wp2_with (first
       | (refine wpList_load_row rfl 74 (.tmp 2) rfl w.heap.size rfl 74 #[.int .i64 ty, .int .i64 fl, .int .u32 (tsn : Int), .int .u32 (tag : Int), .int .u32 (win : Int), .int .u32 (ppid : Int), .int .u16 (st : Int), .int .u16 (ssn : Int), .int .u16 (outs : Int), .int .u16 (ins : Int), .slice A1 gaps.length k1, .slice A2 dups.length k2, .slice A3 items.length k3, .string text] (0, 0) _ (rdS_new #[.int .i64 ty, .int .i64 fl, .int .u32 (tsn : Int), .int .u32 (tag : Int), .int .u32 (win : Int), .int .u32 (ppid : Int), .int .u16 (st : Int), .int .u16 (ssn : Int), .int .u16 (outs : Int), .int .u16 (ins : Int), .slice A1 gaps.length k1, .slice A2 dups.length k2, .slice A3 items.length k3, .string text] #[.int .i64 0, .int .i64 0, .int .u32 0, .int .u32 0, .int .u32 0, .int .u32 0, .int .u16 0, .int .u16 0, .int .u16 0, .int .u16 0, .slice none 0 0, .slice none 0 0, .slice none 0 0, .string ⟨#[]⟩] w).own Tryz.underlying74 rfl HRS.out ?_))
     refine (HIT.out _ (rdS_new #[.int .i64 ty, .int .i64 fl, .int .u32 (tsn : Int), .int .u32 (tag : Int), .int .u32 (win : Int), .int .u32 (ppid : Int), .int .u16 (st : Int), .int .u16 (ssn : Int), .int .u16 (outs : Int), .int .u16 (ins : Int), .slice A1 gaps.length k1, .slice A2 dups.length k2, .slice A3 items.length k3, .string text] #[.int .i64 0, .int .i64 0, .int .u32 0, .int .u32 0, .int .u32 0, .int .u32 0, .int .u16 0, .int .u16 0, .int .u16 0, .int .u16 0, .slice none 0 0, .slice none 0 0, .slice none 0 0, .string ⟨#[]⟩] w).below).mono ?_
     rintro _ w1 ⟨V4, rfl, hown, hb1⟩
     obtain ⟨A4, k4, rfl, -⟩ := hown.slice
     have HSE := Lib.hid ((rdS_new #[.int .i64 ty, .int .i64 fl, .int .u32 (tsn : Int), .int .u32 (tag : Int), .int .u32 (win : Int), .int .u32 (ppid : Int), .int .u16 (st : Int), .int .u16 (ssn : Int), .int .u16 (outs : Int), .int .u16 (ins : Int), .slice A1 gaps.length k1, .slice A2 dups.length k2, .slice A3 items.length k3, .string text] #[.int .i64 0, .int .i64 0, .int .u32 0, .int .u32 0, .int .u32 0, .int .u32 0, .int .u16 0, .int .u16 0, .int .u16 0, .int .u16 0, .slice none 0 0, .slice none 0 0, .slice none 0 0, .string ⟨#[]⟩] w).later hb1)
     have HO := Lib.hid hown
     have HONE := Lib.hid (show (#[.int .i64 ty, .int .i64 fl, .int .u32 (tsn : Int), .int .u32 (tag : Int), .int .u32 (win : Int), .int .u32 (ppid : Int), .int .u16 (st : Int), .int .u16 (ssn : Int), .int .u16 (outs : Int), .int .u16 (ins : Int), .slice A1 gaps.length k1, .slice A2 dups.length k2, .slice A4 n4 k4, .string text] : Array Value).all (·.oneCell') = true from by simp [Value.oneCell'])
     have HO2 : Hid (OwnG (w1.setRow (w.heap.size + 1) #[.int .i64 ty, .int .i64 fl, .int .u32 (tsn : Int), .int .u32 (tag : Int), .int .u32 (win : Int), .int .u32 (ppid : Int), .int .u16 (st : Int), .int .u16 (ssn : Int), .int .u16 (outs : Int), .int .u16 (ins : Int), .slice A1 gaps.length k1, .slice A2 dups.length k2, .slice A4 n4 k4, .string text]) w.heap.size 105 2 (.slice A4 n4 k4) n4 (flatI (parseB v).1)) := Lib.hid (by
       have hlt := fun j hj => HO.out.lt j hj
       refine (OwnG.base HO.out (by simp only [World.size_alloc]; omega)).keep fun j hj => ?_
       have := (hlt j hj).1
       simp only [World.size_alloc] at this
       rw [setRow_other _ _ _ _ (by omega)])
     clear hown hb1 HIT
     go_wp2_with (refine wpList_store_row rfl 74 (.tmp 4) (.tmp 86) rfl (w.heap.size + 1) #[.int .i64 ty, .int .i64 fl, .int .u32 (tsn : Int), .int .u32 (tag : Int), .int .u32 (win : Int), .int .u32 (ppid : Int), .int .u16 (st : Int), .int .u16 (ssn : Int), .int .u16 (outs : Int), .int .u16 (ins : Int), .slice A1 gaps.length k1, .slice A2 dups.length k2, .slice A4 n4 k4, .string text] rfl rfl 74 _ HSE.out.out HRS.out rfl HONE.out ?_)
     exact bodyPost_ret (v := .tuple #[.agg #[.int .i64 ty, .int .i64 fl, .int .u32 (tsn : Int), .int .u32 (tag : Int), .int .u32 (win : Int), .int .u32 (ppid : Int), .int .u16 (st : Int), .int .u16 (ssn : Int), .int .u16 (outs : Int), .int .u16 (ins : Int), .slice A1 gaps.length k1, .slice A2 dups.length k2, .slice A4 n4 k4, .string text], .bool q]) (results_row1 Tryz.results61 _ _ (w.heap.size + 1) _ #[.int .i64 ty, .int .i64 fl, .int .u32 (tsn : Int), .int .u32 (tag : Int), .int .u32 (win : Int), .int .u32 (ppid : Int), .int .u16 (st : Int), .int .u16 (ssn : Int), .int .u16 (outs : Int), .int .u16 (ins : Int), .slice A1 gaps.length k1, .slice A2 dups.length k2, .slice A4 n4 k4, .string text] _ _ (by rfl) (setRow_heap _ _ _ _ _ _ HSE.out.out) Tryz.underlying74 rfl HRS.out) rfl ⟨_, rfl, HO2.out, below_setRow HSE.out.below (by omega) _⟩
   case pos =>
     go_wp2_with (first
       | (refine wpList_load_row rfl 74 (.tmp 2) rfl w.heap.size rfl 74 #[.int .i64 ty, .int .i64 fl, .int .u32 (tsn : Int), .int .u32 (tag : Int), .int .u32 (win : Int), .int .u32 (ppid : Int), .int .u16 (st : Int), .int .u16 (ssn : Int), .int .u16 (outs : Int), .int .u16 (ins : Int), .slice A1 gaps.length k1, .slice A2 dups.length k2, .slice A3 items.length k3, .string text] (0, 0) _ (rdS_new #[.int .i64 ty, .int .i64 fl, .int .u32 (tsn : Int), .int .u32 (tag : Int), .int .u32 (win : Int), .int .u32 (ppid : Int), .int .u16 (st : Int), .int .u16 (ssn : Int), .int .u16 (outs : Int), .int .u16 (ins : Int), .slice A1 gaps.length k1, .slice A2 dups.length k2, .slice A3 items.length k3, .string text] #[.int .i64 0, .int .i64 0, .int .u32 0, .int .u32 0, .int .u32 0, .int .u32 0, .int .u16 0, .int .u16 0, .int .u16 0, .int .u16 0, .slice none 0 0, .slice none 0 0, .slice none 0 0, .string ⟨#[]⟩] w).own Tryz.underlying74 rfl HRS.out ?_))
     refine (HIT.out _ (rdS_new #[.int .i64 ty, .int .i64 fl, .int .u32 (tsn : Int), .int .u32 (tag : Int), .int .u32 (win : Int), .int .u32 (ppid : Int), .int .u16 (st : Int), .int .u16 (ssn : Int), .int .u16 (outs : Int), .int .u16 (ins : Int), .slice A1 gaps.length k1, .slice A2 dups.length k2, .slice A3 items.length k3, .string text] #[.int .i64 0, .int .i64 0, .int .u32 0, .int .u32 0, .int .u32 0, .int .u32 0, .int .u16 0, .int .u16 0, .int .u16 0, .int .u16 0, .slice none 0 0, .slice none 0 0, .slice none 0 0, .string ⟨#[]⟩] w).below).mono ?_
     rintro _ w1 ⟨V4, rfl, hown, hb1⟩
     obtain ⟨A4, k4, rfl, -⟩ := hown.slice
     have HSE := Lib.hid ((rdS_new #[.int .i64 ty, .int .i64 fl, .int .u32 (tsn : Int), .int .u32 (tag : Int), .int .u32 (win : Int), .int .u32 (ppid : Int), .int .u16 (st : Int), .int .u16 (ssn : Int), .int .u16 (outs : Int), .int .u16 (ins : Int), .slice A1 gaps.length k1, .slice A2 dups.length k2, .slice A3 items.length k3, .string text] #[.int .i64 0, .int .i64 0, .int .u32 0, .int .u32 0, .int .u32 0, .int .u32 0, .int .u16 0, .int .u16 0, .int .u16 0, .int .u16 0, .slice none 0 0, .slice none 0 0, .slice none 0 0, .string ⟨#[]⟩] w).later hb1)
     have HO := Lib.hid hown
     have HONE := Lib.hid (show (#[.int .i64 ty, .int .i64 fl, .int .u32 (tsn : Int), .int .u32 (tag : Int), .int .u32 (win : Int), .int .u32 (ppid : Int), .int .u16 (st : Int), .int .u16 (ssn : Int), .int .u16 (outs : Int), .int .u16 (ins : Int), .slice A1 gaps.length k1, .slice A2 dups.length k2, .slice A4 n4 k4, .string text] : Array Value).all (·.oneCell') = true from by simp [Value.oneCell'])
     have HO2 : Hid (OwnG (w1.setRow (w.heap.size + 1) #[.int .i64 ty, .int .i64 fl, .int .u32 (tsn : Int), .int .u32 (tag : Int), .int .u32 (win : Int), .int .u32 (ppid : Int), .int .u16 (st : Int), .int .u16 (ssn : Int), .int .u16 (outs : Int), .int .u16 (ins : Int), .slice A1 gaps.length k1, .slice A2 dups.length k2, .slice A4 n4 k4, .string text]) w.heap.size 105 2 (.slice A4 n4 k4) n4 (flatI (parseB v).1)) := Lib.hid (by
       have hlt := fun j hj => HO.out.lt j hj
       refine (OwnG.base HO.out (by simp only [World.size_alloc]; omega)).keep fun j hj => ?_
       have := (hlt j hj).1
       simp only [World.size_alloc] at this
       rw [setRow_other _ _ _ _ (by omega)])
     clear hown hb1 HIT
     go_wp2_with (refine wpList_store_row rfl 74 (.tmp 4) (.tmp 86) rfl (w.heap.size + 1) #[.int .i64 ty, .int .i64 fl, .int .u32 (tsn : Int), .int .u32 (tag : Int), .int .u32 (win : Int), .int .u32 (ppid : Int), .int .u16 (st : Int), .int .u16 (ssn : Int), .int .u16 (outs : Int), .int .u16 (ins : Int), .slice A1 gaps.length k1, .slice A2 dups.length k2, .slice A4 n4 k4, .string text] rfl rfl 74 _ HSE.out.out HRS.out rfl HONE.out ?_)
     exact bodyPost_ret (v := .tuple #[.agg #[.int .i64 ty, .int .i64 fl, .int .u32 (tsn : Int), .int .u32 (tag : Int), .int .u32 (win : Int), .int .u32 (ppid : Int), .int .u16 (st : Int), .int .u16 (ssn : Int), .int .u16 (outs : Int), .int .u16 (ins : Int), .slice A1 gaps.length k1, .slice A2 dups.length k2, .slice A4 n4 k4, .string text], .bool q]) (results_row1 Tryz.results61 _ _ (w.heap.size + 1) _ #[.int .i64 ty, .int .i64 fl, .int .u32 (tsn : Int), .int .u32 (tag : Int), .int .u32 (win : Int), .int .u32 (ppid : Int), .int .u16 (st : Int), .int .u16 (ssn : Int), .int .u16 (outs : Int), .int .u16 (ins : Int), .slice A1 gaps.length k1, .slice A2 dups.length k2, .slice A4 n4 k4, .string text] _ _ (by rfl) (setRow_heap _ _ _ _ _ _ HSE.out.out) Tryz.underlying74 rfl HRS.out) rfl ⟨_, rfl, HO2.out, below_setRow HSE.out.below (by omega) _⟩
  case pos =>
     go_wp2_with (first
       | (refine wpList_load_row rfl 74 (.tmp 2) rfl w.heap.size rfl 74 #[.int .i64 ty, .int .i64 fl, .int .u32 (tsn : Int), .int .u32 (tag : Int), .int .u32 (win : Int), .int .u32 (ppid : Int), .int .u16 (st : Int), .int .u16 (ssn : Int), .int .u16 (outs : Int), .int .u16 (ins : Int), .slice A1 gaps.length k1, .slice A2 dups.length k2, .slice A3 items.length k3, .string text] (0, 0) _ (rdS_new #[.int .i64 ty, .int .i64 fl, .int .u32 (tsn : Int), .int .u32 (tag : Int), .int .u32 (win : Int), .int .u32 (ppid : Int), .int .u16 (st : Int), .int .u16 (ssn : Int), .int .u16 (outs : Int), .int .u16 (ins : Int), .slice A1 gaps.length k1, .slice A2 dups.length k2, .slice A3 items.length k3, .string text] #[.int .i64 0, .int .i64 0, .int .u32 0, .int .u32 0, .int .u32 0, .int .u32 0, .int .u16 0, .int .u16 0, .int .u16 0, .int .u16 0, .slice none 0 0, .slice none 0 0, .slice none 0 0, .string ⟨#[]⟩] w).own Tryz.underlying74 rfl HRS.out ?_))
     refine (HIT.out _ (rdS_new #[.int .i64 ty, .int .i64 fl, .int .u32 (tsn : Int), .int .u32 (tag : Int), .int .u32 (win : Int), .int .u32 (ppid : Int), .int .u16 (st : Int), .int .u16 (ssn : Int), .int .u16 (outs : Int), .int .u16 (ins : Int), .slice A1 gaps.length k1, .slice A2 dups.length k2, .slice A3 items.length k3, .string text] #[.int .i64 0, .int .i64 0, .int .u32 0, .int .u32 0, .int .u32 0, .int .u32 0, .int .u16 0, .int .u16 0, .int .u16 0, .int .u16 0, .slice none 0 0, .slice none 0 0, .slice none 0 0, .string ⟨#[]⟩] w).below).mono ?_
     rintro _ w1 ⟨V4, rfl, hown, hb1⟩
     obtain ⟨A4, k4, rfl, -⟩ := hown.slice
     have HSE := Lib.hid ((rdS_new #[.int .i64 ty, .int .i64 fl, .int .u32 (tsn : Int), .int .u32 (tag : Int), .int .u32 (win : Int), .int .u32 (ppid : Int), .int .u16 (st : Int), .int .u16 (ssn : Int), .int .u16 (outs : Int), .int .u16 (ins : Int), .slice A1 gaps.length k1, .slice A2 dups.length k2, .slice A3 items.length k3, .string text] #[.int .i64 0, .int .i64 0, .int .u32 0, .int .u32 0, .int .u32 0, .int .u32 0, .int .u16 0, .int .u16 0, .int .u16 0, .int .u16 0, .slice none 0 0, .slice none 0 0, .slice none 0 0, .string ⟨#[]⟩] w).later hb1)
     have HO := Lib.hid hown
     have HONE := Lib.hid (show (#[.int .i64 ty, .int .i64 fl, .int .u32 (tsn : Int), .int .u32 (tag : Int), .int .u32 (win : Int), .int .u32 (ppid : Int), .int .u16 (st : Int), .int .u16 (ssn : Int), .int .u16 (outs : Int), .int .u16 (ins : Int), .slice A1 gaps.length k1, .slice A2 dups.length k2, .slice A4 n4 k4, .string text] : Array Value).all (·.oneCell') = true from by simp [Value.oneCell'])
     have HO2 : Hid (OwnG (w1.setRow (w.heap.size + 1) #[.int .i64 ty, .int .i64 fl, .int .u32 (tsn : Int), .int .u32 (tag : Int), .int .u32 (win : Int), .int .u32 (ppid : Int), .int .u16 (st : Int), .int .u16 (ssn : Int), .int .u16 (outs : Int), .int .u16 (ins : Int), .slice A1 gaps.length k1, .slice A2 dups.length k2, .slice A4 n4 k4, .string text]) w.heap.size 105 2 (.slice A4 n4 k4) n4 (flatI (parseB v).1)) := Lib.hid (by
       have hlt := fun j hj => HO.out.lt j hj
       refine (OwnG.base HO.out (by simp only [World.size_alloc]; omega)).keep fun j hj => ?_
       have := (hlt j hj).1
       simp only [World.size_alloc] at this
       rw [setRow_other _ _ _ _ (by omega)])
     clear hown hb1 HIT
     go_wp2_with (refine wpList_store_row rfl 74 (.tmp 4) (.tmp 86) rfl (w.heap.size + 1) #[.int .i64 ty, .int .i64 fl, .int .u32 (tsn : Int), .int .u32 (tag : Int), .int .u32 (win : Int), .int .u32 (ppid : Int), .int .u16 (st : Int), .int .u16 (ssn : Int), .int .u16 (outs : Int), .int .u16 (ins : Int), .slice A1 gaps.length k1, .slice A2 dups.length k2, .slice A4 n4 k4, .string text] rfl rfl 74 _ HSE.out.out HRS.out rfl HONE.out ?_)
     exact bodyPost_ret (v := .tuple #[.agg #[.int .i64 ty, .int .i64 fl, .int .u32 (tsn : Int), .int .u32 (tag : Int), .int .u32 (win : Int), .int .u32 (ppid : Int), .int .u16 (st : Int), .int .u16 (ssn : Int), .int .u16 (outs : Int), .int .u16 (ins : Int), .slice A1 gaps.length k1, .slice A2 dups.length k2, .slice A4 n4 k4, .string text], .bool q]) (results_row1 Tryz.results61 _ _ (w.heap.size + 1) _ #[.int .i64 ty, .int .i64 fl, .int .u32 (tsn : Int), .int .u32 (tag : Int), .int .u32 (win : Int), .int .u32 (ppid : Int), .int .u16 (st : Int), .int .u16 (ssn : Int), .int .u16 (outs : Int), .int .u16 (ins : Int), .slice A1 gaps.length k1, .slice A2 dups.length k2, .slice A4 n4 k4, .string text] _ _ (by rfl) (setRow_heap _ _ _ _ _ _ HSE.out.out) Tryz.underlying74 rfl HRS.out) rfl ⟨_, rfl, HO2.out, below_setRow HSE.out.below (by omega) _⟩
end Go.Proofs.YtlbaockipeojhaaGreat
end
section
namespace Go.Proofs.YtlbaockipeojhaaGreat
open Go.RowKit
set_option linter.unusedVariables false
set_option linter.unusedSimpArgs false
set_option maxRecDepth 100000

set_option maxHeartbeats 8000000 in
theorem rread_1_no (c : Ck) (g d it : Value) (v : ByteArray) (hv : v.size ≤ 1000000) (w : World) (hp : Parts w c g d it) (hk : c.type = 1 ∨ c.type = 2) (hs : v.size < 16) :
    Calls Tryz.prog 61 #[.agg (cellsC c g d it), .string v] w fun e w' => e = .returned (.tuple #[.agg (cellsC c g d it), .bool false]) ∧ Below w.heap.size w w' := by
  have HRS := Lib.hid rkSize8
  obtain ⟨⟨A1, k1, rfl⟩, ⟨A2, k2, rfl⟩, ⟨A3, k3, rfl⟩⟩ := hp.slices
  clear hp
  obtain ⟨ty, fl, tsn, tag, win, ppid, st, ssn, outs, ins, gaps, dups, items, text⟩ := c
  dsimp only [cellsC] at *
  have z0 : (ty == 0) = false := beq_eq_false_iff_ne.2 (by omega)
  have y0 : decide ((v.size : Int) < 16) = true := decide_eq_true (by omega)
  have HK := Lib.hid hk
  clear hk
  go_enter Tryz.func61, Tryz.ntmps61
  by_cases h1 : (ty == 1) = true
  case neg =>
   rw [Bool.not_eq_true] at h1
   have h2 : (ty == 2) = true := by have := HK.out; have a1 := beq_eq_false_iff_ne.1 h1; exact beq_iff_eq.2 (by omega)
   go_wp2_with (first
     | (refine wpList_load_row rfl 74 (.tmp 2) rfl w.heap.size rfl 74 #[.int .i64 ty, .int .i64 fl, .int .u32 (tsn : Int), .int .u32 (tag : Int), .int .u32 (win : Int), .int .u32 (ppid : Int), .int .u16 (st : Int), .int .u16 (ssn : Int), .int .u16 (outs : Int), .int .u16 (ins : Int), .slice A1 gaps.length k1, .slice A2 dups.length k2, .slice A3 items.length k3, .string text] (0, 0) _ (rdS_new #[.int .i64 ty, .int .i64 fl, .int .u32 (tsn : Int), .int .u32 (tag : Int), .int .u32 (win : Int), .int .u32 (ppid : Int), .int .u16 (st : Int), .int .u16 (ssn : Int), .int .u16 (outs : Int), .int .u16 (ins : Int), .slice A1 gaps.length k1, .slice A2 dups.length k2, .slice A3 items.length k3, .string text] #[.int .i64 0, .int .i64 0, .int .u32 0, .int .u32 0, .int .u32 0, .int .u32 0, .int .u16 0, .int .u16 0, .int .u16 0, .int .u16 0, .slice none 0 0, .slice none 0 0, .slice none 0 0, .string ⟨#[]⟩] w).own Tryz.underlying74 rfl HRS.out ?_))
   exact bodyPost_ret (v := .tuple #[.agg #[.int .i64 ty, .int .i64 fl, .int .u32 (tsn : Int), .int .u32 (tag : Int), .int .u32 (win : Int), .int .u32 (ppid : Int), .int .u16 (st : Int), .int .u16 (ssn : Int), .int .u16 (outs : Int), .int .u16 (ins : Int), .slice A1 gaps.length k1, .slice A2 dups.length k2, .slice A3 items.length k3, .string text], .bool false]) (results_row1 Tryz.results61 _ _ (w.heap.size + 1) _ #[.int .i64 ty, .int .i64 fl, .int .u32 (tsn : Int), .int .u32 (tag : Int), .int .u32 (win : Int), .int .u32 (ppid : Int), .int .u16 (st : Int), .int .u16 (ssn : Int), .int .u16 (outs : Int), .int .u16 (ins : Int), .slice A1 gaps.length k1, .slice A2 dups.length k2, .slice A3 items.length k3, .string text] _ _ (by rfl) (rdS_new #[.int .i64 ty, .int .i64 fl, .int .u32 (tsn : Int), .int .u32 (tag : Int), .int .u32 (win : Int), .int .u32 (ppid : Int), .int .u16 (st : Int), .int .u16 (ssn : Int), .int .u16 (outs : Int), .int .u16 (ins : Int), .slice A1 gaps.length k1, .slice A2 dups.length k2, .slice A3 items.length k3, .string text] #[.int .i64 ty, .int .i64 fl, .int .u32 (tsn : Int), .int .u32 (tag : Int), .int .u32 (win : Int), .int .u32 (ppid : Int), .int .u16 (st : Int), .int .u16 (ssn : Int), .int .u16 (outs : Int), .int .u16 (ins : Int), .slice A1 gaps.length k1, .slice A2 dups.length k2, .slice A3 items.length k3, .string text] w).out Tryz.underlying74 rfl HRS.out) rfl ⟨rfl, (rdS_new #[.int .i64 ty, .int .i64 fl, .int .u32 (tsn : Int), .int .u32 (tag : Int), .int .u32 (win : Int), .int .u32 (ppid : Int), .int .u16 (st : Int), .int .u16 (ssn : Int), .int .u16 (outs : Int), .int .u16 (ins : Int), .slice A1 gaps.length k1, .slice A2 dups.length k2, .slice A3 items.length k3, .string text] #[.int .i64 ty, .int .i64 fl, .int .u32 (tsn : Int), .int .u32 (tag : Int), .int .u32 (win : Int), .int .u32 (ppid : Int), .int .u16 (st : Int), .int .u16 (ssn : Int), .int .u16 (outs : Int), .int .u16 (ins : Int), .slice A1 gaps.length k1, .slice A2 dups.length k2, .slice A3 items.length k3, .string text] w).below⟩
  case pos =>
   go_wp2_with (first
     | (refine wpList_load_row rfl 74 (.tmp 2) rfl w.heap.size rfl 74 #[.int .i64 ty, .int .i64 fl, .int .u32 (tsn : Int), .int .u32 (tag : Int), .int .u32 (win : Int), .int .u32 (ppid : Int), .int .u16 (st : Int), .int .u16 (ssn : Int), .int .u16 (outs : Int), .int .u16 (ins : Int), .slice A1 gaps.length k1, .slice A2 dups.length k2, .slice A3 items.length k3, .string text] (0, 0) _ (rdS_new #[.int .i64 ty, .int .i64 fl, .int .u32 (tsn : Int), .int .u32 (tag : Int), .int .u32 (win : Int), .int .u32 (ppid : Int), .int .u16 (st : Int), .int .u16 (ssn : Int), .int .u16 (outs : Int), .int .u16 (ins : Int), .slice A1 gaps.length k1, .slice A2 dups.length k2, .slice A3 items.length k3, .string text] #[.int .i64 0, .int .i64 0, .int .u32 0, .int .u32 0, .int .u32 0, .int .u32 0, .int .u16 0, .int .u16 0, .int .u16 0, .int .u16 0, .slice none 0 0, .slice none 0 0, .slice none 0 0, .string ⟨#[]⟩] w).own Tryz.underlying74 rfl HRS.out ?_))
   exact bodyPost_ret (v := .tuple #[.agg #[.int .i64 ty, .int .i64 fl, .int .u32 (tsn : Int), .int .u32 (tag : Int), .int .u32 (win : Int), .int .u32 (ppid : Int), .int .u16 (st : Int), .int .u16 (ssn : Int), .int .u16 (outs : Int), .int .u16 (ins : Int), .slice A1 gaps.length k1, .slice A2 dups.length k2, .slice A3 items.length k3, .string text], .bool false]) (results_row1 Tryz.results61 _ _ (w.heap.size + 1) _ #[.int .i64 ty, .int .i64 fl, .int .u32 (tsn : Int), .int .u32 (tag : Int), .int .u32 (win : Int), .int .u32 (ppid : Int), .int .u16 (st : Int), .int .u16 (ssn : Int), .int .u16 (outs : Int), .int .u16 (ins : Int), .slice A1 gaps.length k1, .slice A2 dups.length k2, .slice A3 items.length k3, .string text] _ _ (by rfl) (rdS_new #[.int .i64 ty, .int .i64 fl, .int .u32 (tsn : Int), .int .u32 (tag : Int), .int .u32 (win : Int), .int .u32 (ppid : Int), .int .u16 (st : Int), .int .u16 (ssn : Int), .int .u16 (outs : Int), .int .u16 (ins : Int), .slice A1 gaps.length k1, .slice A2 dups.length k2, .slice A3 items.length k3, .string text] #[.int .i64 ty, .int .i64 fl, .int .u32 (tsn : Int), .int .u32 (tag : Int), .int .u32 (win : Int), .int .u32 (ppid : Int), .int .u16 (st : Int), .int .u16 (ssn : Int), .int .u16 (outs : Int), .int .u16 (ins : Int), .slice A1 gaps.length k1, .slice A2 dups.length k2, .slice A3 items.length k3, .string text] w).out Tryz.underlying74 rfl HRS.out) rfl ⟨rfl, (rdS_new #[.int .i64 ty, .int .i64 fl, .int .u32 (tsn : Int), .int .u32 (tag : Int), .int .u32 (win : Int), .int .u32 (ppid : Int), .int .u16 (st : Int), .int .u16 (ssn : Int), .int .u16 (outs : Int), .int .u16 (ins : Int), .slice A1 gaps.length k1, .slice A2 dups.length k2, .slice A3 items.length k3, .string text] #[.int .i64 ty, .int .i64 fl, .int .u32 (tsn : Int), .int .u32 (tag : Int), .int .u32 (win : Int), .int .u32 (ppid : Int), .int .u16 (st : Int), .int .u16 (ssn : Int), .int .u16 (outs : Int), .int .u16 (ins : Int), .slice A1 gaps.length k1, .slice A2 dups.length k2, .slice A3 items.length k3, .string text] w).below⟩
end Go.Proofs.YtlbaockipeojhaaGreat
end
end
