/-
  What is bundled: plain functions and facts. No function of the program is walked here.
-/
import Derived.Test.YtlbaockipeojhaaGreatPkA
namespace Go.Proofs.YtlbaockipeojhaaGreat
set_option linter.unusedVariables false
set_option linter.unusedSimpArgs false
set_option maxRecDepth 100000

/-- Whether a chunk fits into no packet. -/
def noneB (f t g : Nat) (most : Int) (c : Ck) : Bool := decide ((buildC c).1.size = 0) || decide (most < ((12 + (buildC c).1.size : Nat) : Int)) || !takesB f t g [] c.type
/-- Whether it fits no more. -/
def fullB (f t g : Nat) (most : Int) (acc : List Ck) (size : Nat) (c : Ck) : Bool := decide (most < ((size + (buildC c).1.size : Nat) : Int)) || !takesB f t g (acc.map (·.type)) c.type
def fillF (f t g : Nat) (most : Int) : List Ck → List Ck → Nat → Nat → List Ck × Nat
  | acc, [], _, done => (acc, done)
  | acc, c :: l, size, done =>
    if noneB f t g most c = true then fillF f t g most acc l size (done + 1)
    else if fullB f t g most acc size c = true then (acc, done)
    else fillF f t g most (acc ++ [c]) l (size + (buildC c).1.size) (done + 1)
/-- What a packet that is filled is like. -/
structure FullP (f t g : Nat) (most : Int) (l : List Ck) (acc : List Ck) (size : Nat) : Prop where
  formed : acc = [] ∨ formedP f t g (acc.map (·.type)) = true
  right : rightC acc = true
  total : size = 12 + (joinC acc).size
  most : acc = [] ∨ (size : Int) ≤ most
  mem : ∀ c ∈ acc, c ∈ l
theorem FullP.nil (f t g : Nat) (most : Int) (l : List Ck) : FullP f t g most l [] 12 := ⟨.inl rfl, rfl, rfl, .inl rfl, by simp⟩
theorem FullP.snoc {f t g : Nat} {most : Int} {l acc : List Ck} {size : Nat} {c : Ck} (h : FullP f t g most l acc size) (h1 : noneB f t g most c = false) (h2 : fullB f t g most acc size c = false) (hm : c ∈ l) : FullP f t g most l (acc ++ [c]) (size + (buildC c).1.size) := by
  unfold noneB at h1
  unfold fullB at h2
  simp only [Bool.or_eq_false_iff, decide_eq_false_iff_not, Bool.not_eq_false'] at h1 h2
  refine ⟨.inr ?_, ?_, ?_, .inr (by omega), fun x hx => ?_⟩
  · rw [List.map_append]
    exact formed_snoc (h.formed.imp (fun e => by subst e; rfl) id) h2.2
  · rw [rightC_true]
    intro x hx
    rcases List.mem_append.1 hx with hx | hx
    · exact rightC_true.1 h.right x hx
    · obtain rfl := List.mem_singleton.1 hx
      by_cases hb : (buildC x).2 = 0
      · exact hb
      · exfalso
        rw [buildC_none hb] at h1
        exact h1.1.1 rfl
  · rw [joinC_size_snoc, h.total]
    omega
  · rcases List.mem_append.1 hx with hx | hx
    · exact h.mem x hx
    · obtain rfl := List.mem_singleton.1 hx
      exact hm
theorem fill_fine {f t g : Nat} {most : Int} {l : List Ck} : ∀ (m acc : List Ck) (size done : Nat), (∀ c ∈ m, c ∈ l) → FullP f t g most l acc size →
    (∃ s, FullP f t g most l (fillF f t g most acc m size done).1 s) ∧ done ≤ (fillF f t g most acc m size done).2 ∧ (fillF f t g most acc m size done).2 ≤ done + m.length
  | [], acc, size, done, _, h => ⟨⟨size, h⟩, Nat.le_refl _, Nat.le_refl _⟩
  | c :: m, acc, size, done, hm, h => by
    have hm' : ∀ x ∈ m, x ∈ l := fun x hx => hm x (by simp [hx])
    unfold fillF
    split
    · have := fill_fine m acc size (done + 1) hm' h
      refine ⟨this.1, by omega, by rw [List.length_cons]; omega⟩
    · split
      · exact ⟨⟨size, h⟩, Nat.le_refl _, by rw [List.length_cons]; omega⟩
      · rename_i h1 h2
        have := fill_fine m (acc ++ [c]) (size + (buildC c).1.size) (done + 1) hm' (h.snoc (by simpa using h1) (by simpa using h2) (hm c (by simp)))
        refine ⟨this.1, by omega, by rw [List.length_cons]; omega⟩
/-- Of a row that is not empty one is done at least. -/
theorem fill_some {f t g : Nat} {most : Int} (c : Ck) (m : List Ck) : 1 ≤ (fillF f t g most [] (c :: m) 12 0).2 := by
  have hz : ∀ acc size, 1 ≤ (fillF f t g most acc m size 1).2 := by
    intro acc size
    have : ∀ (m acc : List Ck) (size done : Nat), done ≤ (fillF f t g most acc m size done).2 := by
      intro m
      induction m with
      | nil => intro acc size done; exact Nat.le_refl _
      | cons c m ih =>
        intro acc size done
        unfold fillF
        split
        · exact Nat.le_trans (Nat.le_succ _) (ih _ _ _)
        · split
          · exact Nat.le_refl _
          · exact Nat.le_trans (Nat.le_succ _) (ih _ _ _)
    exact this _ _ _ _
  unfold fillF
  split
  · exact hz _ _
  · rename_i h1
    unfold noneB at h1
    simp only [Bool.or_eq_true, decide_eq_true_eq, Bool.not_eq_true', not_or] at h1
    rw [if_neg]
    · exact hz _ _
    · unfold fullB
      simp only [Bool.or_eq_true, decide_eq_true_eq, Bool.not_eq_true', not_or]
      exact ⟨h1.1.2, h1.2⟩
def bundleF (f t g : Nat) (most : Int) : Nat → List (List Ck) → List Ck → List (List Ck)
  | 0, acc, _ => acc
  | n + 1, acc, l => if l.length = 0 then acc else bundleF f t g most n (if (fillF f t g most [] l 12 0).1.length = 0 then acc else acc ++ [(fillF f t g most [] l 12 0).1]) (l.drop (fillF f t g most [] l 12 0).2)
/-- How many bytes a packet has at most, as it is asked for. -/
def mostI (m : Int) : Int := if m < 100 then 100 else if 1500 < m then 1500 else m
theorem mostI_le (m : Int) : 100 ≤ mostI m ∧ mostI m ≤ 1500 := by
  unfold mostI
  split
  · decide
  · split <;> omega
def bundleP (f t g : Nat) (m : Int) (l : List Ck) : List (List Ck) := bundleF f t g (mostI m) l.length [] l
theorem bundleF_end (f t g : Nat) (most : Int) (n : Nat) (acc : List (List Ck)) : bundleF f t g most n acc [] = acc := by
  cases n with
  | zero => rfl
  | succ n => rfl
theorem bundleF_go {f t g : Nat} {most : Int} {n : Nat} (acc : List (List Ck)) {l : List Ck} (hl : l.length ≤ n) (h : 0 < l.length) : ∃ m, n = m + 1 ∧
    bundleF f t g most n acc l = bundleF f t g most m (if (fillF f t g most [] l 12 0).1.length = 0 then acc else acc ++ [(fillF f t g most [] l 12 0).1]) (l.drop (fillF f t g most [] l 12 0).2) ∧ (l.drop (fillF f t g most [] l 12 0).2).length ≤ m := by
  cases n with
  | zero => omega
  | succ n =>
    refine ⟨n, rfl, ?_, ?_⟩
    · conv => lhs; unfold bundleF
      rw [if_neg (by omega)]
    · cases l with
      | nil => simp at h
      | cons c m =>
        have := fill_some (f := f) (t := t) (g := g) (most := most) c m
        rw [List.length_drop]
        omega
end Go.Proofs.YtlbaockipeojhaaGreat
