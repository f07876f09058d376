/-
  Plain facts on lists of numbers of 32 bits, by how far they are above one: sorted, each once; and the rows in them. No program is named here.
-/
import Derived.WalkKit
import Derived.Lib.SlicesCompact
namespace Go.Proofs.Ytfdnphkdpmlbnaa

/-- One more number, put where it belongs (nowhere, if it is there). -/
def ins (f x : UInt32) : List UInt32 → List UInt32
  | [] => [x]
  | y :: ys => if y - f < x - f then y :: ins f x ys else if y = x then y :: ys else x :: y :: ys
/-- The numbers, each once, by how far they are above f. -/
def srt (f : UInt32) (l : List UInt32) : List UInt32 := l.foldl (fun acc x => ins f x acc) []
def Strict (f : UInt32) (s : List UInt32) : Prop := s.Pairwise fun x y => x - f < y - f

theorem sub_inj {x y f : UInt32} (h : x - f = y - f) : x = y := by
  have := congrArg (· + f) h
  simpa [UInt32.sub_add_cancel] using this

theorem mem_ins (f x : UInt32) (s : List UInt32) (z : UInt32) : z ∈ ins f x s ↔ z = x ∨ z ∈ s := by
  induction s with
  | nil => simp [ins]
  | cons y ys ih =>
    unfold ins
    by_cases h1 : y - f < x - f
    · rw [if_pos h1]; simp only [List.mem_cons, ih]; constructor
      · rintro (h | h | h) <;> simp [h]
      · rintro (h | h | h) <;> simp [h]
    · rw [if_neg h1]
      by_cases h2 : y = x
      · rw [if_pos h2]; subst h2; simp only [List.mem_cons]; constructor
        · intro h; exact .inr h
        · rintro (h | h) <;> simp [h]
      · rw [if_neg h2]; simp only [List.mem_cons]

theorem strict_ins (f x : UInt32) (s : List UInt32) (hs : Strict f s) : Strict f (ins f x s) := by
  induction s with
  | nil => simp [ins, Strict]
  | cons y ys ih =>
    unfold Strict at hs ih ⊢
    rw [List.pairwise_cons] at hs
    unfold ins
    by_cases h1 : y - f < x - f
    · rw [if_pos h1, List.pairwise_cons]
      refine ⟨fun z hz => ?_, ih hs.2⟩
      rcases (mem_ins f x ys z).1 hz with rfl | hz
      · exact h1
      · exact hs.1 z hz
    · rw [if_neg h1]
      by_cases h2 : y = x
      · rw [if_pos h2, List.pairwise_cons]; exact hs
      · rw [if_neg h2, List.pairwise_cons]
        have hxy : x - f < y - f := by
          have hne : ¬ y - f = x - f := fun h => h2 (sub_inj h)
          rw [UInt32.lt_iff_toNat_lt] at h1 ⊢
          rw [UInt32.toNat_inj.symm] at hne
          omega
        refine ⟨fun z hz => ?_, List.pairwise_cons.2 hs⟩
        rcases List.mem_cons.1 hz with rfl | hz
        · exact hxy
        · exact UInt32.lt_trans hxy (hs.1 z hz)

theorem srt_snoc (f : UInt32) (l : List UInt32) (x : UInt32) : srt f (l ++ [x]) = ins f x (srt f l) := by simp [srt]
theorem srt_nil (f : UInt32) : srt f [] = [] := rfl

theorem list_snoc_rec {α : Type} {P : List α → Prop} (h0 : P []) (h1 : ∀ l x, P l → P (l ++ [x])) (l : List α) : P l := by
  have : P l.reverse.reverse := by
    induction l.reverse with
    | nil => exact h0
    | cons y ys ih => rw [List.reverse_cons]; exact h1 _ _ ih
  simpa using this

theorem mem_srt (f : UInt32) (l : List UInt32) (z : UInt32) : z ∈ srt f l ↔ z ∈ l := by
  induction l using list_snoc_rec with
  | h0 => simp [srt]
  | h1 l x ih => rw [srt_snoc, mem_ins, ih]; simp [or_comm]
theorem strict_srt (f : UInt32) (l : List UInt32) : Strict f (srt f l) := by
  induction l using list_snoc_rec with
  | h0 => simp [srt, Strict]
  | h1 l x ih => rw [srt_snoc]; exact strict_ins _ _ _ ih

theorem lt_irrefl32 (x : UInt32) : ¬ x < x := by rw [UInt32.lt_iff_toNat_lt]; omega

theorem strict_unique (f : UInt32) : ∀ (s t : List UInt32), Strict f s → Strict f t → (∀ z, z ∈ s ↔ z ∈ t) → s = t
  | [], [], _, _, _ => rfl
  | [], y :: ys, _, _, h => by have := (h y).2 (by simp); simp at this
  | x :: xs, [], _, _, h => by have := (h x).1 (by simp); simp at this
  | x :: xs, y :: ys, hs, ht, h => by
    unfold Strict at hs ht
    rw [List.pairwise_cons] at hs ht
    have hxy : x = y := by
      rcases List.mem_cons.1 ((h x).1 (by simp)) with e | e
      · exact e
      rcases List.mem_cons.1 ((h y).2 (by simp)) with e' | e'
      · exact e'.symm
      exact absurd (UInt32.lt_trans (ht.1 x e) (hs.1 y e')) (lt_irrefl32 _)
    subst hxy
    congr 1
    refine strict_unique f xs ys hs.2 ht.2 fun z => ⟨fun hz => ?_, fun hz => ?_⟩
    · rcases List.mem_cons.1 ((h z).1 (List.mem_cons_of_mem _ hz)) with e | e
      · subst e; exact absurd (hs.1 z hz) (lt_irrefl32 _)
      · exact e
    · rcases List.mem_cons.1 ((h z).2 (List.mem_cons_of_mem _ hz)) with e | e
      · subst e; exact absurd (ht.1 z hz) (lt_irrefl32 _)
      · exact e

theorem srt_eq (f : UInt32) (l s : List UInt32) (hs : Strict f s) (hm : ∀ z, z ∈ s ↔ z ∈ l) : s = srt f l :=
  strict_unique f s (srt f l) hs (strict_srt f l) fun z => by rw [hm, mem_srt]
theorem srt_congr (f : UInt32) (l m : List UInt32) (h : ∀ z, z ∈ l ↔ z ∈ m) : srt f l = srt f m :=
  srt_eq f m _ (strict_srt f l) fun z => by rw [mem_srt, h]

theorem length_ins_le (f x : UInt32) (s : List UInt32) : (ins f x s).length ≤ s.length + 1 := by
  induction s with
  | nil => simp [ins]
  | cons y ys ih =>
    unfold ins
    split
    · simp; exact ih
    · split <;> simp
theorem length_srt_le (f : UInt32) (l : List UInt32) : (srt f l).length ≤ l.length := by
  induction l using list_snoc_rec with
  | h0 => simp [srt]
  | h1 l x ih => rw [srt_snoc]; have := length_ins_le f x (srt f l); simp; omega

theorem take_succ' {α : Type} [Inhabited α] (s : List α) (k : Nat) (h : k < s.length) : s.take (k + 1) = s.take k ++ [s[k]!] := by
  rw [List.take_succ_eq_append_getElem h, getElem!_pos s k h]

/-- What slices.Compact leaves of a sorted row. -/
theorem compact_srt (f : UInt32) (d : Array UInt32) (hs : ∀ i j, i < j → j < d.size → d[i]! - f ≤ d[j]! - f) : Lib.compactUpTo d d.size = srt f d.toList := by
  refine srt_eq f _ _ ?_ ?_
  · unfold Strict Lib.compactUpTo
    rw [List.pairwise_map, List.pairwise_filter]
    refine List.Pairwise.imp_of_mem ?_ List.pairwise_lt_range
    intro i j hi hj hij _ hk
    have hj' : j < d.size := by simpa using hj
    have hne : ¬ d[j]! = d[j - 1]! := by
      have := of_decide_eq_true hk
      rcases this with h | h
      · omega
      · exact h
    have h1 : d[j - 1]! - f ≤ d[j]! - f := hs (j - 1) j (by omega) hj'
    have h2 : d[i]! - f ≤ d[j - 1]! - f := by
      rcases Nat.lt_or_ge i (j - 1) with h | h
      · exact hs i (j - 1) h (by omega)
      · have : i = j - 1 := by omega
        subst this
        rw [UInt32.le_iff_toNat_le]; omega
    have h3 : ¬ d[j - 1]! - f = d[j]! - f := fun h => hne (sub_inj h).symm
    rw [UInt32.le_iff_toNat_le] at h1 h2
    rw [UInt32.toNat_inj.symm] at h3
    rw [UInt32.lt_iff_toNat_lt]
    omega
  · intro z
    unfold Lib.compactUpTo
    rw [List.mem_map]
    constructor
    · rintro ⟨j, hj, rfl⟩
      have hj' : j < d.size := by simpa using (List.mem_filter.1 hj).1
      rw [getElem!_pos d j hj']
      simp
    · intro hz
      obtain ⟨n, hn, hnz⟩ := List.getElem_of_mem hz
      have hn' : n < d.size := by simpa using hn
      have hnz' : d[n]! = z := by rw [getElem!_pos d n hn']; simpa using hnz
      -- the first place
      have hex : ∃ j, j ≤ n ∧ d[j]! = z ∧ ∀ i, i < j → d[i]! ≠ z := by
        clear hn hnz hn'
        induction n with
        | zero => exact ⟨0, Nat.le_refl _, hnz', fun i hi => absurd hi (by omega)⟩
        | succ n ih =>
          by_cases hb : ∃ i, i ≤ n ∧ d[i]! = z
          · obtain ⟨i, hi, hiz⟩ := hb
            have : ∀ m, m ≤ i → d[m]! = z → ∃ j, j ≤ m ∧ d[j]! = z ∧ ∀ k, k < j → d[k]! ≠ z := by
              intro m
              induction m using Nat.strongRecOn with
              | _ m ihm =>
                intro hm hmz
                by_cases hc : ∃ k, k < m ∧ d[k]! = z
                · obtain ⟨k, hk, hkz⟩ := hc
                  obtain ⟨j, hj, h⟩ := ihm k hk (by omega) hkz
                  exact ⟨j, by omega, h⟩
                · exact ⟨m, Nat.le_refl _, hmz, fun k hk hkz => hc ⟨k, hk, hkz⟩⟩
            obtain ⟨j, hj, h⟩ := this i (Nat.le_refl _) hiz
            exact ⟨j, by omega, h⟩
          · exact ⟨n + 1, Nat.le_refl _, hnz', fun i hi hiz => hb ⟨i, by omega, hiz⟩⟩
      obtain ⟨j, hj, hjz, hfirst⟩ := hex
      refine ⟨j, List.mem_filter.2 ⟨by simp; omega, ?_⟩, hjz⟩
      unfold Lib.keeps
      refine decide_eq_true ?_
      rcases Nat.eq_zero_or_pos j with h0 | h0
      · exact .inl h0
      · exact .inr (fun e => hfirst (j - 1) (by omega) (by rw [← e]; exact hjz))

/-- Each twice, from the last one on. -/
def dup2 (l : List UInt32) : List UInt32 := l.reverse.flatMap fun x => [x, x]
theorem dup2_cons (x : UInt32) (l : List UInt32) : dup2 (x :: l) = dup2 l ++ [x, x] := by simp [dup2]
theorem length_dup2 (l : List UInt32) : (dup2 l).length = l.length * 2 := by
  induction l with
  | nil => rfl
  | cons x xs ih => rw [dup2_cons, List.length_append, ih]; simp; omega
theorem mem_dup2 (l : List UInt32) (z : UInt32) : z ∈ dup2 l ↔ z ∈ l := by
  induction l with
  | nil => simp [dup2]
  | cons x xs ih => rw [dup2_cons, List.mem_append, ih]; simp [or_comm]
theorem srt_dup2 (f : UInt32) (l : List UInt32) : srt f (dup2 l) = srt f l := srt_congr f _ _ (mem_dup2 l)
theorem srt_srt (f : UInt32) (l : List UInt32) : srt f (srt f l) = srt f l := srt_congr f _ _ fun z => mem_srt f l z
theorem drop_cons' (l : List UInt32) (m : Nat) (h : m < l.length) : l.drop m = l[m]! :: l.drop (m + 1) := by rw [List.drop_eq_getElem_cons h, getElem!_pos l m h]
theorem strict_at (f : UInt32) (s : List UInt32) (hs : Strict f s) (i j : Nat) (hij : i < j) (hj : j < s.length) : s[i]! - f < s[j]! - f := by
  have h := List.pairwise_iff_getElem.1 hs i j (by omega) hj hij
  rw [getElem!_pos s i (by omega), getElem!_pos s j hj]
  exact h

/-! ### Rows -/
def runStep (acc : List (UInt32 × UInt32)) (n : UInt32) : List (UInt32 × UInt32) :=
  match acc.getLast? with
  | some pq => if pq.2 + 1 = n then acc.dropLast ++ [(pq.1, n)] else acc ++ [(n, n)]
  | none => [(n, n)]
def runs (s : List UInt32) : List (UInt32 × UInt32) := s.foldl runStep []
theorem runs_snoc (s : List UInt32) (x : UInt32) : runs (s ++ [x]) = runStep (runs s) x := by simp [runs]
theorem length_runs_le (s : List UInt32) : (runs s).length ≤ s.length := by
  induction s using list_snoc_rec with
  | h0 => simp [runs]
  | h1 l x ih =>
    rw [runs_snoc]
    have : (runStep (runs l) x).length ≤ (runs l).length + 1 := by
      unfold runStep
      split
      · split
        · rw [List.length_append, List.length_dropLast]; simp
        · simp
      · simp
    simp
    omega

/-! ### What the rows cover -/
def key (f x : UInt32) : Nat := (x - f).toNat
/-- How many numbers the rows hold. -/
def cnt (f : UInt32) (rs : List (UInt32 × UInt32)) : Nat := (rs.map fun p => key f p.2 - key f p.1 + 1).sum
theorem cnt_snoc (f : UInt32) (rs : List (UInt32 × UInt32)) (p : UInt32 × UInt32) : cnt f (rs ++ [p]) = cnt f rs + (key f p.2 - key f p.1 + 1) := by simp [cnt]
theorem key_lt (f x : UInt32) : key f x < 4294967296 := (x - f).toNat_lt
theorem key_inj {f x y : UInt32} (h : key f x = key f y) : x = y := sub_inj (f := f) (UInt32.toNat_inj.1 h)
/-- One more, where it does not go round. -/
theorem key_succ (f x y : UInt32) (h : key f x < key f y) : x + 1 = y ↔ key f y = key f x + 1 := by
  have h1 : x + 1 - f = (x - f) + 1 := by
    apply UInt32.toNat_inj.1
    have := x.toNat_lt; have := f.toNat_lt
    rw [UInt32.toNat_sub, UInt32.toNat_add, UInt32.toNat_add, UInt32.toNat_sub]
    simp
    omega
  have h2 : key f (x + 1) = (key f x + 1) % 4294967296 := by
    show (x + 1 - f).toNat = _
    rw [h1, UInt32.toNat_add]
    rfl
  have h3 := key_lt f y
  constructor
  · intro e
    rw [← e] at h h3 ⊢
    rw [h2] at h ⊢
    omega
  · intro e
    apply key_inj (f := f)
    rw [h2, e]
    omega

theorem runs_facts (f : UInt32) (s : List UInt32) (hs : Strict f s) :
    (∀ p ∈ runs s, key f p.1 ≤ key f p.2) ∧ (runs s).Pairwise (fun p q => key f p.2 + 1 < key f q.1) ∧ cnt f (runs s) = s.length ∧
      (∀ x ∈ s, ∃ p ∈ runs s, key f p.1 ≤ key f x ∧ key f x ≤ key f p.2) ∧ (∀ p ∈ runs s, p.2 ∈ s) := by
  induction s using list_snoc_rec with
  | h0 => simp [runs, cnt]
  | h1 l x ih =>
    unfold Strict at hs
    rw [List.pairwise_append] at hs
    obtain ⟨hl, _, hx⟩ := hs
    have hx' : ∀ y ∈ l, key f y < key f x := fun y hy => UInt32.lt_iff_toNat_lt.1 (hx y hy x (by simp))
    obtain ⟨h1, h2, h3, h4, h5⟩ := ih hl
    rw [runs_snoc]
    rcases List.eq_nil_or_concat (runs l) with hr | ⟨rs, p, hr⟩
    · rw [hr] at h3 ⊢
      have hl0 : l = [] := List.eq_nil_of_length_eq_zero (by simpa [cnt] using h3.symm)
      subst hl0
      refine ⟨?_, ?_, ?_, ?_, ?_⟩ <;> simp [runStep, cnt]
    · rw [List.concat_eq_append] at hr
      rw [hr] at h1 h2 h3 h4 h5 ⊢
      have hp2 : p.2 ∈ l := h5 p (by simp)
      have hpx := hx' _ hp2
      rw [List.pairwise_append] at h2
      obtain ⟨h2a, _, h2b⟩ := h2
      have hp1 := h1 p (by simp)
      by_cases hc : p.2 + 1 = x
      · have hk := (key_succ f p.2 x hpx).1 hc
        have e : runStep (rs ++ [p]) x = rs ++ [(p.1, x)] := by simp [runStep, hc]
        rw [e]
        refine ⟨?_, ?_, ?_, ?_, ?_⟩
        · intro q hq
          rcases List.mem_append.1 hq with hq | hq
          · exact h1 q (by simp [hq])
          · rw [List.mem_singleton.1 hq]; show key f p.1 ≤ key f x; omega
        · rw [List.pairwise_append]
          refine ⟨h2a, by simp, fun q hq r hr' => ?_⟩
          rw [List.mem_singleton.1 hr']
          exact h2b q hq p (by simp)
        · rw [cnt_snoc] at h3 ⊢
          rw [List.length_append]
          show _ + (key f x - key f p.1 + 1) = _
          simp only [List.length_cons, List.length_nil]
          omega
        · intro y hy
          rcases List.mem_append.1 hy with hy | hy
          · obtain ⟨q, hq, hq1, hq2⟩ := h4 y hy
            rcases List.mem_append.1 hq with hq | hq
            · exact ⟨q, by simp [hq], hq1, hq2⟩
            · rw [List.mem_singleton.1 hq] at hq1 hq2
              exact ⟨(p.1, x), by simp, hq1, by show key f y ≤ key f x; omega⟩
          · rw [List.mem_singleton.1 hy]
            exact ⟨(p.1, x), by simp, by show key f p.1 ≤ key f x; omega, Nat.le_refl _⟩
        · intro q hq
          rcases List.mem_append.1 hq with hq | hq
          · exact List.mem_append_left _ (h5 q (by simp [hq]))
          · rw [List.mem_singleton.1 hq]; simp
      · have hk : ¬ key f x = key f p.2 + 1 := fun h => hc ((key_succ f p.2 x hpx).2 h)
        have e : runStep (rs ++ [p]) x = (rs ++ [p]) ++ [(x, x)] := by simp [runStep, hc]
        rw [e]
        refine ⟨?_, ?_, ?_, ?_, ?_⟩
        · intro q hq
          rcases List.mem_append.1 hq with hq | hq
          · exact h1 q hq
          · rw [List.mem_singleton.1 hq]; exact Nat.le_refl _
        · rw [List.pairwise_append]
          refine ⟨List.pairwise_append.2 ⟨h2a, by simp, h2b⟩, by simp, fun q hq r hr' => ?_⟩
          rw [List.mem_singleton.1 hr']
          show key f q.2 + 1 < key f x
          rcases List.mem_append.1 hq with hq | hq
          · have := h2b q hq p (by simp); omega
          · rw [List.mem_singleton.1 hq]; omega
        · rw [cnt_snoc, h3, List.length_append]
          show _ + (key f x - key f x + 1) = _
          simp
        · intro y hy
          rcases List.mem_append.1 hy with hy | hy
          · obtain ⟨q, hq, hq1, hq2⟩ := h4 y hy
            exact ⟨q, List.mem_append_left _ hq, hq1, hq2⟩
          · rw [List.mem_singleton.1 hy]
            exact ⟨(x, x), by simp, Nat.le_refl _, Nat.le_refl _⟩
        · intro q hq
          rcases List.mem_append.1 hq with hq | hq
          · exact List.mem_append_left _ (h5 q hq)
          · rw [List.mem_singleton.1 hq]; simp
theorem cnt_take_le (f : UInt32) (rs : List (UInt32 × UInt32)) (k : Nat) : cnt f (rs.take k) ≤ cnt f rs := by
  have h : ∀ a b : List (UInt32 × UInt32), cnt f (a ++ b) = cnt f a + cnt f b := fun a b => by simp [cnt]
  have h1 := h (rs.take k) (rs.drop k)
  rw [List.take_append_drop] at h1
  omega

/-! ### The same number added to each -/
theorem add_sub_add (x y z : UInt32) : (x + z) - (y + z) = x - y := by
  apply UInt32.toNat_inj.1
  have := x.toNat_lt; have := y.toNat_lt; have := z.toNat_lt
  rw [UInt32.toNat_sub, UInt32.toNat_add, UInt32.toNat_add, UInt32.toNat_sub]
  omega
theorem add_inj {x y z : UInt32} (h : x + z = y + z) : x = y := by
  have := congrArg (· - z) h
  simpa [UInt32.add_sub_cancel] using this
theorem srt_map (f z : UInt32) (l : List UInt32) : srt (f + z) (l.map (· + z)) = (srt f l).map (· + z) := by
  refine (srt_eq (f + z) _ _ ?_ ?_).symm
  · unfold Strict
    rw [List.pairwise_map]
    refine List.Pairwise.imp ?_ (strict_srt f l)
    intro x y h
    rw [add_sub_add, add_sub_add]
    exact h
  · intro x
    simp only [List.mem_map, mem_srt]
theorem runStep_map (z : UInt32) (acc : List (UInt32 × UInt32)) (n : UInt32) : runStep (acc.map fun p => (p.1 + z, p.2 + z)) (n + z) = (runStep acc n).map fun p => (p.1 + z, p.2 + z) := by
  unfold runStep
  rw [List.getLast?_map]
  cases hl : acc.getLast? with
  | none => simp
  | some p =>
    simp only [Option.map_some]
    by_cases h : p.2 + 1 = n
    · have h' : p.2 + z + 1 = n + z := by rw [← h, UInt32.add_assoc, UInt32.add_comm z 1, ← UInt32.add_assoc]
      rw [if_pos h', if_pos h]
      simp
    · have h' : ¬ p.2 + z + 1 = n + z := by
        intro e; apply h; apply add_inj (z := z); rw [← e, UInt32.add_assoc, UInt32.add_comm 1 z, ← UInt32.add_assoc]
      rw [if_neg h', if_neg h]
      simp
theorem runs_map (z : UInt32) (s : List UInt32) : runs (s.map (· + z)) = (runs s).map fun p => (p.1 + z, p.2 + z) := by
  induction s using list_snoc_rec with
  | h0 => rfl
  | h1 l x ih => rw [List.map_append, List.map_cons, List.map_nil, runs_snoc, runs_snoc, ih, runStep_map]

/-- The chapter's example. -/
theorem shown_srt : srt 4294967290 [3, 1, 2, 4294967295, 2] = [4294967295, 1, 2, 3] := by decide
theorem shown_runs : runs (srt 4294967290 [3, 1, 2, 4294967295, 2]) = [(4294967295, 4294967295), (1, 3)] := by decide

end Go.Proofs.Ytfdnphkdpmlbnaa
