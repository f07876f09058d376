/-
  Package got, plain: what came, and what becomes of it. No program is named here.
-/
import Derived.Test.YtfdnphkdpmlbnaaList
import Derived.Test.YtfdnphkdpmlbnaaMem
namespace Go.Proofs.Ytfdnphkdpmlbnaa
open Go.RowKit
set_option linter.unusedVariables false

/-- What came: all up to cum, those above, those that came twice. -/
structure Gt where
  cum : UInt32
  ab : List UInt32
  du : List UInt32
def zeroG : Gt := ⟨0, [], []⟩
instance : Inhabited Gt := ⟨zeroG⟩
def newG (first : UInt32) : Gt := ⟨first - 1, [], []⟩
def hasB (g : Gt) (n : UInt32) : Bool := decide ((g.cum - n).toNat < 2147483648) || decide (n ∈ g.ab)
structure RightG (g : Gt) : Prop where
  strict : Strict g.cum g.ab
  near : ∀ x ∈ g.ab, 2 ≤ key g.cum x ∧ key g.cum x ≤ 4000
  dups : g.du.length ≤ 100
def follow (n : UInt32) : List UInt32 → UInt32 × List UInt32
  | [] => (n, [])
  | x :: r => if x = n + 1 then follow x r else (n, x :: r)
def takeG (g : Gt) (n : UInt32) : Gt × Bool :=
  if hasB g n then (⟨g.cum, g.ab, if g.du.length < 100 then g.du ++ [n] else g.du⟩, false)
  else if 4000 < key g.cum n then (g, false)
  else if n = g.cum + 1 then (⟨(follow n g.ab).1, (follow n g.ab).2, g.du⟩, true)
  else (⟨g.cum, ins g.cum n g.ab, g.du⟩, true)

/-! ### Keys -/
theorem key_self (f : UInt32) : key f f = 0 := by unfold key; rw [UInt32.sub_self]; rfl
theorem key_shift {f c x : UInt32} (h : key f c ≤ key f x) : key c x = key f x - key f c := by
  unfold key at *
  simp only [UInt32.toNat_sub] at *
  have := f.toNat_lt; have := c.toNat_lt; have := x.toNat_lt
  omega
theorem key_below {f c x : UInt32} (h : key f x < key f c) : key c x = 4294967296 - (key f c - key f x) := by
  unfold key at *
  simp only [UInt32.toNat_sub] at *
  have := f.toNat_lt; have := c.toNat_lt; have := x.toNat_lt
  omega
theorem key_add {f : UInt32} {k : Nat} (h : k < 4294967296) : key f (f + UInt32.ofNat k) = k := by
  unfold key
  simp only [UInt32.toNat_sub, UInt32.toNat_add, UInt32.toNat_ofNat']
  have := f.toNat_lt
  omega
theorem add_key (f x : UInt32) : f + UInt32.ofNat (key f x) = x := by
  apply key_inj (f := f)
  rw [key_add (key_lt f x)]
theorem key_next (f : UInt32) : key f (f + 1) = 1 := key_add (k := 1) (by decide)
theorem key_up {f x : UInt32} (h : key f x + 1 < 4294967296) : key f (x + 1) = key f x + 1 := by
  have := (key_succ f x (x + 1))
  have e : x + 1 = f + UInt32.ofNat (key f x + 1) := by
    conv => lhs; rw [← add_key f x]
    rw [UInt32.add_assoc]
    congr 1
    apply UInt32.toNat_inj.1
    simp only [UInt32.toNat_add, UInt32.toNat_ofNat']
    have := key_lt f x
    show (_ + 1) % _ = _
    omega
  rw [e, key_add h]
theorem strict_iff {f : UInt32} {s : List UInt32} : Strict f s ↔ s.Pairwise fun x y => key f x < key f y := by
  unfold Strict key
  simp only [UInt32.lt_iff_toNat_lt]
theorem strict_shift {f c : UInt32} {s : List UInt32} (h : Strict f s) (hc : ∀ x ∈ s, key f c ≤ key f x) : Strict c s := by
  rw [strict_iff] at *
  refine List.Pairwise.imp_of_mem (fun {a b} ha hb hab => ?_) h
  rw [key_shift (hc a ha), key_shift (hc b hb)]
  have := hc a ha
  omega
theorem strict_nodup {f : UInt32} {s : List UInt32} (h : Strict f s) : s.Nodup := by
  refine List.Pairwise.imp (fun {a b} hab e => ?_) (strict_iff.1 h)
  subst e
  exact Nat.lt_irrefl _ hab

/-! ### Going on -/
structure Went (f n : UInt32) (ab : List UInt32) (k : Nat) (c : UInt32) (r : List UInt32) : Prop where
  kc : key f c = key f n + k
  strict : Strict f r
  two : ∀ x ∈ r, key f c + 2 ≤ key f x
  le : ∀ y, key f n < key f y → key f y ≤ key f c → y ∈ ab
  mem : ∀ x, x ∈ ab ↔ x ∈ r ∨ (key f n < key f x ∧ key f x ≤ key f c)
  cnt : k + r.length = ab.length
theorem follow_went (f : UInt32) : ∀ (ab : List UInt32) (n : UInt32), Strict f ab → (∀ x ∈ ab, key f n < key f x) → ∃ k, Went f n ab k (follow n ab).1 (follow n ab).2
  | [], n, _, _ => ⟨0, ⟨rfl, by simp [follow, Strict], by simp [follow], fun y h1 h2 => absurd h2 (by simp only [follow]; omega), fun x => by simp [follow], rfl⟩⟩
  | x :: t, n, hs, hk => by
    have hs' := strict_iff.1 hs
    rw [List.pairwise_cons] at hs'
    have hx := hk x (by simp)
    by_cases e : x = n + 1
    · have hkx : key f x = key f n + 1 := (key_succ f n x hx).1 e.symm
      obtain ⟨k, h⟩ := follow_went f t x (strict_iff.2 hs'.2) (fun y hy => hs'.1 y hy)
      have e1 : follow n (x :: t) = follow x t := by rw [follow, if_pos e]
      refine ⟨k + 1, ?_⟩
      rw [e1]
      refine ⟨by rw [h.kc]; omega, h.strict, h.two, fun y h1 h2 => ?_, fun y => ?_, by have := h.cnt; simp only [List.length_cons]; omega⟩
      · by_cases ey : key f y = key f x
        · rw [key_inj ey]; simp
        · exact List.mem_cons_of_mem _ (h.le y (by omega) h2)
      · rw [List.mem_cons, h.mem y]
        constructor
        · rintro (rfl | h1 | h1)
          · exact .inr ⟨hx, by rw [h.kc]; omega⟩
          · exact .inl h1
          · exact .inr ⟨by omega, h1.2⟩
        · rintro (h1 | h1)
          · exact .inr (.inl h1)
          · by_cases ey : key f y = key f x
            · exact .inl (key_inj ey)
            · exact .inr (.inr ⟨by omega, h1.2⟩)
    · have e1 : follow n (x :: t) = (n, x :: t) := by rw [follow, if_neg e]
      have hx2 : key f n + 2 ≤ key f x := by
        have : ¬ key f x = key f n + 1 := fun h => e ((key_succ f n x hx).2 h).symm
        omega
      refine ⟨0, ?_⟩
      rw [e1]
      refine ⟨rfl, hs, fun y hy => ?_, fun y h1 h2 => absurd h2 (by show ¬ key f y ≤ key f n; omega), fun y => ?_, by simp⟩
      · rcases List.mem_cons.1 hy with rfl | hy
        · exact hx2
        · have := hs'.1 y hy
          show key f n + 2 ≤ _
          omega
      · constructor
        · intro h; exact .inl h
        · rintro (h | h)
          · exact h
          · exfalso; have : key f y ≤ key f n := h.2
            omega

/-! ### Has -/
theorem cum_sub {f c n : UInt32} : ((c - n).toNat < 2147483648) = (key n c < 2147483648) := rfl
theorem has_right {g : Gt} (hr : RightG g) {n : UInt32} (h : hasB g n = false) : 1 ≤ key g.cum n ∧ n ∉ g.ab := by
  simp only [hasB, Bool.or_eq_false_iff, decide_eq_false_iff_not] at h
  refine ⟨?_, h.2⟩
  rcases Nat.eq_zero_or_pos (key g.cum n) with e | e
  · have : n = g.cum := key_inj (f := g.cum) (by rw [e, key_self])
    subst this
    exact absurd (by rw [UInt32.sub_self]; decide) h.1
  · exact e
/-- Right ones stay right. -/
theorem take_right {g : Gt} (hr : RightG g) (n : UInt32) : RightG (takeG g n).1 := by
  unfold takeG
  by_cases h : hasB g n = true
  · rw [if_pos h]
    refine ⟨hr.strict, hr.near, ?_⟩
    show (if g.du.length < 100 then g.du ++ [n] else g.du).length ≤ 100
    split
    · simp; omega
    · exact hr.dups
  · rw [if_neg h]
    obtain ⟨h1, h2⟩ := has_right hr (by simpa using h)
    by_cases hf : 4000 < key g.cum n
    · rw [if_pos hf]; exact hr
    · rw [if_neg hf]
      by_cases hn : n = g.cum + 1
      · rw [if_pos hn]
        have hk1 : key g.cum n = 1 := by rw [hn]; exact key_next _
        obtain ⟨k, hw⟩ := follow_went g.cum g.ab n hr.strict (fun x hx => by have := (hr.near x hx).1; omega)
        have hle : ∀ x ∈ (follow n g.ab).2, key g.cum (follow n g.ab).1 ≤ key g.cum x := fun x hx => by have := hw.two x hx; omega
        refine ⟨strict_shift hw.strict hle, fun x hx => ?_, hr.dups⟩
        have h3 := hw.two x hx
        have h4 := (hr.near x ((hw.mem x).2 (.inl hx))).2
        show 2 ≤ key (follow n g.ab).1 x ∧ key (follow n g.ab).1 x ≤ 4000
        rw [key_shift (hle x hx)]
        omega
      · rw [if_neg hn]
        have hk1 : key g.cum n ≠ 1 := fun e => hn (key_inj (f := g.cum) (by rw [e, key_next]))
        refine ⟨strict_ins _ _ _ hr.strict, fun x hx => ?_, hr.dups⟩
        rcases (mem_ins _ _ _ _).1 hx with rfl | hx
        · show 2 ≤ key g.cum x ∧ key g.cum x ≤ 4000
          omega
        · exact hr.near x hx

/-! ### The document's way: a list of all -/
/-- Cum goes up by k: those are there, and the next one is not. -/
def Climb (S : List UInt32) (c : UInt32) (k : Nat) : Prop := (∀ j, 1 ≤ j → j ≤ k → c + UInt32.ofNat j ∈ S) ∧ c + UInt32.ofNat (k + 1) ∉ S
theorem climb_one {S : List UInt32} {c : UInt32} {a b : Nat} (h : Climb S c a) (k : Climb S c b) : a = b := by
  rcases Nat.lt_trichotomy a b with e | e | e
  · exact absurd (k.1 (a + 1) (by omega) (by omega)) h.2
  · exact e
  · exact absurd (h.1 (b + 1) (by omega) (by omega)) k.2
def refAb (c : UInt32) (S : List UInt32) (d : Nat) : List UInt32 := ((List.range' 2 d).map fun j => c + UInt32.ofNat j).filter fun x => decide (x ∈ S)
theorem refAb_mem {c : UInt32} {S : List UInt32} {d : Nat} (hd : d ≤ 3999) {x : UInt32} : x ∈ refAb c S d ↔ x ∈ S ∧ 2 ≤ key c x ∧ key c x ≤ d + 1 := by
  unfold refAb
  rw [List.mem_filter, List.mem_map]
  constructor
  · rintro ⟨⟨j, hj, rfl⟩, hS⟩
    rw [List.mem_range'_1] at hj
    rw [key_add (by omega)]
    exact ⟨of_decide_eq_true hS, by omega, by omega⟩
  · rintro ⟨hS, h2, h3⟩
    exact ⟨⟨key c x, by rw [List.mem_range'_1]; omega, add_key c x⟩, decide_eq_true hS⟩
theorem refAb_strict (c : UInt32) (S : List UInt32) {d : Nat} (hd : d ≤ 3999) : Strict c (refAb c S d) := by
  unfold refAb
  refine strict_iff.2 (List.Pairwise.filter _ ?_)
  rw [List.pairwise_map]
  refine List.Pairwise.imp_of_mem (fun {a b} ha hb hab => ?_) (List.pairwise_lt_range' (s := 2) (n := d))
  rw [List.mem_range'_1] at ha hb
  rw [key_add (by omega), key_add (by omega)]
  exact hab
theorem refAb_succ (c : UInt32) (S : List UInt32) (d : Nat) : refAb c S (d + 1) = if c + UInt32.ofNat (d + 2) ∈ S then refAb c S d ++ [c + UInt32.ofNat (d + 2)] else refAb c S d := by
  unfold refAb
  rw [List.range'_concat, List.map_append, List.filter_append]
  simp only [List.map_cons, List.map_nil, Nat.one_mul]
  rw [show 2 + d = d + 2 by omega]
  by_cases h : c + UInt32.ofNat (d + 2) ∈ S
  · rw [if_pos h, List.filter_cons_of_pos (by simpa using h)]; simp
  · rw [if_neg h, List.filter_cons_of_neg (by simpa using h)]; simp
/-- The document's answer, where the number is fresh and near. -/
theorem ref_take {g : Gt} (hr : RightG g) {n : UInt32} (h : hasB g n = false) (hf : ¬ 4000 < key g.cum n) {k : Nat} (hc : Climb (g.ab ++ [n]) g.cum k) :
    (takeG g n).2 = true ∧ (takeG g n).1 = ⟨g.cum + UInt32.ofNat k, refAb (g.cum + UInt32.ofNat k) (g.ab ++ [n]) 3999, g.du⟩ := by
  obtain ⟨h1, h2⟩ := has_right hr h
  unfold takeG
  rw [if_neg (by rw [h]; decide), if_neg hf]
  by_cases hn : n = g.cum + 1
  · rw [if_pos hn]
    refine ⟨rfl, ?_⟩
    have hk1 : key g.cum n = 1 := by rw [hn]; exact key_next _
    obtain ⟨m, hw⟩ := follow_went g.cum g.ab n hr.strict (fun x hx => by have := (hr.near x hx).1; omega)
    obtain ⟨c', hc'⟩ : ∃ c, (follow n g.ab).1 = c := ⟨_, rfl⟩
    obtain ⟨r', hr'⟩ : ∃ r, (follow n g.ab).2 = r := ⟨_, rfl⟩
    rw [hc', hr'] at hw ⊢
    have hkc := hw.kc
    have hc4 : key g.cum c' ≤ 4000 := by
      rcases Nat.eq_zero_or_pos m with e | e
      · omega
      · exact (hr.near c' (hw.le c' (by omega) (Nat.le_refl _))).2
    have hcl : Climb (g.ab ++ [n]) g.cum (m + 1) := by
      refine ⟨fun j j1 j2 => ?_, fun hm => ?_⟩
      · have hj : key g.cum (g.cum + UInt32.ofNat j) = j := key_add (by omega)
        rw [List.mem_append]
        by_cases e : j = 1
        · right
          have : g.cum + UInt32.ofNat j = n := key_inj (f := g.cum) (by rw [hj, hk1, e])
          rw [this]; simp
        · left
          exact hw.le _ (by omega) (by omega)
      · have hj : key g.cum (g.cum + UInt32.ofNat (m + 1 + 1)) = m + 2 := key_add (by omega)
        rcases List.mem_append.1 hm with hm | hm
        · rcases (hw.mem _).1 hm with hm | hm
          · have := hw.two _ hm; omega
          · omega
        · rw [List.mem_singleton.1 hm] at hj; omega
    have hkm := climb_one hc hcl
    have hcc : g.cum + UInt32.ofNat k = c' := by
      rw [← add_key g.cum c', hkm, hkc, hk1, Nat.add_comm]
    rw [hcc]
    have hle : ∀ x ∈ r', key g.cum c' ≤ key g.cum x := fun x hx => by have := hw.two x hx; omega
    have hab : r' = refAb c' (g.ab ++ [n]) 3999 := by
      refine strict_unique c' _ _ (strict_shift hw.strict hle) (refAb_strict _ _ (by omega)) fun x => ?_
      rw [refAb_mem (by omega), List.mem_append, List.mem_singleton]
      constructor
      · intro hx
        have h3 := hw.two x hx
        have hxa := (hw.mem x).2 (.inl hx)
        have h4 := (hr.near x hxa).2
        rw [key_shift (hle x hx)]
        exact ⟨.inl hxa, by omega, by omega⟩
      · rintro ⟨hx, h3, h4⟩
        by_cases hlt : key g.cum x < key g.cum c'
        · rw [key_below hlt] at h4
          have := key_lt g.cum c'
          omega
        · have e := key_shift (Nat.le_of_not_lt hlt)
          rcases hx with hx | rfl
          · rcases (hw.mem x).1 hx with hx | hx
            · exact hx
            · omega
          · omega
    rw [hab]
  · rw [if_neg hn]
    refine ⟨rfl, ?_⟩
    have hk1 : key g.cum n ≠ 1 := fun e => hn (key_inj (f := g.cum) (by rw [e, key_next]))
    have hcl : Climb (g.ab ++ [n]) g.cum 0 := by
      refine ⟨fun j j1 j2 => absurd j1 (by omega), fun hm => ?_⟩
      have hj : key g.cum (g.cum + UInt32.ofNat (0 + 1)) = 1 := key_add (by omega)
      rcases List.mem_append.1 hm with hm | hm
      · have := (hr.near _ hm).1; omega
      · rw [List.mem_singleton.1 hm] at hj; omega
    obtain rfl := climb_one hc hcl
    have hz : g.cum + UInt32.ofNat 0 = g.cum := key_inj (f := g.cum) (by rw [key_add (by omega), key_self])
    rw [hz]
    have hab : ins g.cum n g.ab = refAb g.cum (g.ab ++ [n]) 3999 := by
      refine strict_unique g.cum _ _ (strict_ins _ _ _ hr.strict) (refAb_strict _ _ (by omega)) fun x => ?_
      rw [refAb_mem (by omega), mem_ins, List.mem_append, List.mem_singleton]
      constructor
      · rintro (rfl | hx)
        · exact ⟨.inr rfl, by omega, by omega⟩
        · have := hr.near x hx
          exact ⟨.inl hx, this.1, this.2⟩
      · rintro ⟨hx | hx, _⟩
        · exact .inr hx
        · exact .inl hx
    rw [hab]
/-- Put in at its place. -/
theorem ins_place {c n : UInt32} {ab : List UInt32} {p : Nat} (hs : Strict c ab) (hp : p ≤ ab.length) (hlo : ∀ x ∈ ab.take p, key c x < key c n) (hhi : ∀ x ∈ ab.drop p, key c n < key c x) : ab.take p ++ n :: ab.drop p = ins c n ab := by
  refine strict_unique c _ _ ?_ (strict_ins _ _ _ hs) fun z => ?_
  · rw [strict_iff] at *
    have h1 : (ab.take p).Pairwise fun x y => key c x < key c y := List.Pairwise.sublist (List.take_sublist _ _) hs
    have h2 : (ab.drop p).Pairwise fun x y => key c x < key c y := List.Pairwise.sublist (List.drop_sublist _ _) hs
    rw [List.pairwise_append, List.pairwise_cons]
    refine ⟨h1, ⟨hhi, h2⟩, fun a ha b hb => ?_⟩
    rcases List.mem_cons.1 hb with rfl | hb
    · exact hlo a ha
    · exact Nat.lt_trans (hlo a ha) (hhi b hb)
  · rw [mem_ins, List.mem_append, List.mem_cons]
    conv => rhs; rw [← List.take_append_drop p ab]
    rw [List.mem_append]
    constructor
    · rintro (h | h | h)
      · exact .inr (.inl h)
      · exact .inl h
      · exact .inr (.inr h)
    · rintro (h | h | h)
      · exact .inr (.inl h)
      · exact .inl h
      · exact .inr (.inr h)
end Go.Proofs.Ytfdnphkdpmlbnaa
