/-
  What was made of numbers that came, in whatever order: plain. No program is named here.
-/
import Derived.Test.YtfdnphkdpmlbnaaGp
namespace Go.Proofs.Ytfdnphkdpmlbnaa
open Go.RowKit
set_option linter.unusedVariables false

theorem strict_back {f c : UInt32} {s : List UInt32} (h : Strict c s) (hc : ∀ x ∈ s, key f c ≤ key f x) : Strict f s := by
  rw [strict_iff] at *
  refine List.Pairwise.imp_of_mem (fun {a b} ha hb hab => ?_) h
  rw [key_shift (hc a ha), key_shift (hc b hb)] at hab
  omega
theorem length_ins_new (f x : UInt32) (s : List UInt32) (hx : x ∉ s) : (ins f x s).length = s.length + 1 := by
  induction s with
  | nil => simp [ins]
  | cons y ys ih =>
    unfold ins
    split
    · simp; exact ih (fun h => hx (List.mem_cons_of_mem _ h))
    · split
      · rename_i h; subst h; exact absurd (List.mem_cons_self) hx
      · simp
/-- Of the numbers S, reckoned from b on. -/
structure Made (b : UInt32) (S : List UInt32) (g : Gt) : Prop where
  near : key b g.cum ≤ 200
  le : ∀ y, 1 ≤ key b y → key b y ≤ key b g.cum → y ∈ S
  ab : ∀ x, x ∈ g.ab ↔ x ∈ S ∧ key b g.cum < key b x
  two : ∀ x ∈ g.ab, key b g.cum + 2 ≤ key b x
  pos : ∀ x ∈ S, 1 ≤ key b x ∧ key b x ≤ 200
  strict : Strict b g.ab
  cnt : key b g.cum + g.ab.length = S.length
theorem Made.start (b : UInt32) : Made b [] ⟨b, [], []⟩ :=
  ⟨by show key b b ≤ 200; rw [key_self]; omega, fun y h1 h2 => by rw [key_self] at h2; omega, fun x => by simp, fun x hx => by simp at hx, fun x hx => by simp at hx, by simp [Strict], by show key b b + 0 = 0; rw [key_self]⟩
theorem Made.right {b : UInt32} {S : List UInt32} {g : Gt} (h : Made b S g) (hd : g.du.length ≤ 100) : RightG g := by
  have hle : ∀ x ∈ g.ab, key b g.cum ≤ key b x := fun x hx => by have := h.two x hx; omega
  refine ⟨strict_shift h.strict hle, fun x hx => ?_, hd⟩
  rw [key_shift (hle x hx)]
  have h1 := h.two x hx
  have h2 := (h.pos x ((h.ab x).1 hx).1).2
  omega
theorem Made.has {b : UInt32} {S : List UInt32} {g : Gt} (h : Made b S g) {n : UInt32} (h1 : 1 ≤ key b n) (h2 : key b n ≤ 200) : hasB g n = decide (n ∈ S) := by
  have hn := h.near
  unfold hasB
  by_cases hle : key b n ≤ key b g.cum
  · have e : (g.cum - n).toNat = key b g.cum - key b n := key_shift hle
    rw [e, decide_eq_true (show key b g.cum - key b n < 2147483648 by omega), decide_eq_true (h.le n h1 hle)]
    rfl
  · have e : (g.cum - n).toNat = 4294967296 - (key b n - key b g.cum) := key_below (by omega)
    rw [e, decide_eq_false (show ¬ 4294967296 - (key b n - key b g.cum) < 2147483648 by omega), Bool.false_or, decide_eq_decide, h.ab n]
    exact ⟨fun h => h.1, fun h => ⟨h, by omega⟩⟩
theorem Made.dup {b : UInt32} {S : List UInt32} {g : Gt} (h : Made b S g) {n : UInt32} (hn : n ∈ S) : takeG g n = (⟨g.cum, g.ab, if g.du.length < 100 then g.du ++ [n] else g.du⟩, false) := by
  obtain ⟨h1, h2⟩ := h.pos n hn
  unfold takeG
  rw [h.has h1 h2, decide_eq_true hn, if_pos rfl]
theorem Made.same {b : UInt32} {S : List UInt32} {g : Gt} (h : Made b S g) (du : List UInt32) : Made b S ⟨g.cum, g.ab, du⟩ := ⟨h.near, h.le, h.ab, h.two, h.pos, h.strict, h.cnt⟩
theorem Made.fresh {b : UInt32} {S : List UInt32} {g : Gt} (h : Made b S g) {n : UInt32} (h1 : 1 ≤ key b n) (h2 : key b n ≤ 200) (hn : n ∉ S) : (takeG g n).2 = true ∧ (takeG g n).1.du = g.du ∧ Made b (S ++ [n]) (takeG g n).1 := by
  have hnc := h.near
  have hlt : key b g.cum < key b n := by
    by_cases hle : key b n ≤ key b g.cum
    · exact absurd (h.le n h1 hle) hn
    · omega
  have hkn : key g.cum n = key b n - key b g.cum := key_shift (by omega)
  have hpos : ∀ x ∈ S ++ [n], 1 ≤ key b x ∧ key b x ≤ 200 := fun x hx => by
    rcases List.mem_append.1 hx with hx | hx
    · exact h.pos x hx
    · rw [List.mem_singleton.1 hx]; exact ⟨h1, h2⟩
  have hnab : n ∉ g.ab := fun hx => hn ((h.ab n).1 hx).1
  unfold takeG
  rw [h.has h1 h2, decide_eq_false hn, if_neg (by decide), if_neg (by omega)]
  by_cases hn1 : n = g.cum + 1
  · rw [if_pos hn1]
    refine ⟨rfl, rfl, ?_⟩
    have hk1 : key b n = key b g.cum + 1 := by rw [hn1]; exact key_up (by omega)
    obtain ⟨k, hw⟩ := follow_went b g.ab n h.strict (fun x hx => by have := h.two x hx; omega)
    obtain ⟨c', hc'⟩ : ∃ c, (follow n g.ab).1 = c := ⟨_, rfl⟩
    obtain ⟨r', hr'⟩ : ∃ r, (follow n g.ab).2 = r := ⟨_, rfl⟩
    rw [hc', hr'] at hw ⊢
    have hkc := hw.kc
    have hc2 : key b c' ≤ 200 := by
      rcases Nat.eq_zero_or_pos k with e | e
      · omega
      · exact (h.pos c' ((h.ab c').1 (hw.le c' (by omega) (Nat.le_refl _))).1).2
    refine ⟨hc2, fun y y1 y2 => ?_, fun x => ?_, hw.two, hpos, hw.strict, ?_⟩
    · rw [List.mem_append, List.mem_singleton]
      have y2' : key b y ≤ key b c' := y2
      rcases Nat.lt_trichotomy (key b y) (key b n) with e | e | e
      · exact .inl (h.le y y1 (by omega))
      · exact .inr (key_inj e)
      · exact .inl ((h.ab y).1 (hw.le y e y2')).1
    · rw [List.mem_append, List.mem_singleton]
      show x ∈ r' ↔ (x ∈ S ∨ x = n) ∧ key b c' < key b x
      constructor
      · intro hx
        have h3 := hw.two x hx
        exact ⟨.inl ((h.ab x).1 ((hw.mem x).2 (.inl hx))).1, by omega⟩
      · rintro ⟨hx | rfl, hk⟩
        · rcases (hw.mem x).1 ((h.ab x).2 ⟨hx, by omega⟩) with e | e
          · exact e
          · omega
        · omega
    · show key b c' + r'.length = (S ++ [n]).length
      have := h.cnt
      have := hw.cnt
      simp
      omega
  · rw [if_neg hn1]
    refine ⟨rfl, rfl, ?_⟩
    have hk1 : key b n ≠ key b g.cum + 1 := fun e => hn1 (key_inj (f := b) (by rw [e, key_up (by omega)]))
    refine ⟨h.near, fun y y1 y2 => List.mem_append.2 (.inl (h.le y y1 y2)), fun x => ?_, fun x hx => ?_, hpos, strict_back (strict_ins g.cum n g.ab (strict_shift h.strict fun x hx => by have := h.two x hx; omega)) (fun x hx => ?_), ?_⟩
    · rw [List.mem_append, List.mem_singleton]
      show x ∈ ins g.cum n g.ab ↔ _
      rw [mem_ins, h.ab x]
      constructor
      · rintro (rfl | hx)
        · exact ⟨.inr rfl, hlt⟩
        · exact ⟨.inl hx.1, hx.2⟩
      · rintro ⟨hx | hx, hk⟩
        · exact .inr ⟨hx, hk⟩
        · exact .inl hx
    · rcases (mem_ins _ _ _ _).1 hx with rfl | hx
      · show key b g.cum + 2 ≤ key b x; omega
      · exact h.two x hx
    · rcases (mem_ins _ _ _ _).1 hx with rfl | hx
      · omega
      · have := h.two x hx; omega
    · have := h.cnt
      show key b g.cum + (ins g.cum n g.ab).length = _
      rw [length_ins_new _ _ _ hnab]
      simp
      omega
theorem Made.ext {b : UInt32} {S S' : List UInt32} {g g' : Gt} (h : Made b S g) (k : Made b S' g') (hm : ∀ x, x ∈ S ↔ x ∈ S') : g.cum = g'.cum ∧ g.ab = g'.ab := by
  have step : ∀ {S S' : List UInt32} {g g' : Gt}, Made b S g → Made b S' g' → (∀ x, x ∈ S ↔ x ∈ S') → ¬ key b g.cum < key b g'.cum := by
    intro S S' g g' h k hm hlt
    have hn := k.near
    have e : key b (g.cum + 1) = key b g.cum + 1 := key_up (by omega)
    have h1 := (hm _).2 (k.le (g.cum + 1) (by omega) (by omega))
    have h2 := h.two _ ((h.ab _).2 ⟨h1, by omega⟩)
    omega
  have hc : g.cum = g'.cum := by
    have h1 := step h k hm
    have h2 := step k h (fun x => (hm x).symm)
    exact key_inj (f := b) (by omega)
  refine ⟨hc, strict_unique b _ _ h.strict k.strict fun z => ?_⟩
  rw [h.ab z, k.ab z, hm z, hc]
theorem key_num (first : UInt32) {r : Nat} (h : r < 1000) : key (first - 1) (first + UInt32.ofNat r) = r + 1 := by
  unfold key
  simp only [UInt32.toNat_sub, UInt32.toNat_add, UInt32.toNat_ofNat']
  have := first.toNat_lt
  show (_ - (_ - 1 + _) % _ + _) % _ = _
  omega
end Go.Proofs.Ytfdnphkdpmlbnaa
