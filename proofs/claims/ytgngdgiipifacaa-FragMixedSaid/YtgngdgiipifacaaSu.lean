/-
  Pieces of one message, put into a bag in whatever order: plain.
-/
import Derived.Test.YtgngdgiipifacaaSi
import Derived.Test.YtgngdgiipifacaaSt
namespace Go.Proofs.Ytgngdgiipifacaa
open Go.RowKit
set_option linter.unusedVariables false
set_option linter.unusedSimpArgs false
set_option maxRecDepth 100000

/-- The pieces of a message, by their places. -/
structure Fam (pc : Nat → Pc) (m : Nat) (f : UInt32) : Prop where
  m0 : 0 < m
  mx : m ≤ 1000
  ts : ∀ i, i < m → (pc i).ts = f + UInt32.ofNat i
  bg : ∀ i, i < m → (pc i).bg = decide (i = 0)
  en : ∀ i, i < m → (pc i).en = decide (i + 1 = m)
  kin : ∀ i, i < m → kinB (pc 0) (pc i) = true
/-- A piece of another message. -/
def Frn (pc : Nat → Pc) (m : Nat) (f : UInt32) (x : Pc) : Prop := kinB (pc 0) x = false ∧ ∀ i, i < m → x.ts ≠ f + UInt32.ofNat i
/-- A bag of pieces of this message and of others. -/
def Mix (pc : Nat → Pc) (m : Nat) (f : UInt32) (l : List Pc) : Prop := ∀ x ∈ l, (∃ i, i < m ∧ x = pc i) ∨ Frn pc m f x
theorem ofNat_inj {f : UInt32} {i j : Nat} (hi : i < 100000) (hj : j < 100000) (h : f + UInt32.ofNat i = f + UInt32.ofNat j) : i = j := by
  have h1 := fwd_ts (p := f) hi
  rw [h, fwd_ts hj] at h1
  exact h1.symm
theorem Fam.row_at {pc : Nat → Pc} {m : Nat} {f : UInt32} {l r : List Pc} (h : Fam pc m f) (hm : Mix pc m f l) (hir : IsRow l r) {n : Nat} (hn : n < m) (hp : pc n ∈ r) : ∀ i, i < m → ∃ hi : i < r.length, r[i] = pc i
  | 0, _ => by
    refine ⟨hir.ne, ?_⟩
    obtain ⟨k, hk, e⟩ := List.getElem_of_mem hp
    have h1 := hir.kin k hk
    rw [e] at h1
    have h2 : kinB (pc 0) (r[0]'hir.ne) = true := kin_trans (h.kin n hn) (kin_symm h1)
    rcases hm _ (hir.mem _ (List.getElem_mem hir.ne)) with ⟨i, hi, e⟩ | hf
    · have h3 := hir.bg 0 hir.ne
      rw [e, h.bg i hi] at h3
      have : i = 0 := by simpa using h3
      subst this
      exact e
    · rw [hf.1] at h2; cases h2
  | i + 1, hi => by
    obtain ⟨h1, h2⟩ := h.row_at hm hir hn hp i (by omega)
    obtain ⟨h0, e0⟩ := h.row_at hm hir hn hp 0 h.m0
    have h3 := hir.en i h1
    rw [h2, h.en i (by omega), decide_eq_false (by omega)] at h3
    have h4 : i + 1 ≠ r.length := by simpa using h3.symm
    have h5 : i + 1 < r.length := by omega
    refine ⟨h5, ?_⟩
    have h6 := hir.ts (i + 1) h5
    rw [e0, h.ts 0 h.m0, show UInt32.ofNat 0 = (0 : UInt32) from rfl, UInt32.add_zero] at h6
    rcases hm _ (hir.mem _ (List.getElem_mem h5)) with ⟨j, hj, e⟩ | hf
    · rw [e, h.ts j hj] at h6
      have := h.mx
      have hji := ofNat_inj (by omega) (by omega) h6
      subst hji
      exact e
    · exact absurd h6 (hf.2 _ hi)
/-- One is missing: no row. -/
theorem Fam.noRow {pc : Nat → Pc} {m : Nat} {f : UInt32} {l : List Pc} (h : Fam pc m f) (hm : Mix pc m f l) (hl : (l.map (·.ts)).Nodup) {n : Nat} (hn : n < m) (hp : pc n ∈ l) {i : Nat} (hi : i < m) (hx : pc i ∉ l) : rowC l (pc n) = none := by
  cases hr : rowC l (pc n) with
  | none => rfl
  | some r =>
    obtain ⟨hir, hpr⟩ := row_sound hl hp hr
    obtain ⟨h1, h2⟩ := h.row_at hm hir hn hpr i hi
    exact absurd (h2 ▸ hir.mem _ (List.getElem_mem h1)) hx
theorem Fam.isRow {pc : Nat → Pc} {m : Nat} {f : UInt32} {l : List Pc} (h : Fam pc m f) (ha : ∀ i, i < m → pc i ∈ l) : IsRow l ((List.range m).map pc) := by
  have hlen : ((List.range m).map pc).length = m := by simp
  refine ⟨by rw [hlen]; exact h.m0, fun x hx => ?_, fun i hi => ?_, fun i hi => ?_, fun i hi => ?_, fun i hi => ?_⟩
  · obtain ⟨i, hi, rfl⟩ := List.mem_map.1 hx
    exact ha i (List.mem_range.1 hi)
  · rw [hlen] at hi
    simp only [List.getElem_map, List.getElem_range]
    rw [h.ts i hi, h.ts 0 h.m0, show UInt32.ofNat 0 = (0 : UInt32) from rfl, UInt32.add_zero]
  · rw [hlen] at hi
    simp only [List.getElem_map, List.getElem_range]
    exact h.bg i hi
  · rw [hlen] at hi
    simp only [List.getElem_map, List.getElem_range, hlen]
    exact h.en i hi
  · rw [hlen] at hi
    simp only [List.getElem_map, List.getElem_range]
    exact h.kin i hi
/-- All are there: the row. -/
theorem Fam.hasRow {pc : Nat → Pc} {m : Nat} {f : UInt32} {l : List Pc} (h : Fam pc m f) (hl : (l.map (·.ts)).Nodup) (ha : ∀ i, i < m → pc i ∈ l) {n : Nat} (hn : n < m) : rowC l (pc n) = some ((List.range m).map pc) :=
  row_full hl (h.isRow ha) (List.mem_map.2 ⟨n, List.mem_range.2 hn, rfl⟩)
theorem Fam.inRow {pc : Nat → Pc} {m : Nat} {f : UInt32} (h : Fam pc m f) (x : Pc) : inRow ((List.range m).map pc) x = true ↔ ∃ i, i < m ∧ x.ts = f + UInt32.ofNat i := by
  have hlen : ((List.range m).map pc).length = m := by simp
  have hmx := h.mx
  unfold Go.Proofs.Ytgngdgiipifacaa.inRow
  rw [getElem!_pos _ 0 (by rw [hlen]; exact h.m0), decide_eq_true_iff]
  simp only [List.getElem_map, List.getElem_range, List.length_map, List.length_range]
  rw [h.ts 0 h.m0, show UInt32.ofNat 0 = (0 : UInt32) from rfl, UInt32.add_zero]
  constructor
  · intro hx
    refine ⟨(x.ts - f).toNat, hx, ?_⟩
    rw [UInt32.ofNat_toNat, UInt32.add_comm, UInt32.sub_add_cancel]
  · rintro ⟨i, hi, e⟩
    rw [e, fwd_ts (by omega)]
    exact hi
/-- What the row leaves. -/
theorem Fam.keep {pc : Nat → Pc} {m : Nat} {f : UInt32} {l : List Pc} (h : Fam pc m f) (hf : ∀ x ∈ l, Frn pc m f x) (d : List Nat) (hd : ∀ i ∈ d, i < m) : keepL ((List.range m).map pc) (l ++ d.map pc) = l := by
  unfold keepL
  rw [List.filter_append, List.filter_eq_self.2, List.filter_eq_nil_iff.2, List.append_nil]
  · intro x hx
    obtain ⟨i, hi, rfl⟩ := List.mem_map.1 hx
    rw [(h.inRow (pc i)).2 ⟨i, hd i hi, h.ts i (hd i hi)⟩]
    simp
  · intro x hx
    cases hi : Go.Proofs.Ytgngdgiipifacaa.inRow ((List.range m).map pc) x with
    | false => rfl
    | true =>
      obtain ⟨i, h1, h2⟩ := (h.inRow x).1 hi
      exact absurd h2 ((hf x hx).2 i h1)
end Go.Proofs.Ytgngdgiipifacaa
