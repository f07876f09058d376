/-
  The loops that look for a row: plain.
-/
import Derived.Test.YtgngdgiipifacaaSp
namespace Go.Proofs.Ytgngdgiipifacaa
open Go.RowKit
set_option linter.unusedVariables false
set_option linter.unusedSimpArgs false
set_option maxRecDepth 100000

/-- Where the loop back stands. -/
structure BackI (l : List Pc) (p : Pc) (k : Nat) (x : Pc) : Prop where
  mem : x ∈ l
  ts : x.ts = p.ts - UInt32.ofNat k
  all : ∀ i, i ≤ k → ∃ y ∈ l, y.ts = p.ts - UInt32.ofNat i
  lt : k < l.length
  eq : backC l l.length p = backC l (l.length - k) x
/-- Where the loop on stands. -/
structure FwdI (l : List Pc) (q : Pc) (k : Nat) (x : Pc) (acc : List Pc) : Prop where
  seg : Seg l acc
  len : acc.length = k + 1
  last : acc[k]'(by rw [len]; omega) = x
  hd : acc[0]'(by rw [len]; omega) = q
  lt : k < l.length
  eq : fwdC l l.length q [q] = fwdC l (l.length - k) x acc
theorem BackI.start {l : List Pc} {p : Pc} (hp : p ∈ l) : BackI l p 0 p :=
  ⟨hp, by rw [show UInt32.ofNat 0 = (0 : UInt32) from rfl, UInt32.sub_zero], fun i hi => ⟨p, hp, by rw [Nat.le_zero.1 hi, show UInt32.ofNat 0 = (0 : UInt32) from rfl, UInt32.sub_zero]⟩, List.length_pos_of_mem hp, rfl⟩
theorem sub_succ (t : UInt32) (k : Nat) : t - UInt32.ofNat k - 1 = t - UInt32.ofNat (k + 1) := by
  apply UInt32.toNat_inj.1
  have h1 : (1 : UInt32).toNat = 1 := rfl
  simp only [UInt32.toNat_sub, UInt32.toNat_ofNat', h1]
  omega
theorem pigeon {l : List Pc} {t : UInt32} {k : Nat} (hl : l.length ≤ 100000) (hk : k ≤ 200000) (h : ∀ i, i ≤ k → ∃ y ∈ l, y.ts = t - UInt32.ofNat i) : k < l.length := by
  have hnd : ((List.range (k + 1)).map fun i => t - UInt32.ofNat i).Nodup := by
    rw [List.nodup_iff_pairwise_ne, List.pairwise_iff_getElem]
    intro i j hi hj hij e
    rw [List.length_map, List.length_range] at hi hj
    rw [List.getElem_map, List.getElem_map, List.getElem_range, List.getElem_range] at e
    have h2 := congrArg UInt32.toNat e
    simp only [UInt32.toNat_sub, UInt32.toNat_ofNat'] at h2
    have := t.toNat_lt
    omega
  have hsub : ((List.range (k + 1)).map fun i => t - UInt32.ofNat i) ⊆ l.map (·.ts) := by
    intro x hx
    obtain ⟨i, hi, rfl⟩ := List.mem_map.1 hx
    obtain ⟨y, hy, e⟩ := h i (by have := List.mem_range.1 hi; omega)
    exact List.mem_map.2 ⟨y, hy, e⟩
  have := hnd.length_le_of_subset hsub
  rw [List.length_map, List.length_map, List.length_range] at this
  omega
theorem BackI.next {l : List Pc} {p x a : Pc} {k : Nat} (hl : l.length ≤ 100000) (h : BackI l p k x) (hb : x.bg = false) (ha : findT l (x.ts - 1) = some a) (hg : goesB a x = true) : BackI l p (k + 1) a := by
  obtain ⟨h1, h2⟩ := find_mem ha
  have ht : a.ts = p.ts - UInt32.ofNat (k + 1) := by rw [h2, h.ts, sub_succ]
  have hlt := h.lt
  have hall : ∀ i, i ≤ k + 1 → ∃ y ∈ l, y.ts = p.ts - UInt32.ofNat i := fun i hi => by
    by_cases e : i = k + 1
    · subst e; exact ⟨a, h1, ht⟩
    · exact h.all i (by omega)
  have hk := pigeon hl (by omega) hall
  refine ⟨h1, ht, hall, hk, ?_⟩
  rw [h.eq, show l.length - k = (l.length - (k + 1)) + 1 by omega]
  conv => lhs; unfold backC
  rw [if_neg (by rw [hb]; decide)]
  simp only [ha]
  rw [if_pos hg]
theorem BackI.done {l : List Pc} {p x : Pc} {k : Nat} (h : BackI l p k x) (hb : x.bg = true) : backC l l.length p = some x := by
  rw [h.eq]
  unfold backC
  rw [if_pos hb]
theorem BackI.away {l : List Pc} {p x : Pc} {k : Nat} (h : BackI l p k x) (hb : x.bg = false) (ha : findT l (x.ts - 1) = none) : backC l l.length p = none := by
  have hlt := h.lt
  rw [h.eq, show l.length - k = (l.length - (k + 1)) + 1 by omega]
  unfold backC
  rw [if_neg (by rw [hb]; decide)]
  simp only [ha]
theorem BackI.not {l : List Pc} {p x a : Pc} {k : Nat} (h : BackI l p k x) (hb : x.bg = false) (ha : findT l (x.ts - 1) = some a) (hg : goesB a x = false) : backC l l.length p = none := by
  have hlt := h.lt
  rw [h.eq, show l.length - k = (l.length - (k + 1)) + 1 by omega]
  unfold backC
  rw [if_neg (by rw [hb]; decide)]
  simp only [ha]
  rw [if_neg (by rw [hg]; decide)]
theorem FwdI.start {l : List Pc} {q : Pc} (hq : q ∈ l) (hb : q.bg = true) : FwdI l q 0 q [q] :=
  ⟨Seg.one hq hb, rfl, rfl, rfl, List.length_pos_of_mem hq, rfl⟩
theorem FwdI.next {l : List Pc} {q x b : Pc} {k : Nat} {acc : List Pc} (hl : (l.map (·.ts)).Nodup) (h : FwdI l q k x acc) (he : x.en = false) (hf : findT l (x.ts + 1) = some b) (hg : goesB x b = true) : FwdI l q (k + 1) b (acc ++ [b]) := by
  have hlen := h.len
  have hlt := h.lt
  obtain ⟨h1, h2⟩ := find_mem hf
  have e : acc[acc.length - 1]'(by omega) = x := by
    have := h.last
    simp only [hlen, Nat.add_sub_cancel]
    exact this
  have hs := h.seg.next h1 (by rw [e]; exact h2) (by rw [e]; exact hg)
  have hle := hs.le hl
  rw [List.length_append, List.length_singleton, hlen] at hle
  refine ⟨hs, by rw [List.length_append, List.length_singleton, hlen], by simp [← hlen], by rw [List.getElem_append_left]; exact h.hd, by omega, ?_⟩
  rw [h.eq, show l.length - k = (l.length - (k + 1)) + 1 by omega]
  conv => lhs; unfold fwdC
  rw [if_neg (by rw [he]; decide)]
  simp only [hf]
  rw [if_pos hg]
theorem FwdI.done {l : List Pc} {q x : Pc} {k : Nat} {acc : List Pc} (h : FwdI l q k x acc) (he : x.en = true) : fwdC l l.length q [q] = some acc := by
  rw [h.eq]
  unfold fwdC
  rw [if_pos he]
theorem FwdI.away {l : List Pc} {q x : Pc} {k : Nat} {acc : List Pc} (h : FwdI l q k x acc) (he : x.en = false) (hf : findT l (x.ts + 1) = none) : fwdC l l.length q [q] = none := by
  have hlt := h.lt
  rw [h.eq, show l.length - k = (l.length - (k + 1)) + 1 by omega]
  unfold fwdC
  rw [if_neg (by rw [he]; decide)]
  simp only [hf]
theorem FwdI.not {l : List Pc} {q x b : Pc} {k : Nat} {acc : List Pc} (h : FwdI l q k x acc) (he : x.en = false) (hf : findT l (x.ts + 1) = some b) (hg : goesB x b = false) : fwdC l l.length q [q] = none := by
  have hlt := h.lt
  rw [h.eq, show l.length - k = (l.length - (k + 1)) + 1 by omega]
  unfold fwdC
  rw [if_neg (by rw [he]; decide)]
  simp only [hf]
  rw [if_neg (by rw [hg]; decide)]
theorem back_ts {p : UInt32} {k : Nat} (hk : k < 100000) : (p - (p - UInt32.ofNat k)).toNat = k := by
  simp only [UInt32.toNat_sub, UInt32.toNat_ofNat']
  have := p.toNat_lt
  omega
theorem fwd_ts {p : UInt32} {k : Nat} (hk : k < 100000) : (p + UInt32.ofNat k - p).toNat = k := by
  simp only [UInt32.toNat_sub, UInt32.toNat_add, UInt32.toNat_ofNat']
  have := p.toNat_lt
  omega
end Go.Proofs.Ytgngdgiipifacaa
