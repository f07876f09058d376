/-
  Pieces of one message, put into a bag: what Put tells: plain.
-/
import Derived.Test.YtgngdgiipifacaaSu
namespace Go.Proofs.Ytgngdgiipifacaa
open Go.RowKit
set_option linter.unusedVariables false
set_option linter.unusedSimpArgs false
set_option maxRecDepth 100000

theorem putP_new {l : List Pc} {p : Pc} (hf : findT l p.ts = none) (hp : 0 < p.tx.size) : putP l p = match rowC (l ++ [p]) p with
    | none => (l ++ [p], none)
    | some r => (keepL r l, some (joinM r)) := by
  unfold putP
  rw [if_neg (by rw [hf, decide_eq_false (show ¬ p.tx.size = 0 by omega)]; simp)]
  rfl
theorem Fam.new {pc : Nat → Pc} {m : Nat} {f : UInt32} {l : List Pc} (h : Fam pc m f) (hm : Mix pc m f l) {n : Nat} (hn : n < m) (hx : pc n ∉ l) : findT l (pc n).ts = none := by
  rw [find_none]
  intro x hxl e
  rw [h.ts n hn] at e
  rcases hm x hxl with ⟨j, hj, rfl⟩ | hf
  · rw [h.ts j hj] at e
    have := h.mx
    have hji := ofNat_inj (by omega) (by omega) e
    subst hji
    exact hx hxl
  · exact hf.2 n hn e
theorem Fam.inj {pc : Nat → Pc} {m : Nat} {f : UInt32} (h : Fam pc m f) {i j : Nat} (hi : i < m) (hj : j < m) (e : pc i = pc j) : i = j := by
  have h1 := h.ts i hi
  rw [e, h.ts j hj] at h1
  have := h.mx
  exact (ofNat_inj (by omega) (by omega) h1).symm
theorem Mix.add {pc : Nat → Pc} {m : Nat} {f : UInt32} {l : List Pc} (hm : Mix pc m f l) {n : Nat} (hn : n < m) : Mix pc m f (l ++ [pc n]) := by
  intro x hx
  rcases List.mem_append.1 hx with hx | hx
  · exact hm x hx
  · exact .inl ⟨n, hn, List.mem_singleton.1 hx⟩
/-- Not the last one. -/
theorem Fam.put_wait {pc : Nat → Pc} {m : Nat} {f : UInt32} {l : List Pc} (h : Fam pc m f) (hok : OkB l) (hm : Mix pc m f l) {n i : Nat} (hn : n < m) (hx : pc n ∉ l) (ht : 0 < (pc n).tx.size) (hi : i < m) (hin : i ≠ n) (hxi : pc i ∉ l) :
    putP l (pc n) = (l ++ [pc n], none) := by
  have hf := h.new hm hn hx
  have hok2 := okB_put hok hf ht
  rw [putP_new hf ht, h.noRow (hm.add hn) hok2.nd hn (by simp) hi (by
    intro hx2
    rcases List.mem_append.1 hx2 with hx2 | hx2
    · exact hxi hx2
    · exact hin (h.inj hi hn (List.mem_singleton.1 hx2)))]
/-- The last one. -/
theorem Fam.put_done {pc : Nat → Pc} {m : Nat} {f : UInt32} {O : List Pc} {d : List Nat} (h : Fam pc m f) (hO : ∀ x ∈ O, Frn pc m f x) (hd : ∀ i ∈ d, i < m) (hok : OkB (O ++ d.map pc)) {n : Nat} (hn : n < m) (hnd : n ∉ d) (ht : 0 < (pc n).tx.size) (hall : ∀ i, i < m → i = n ∨ i ∈ d) :
    putP (O ++ d.map pc) (pc n) = (O, some (joinM ((List.range m).map pc))) := by
  have hm : Mix pc m f (O ++ d.map pc) := by
    intro x hx
    rcases List.mem_append.1 hx with hx | hx
    · exact .inr (hO x hx)
    · obtain ⟨i, hi, rfl⟩ := List.mem_map.1 hx
      exact .inl ⟨i, hd i hi, rfl⟩
  have hx : pc n ∉ O ++ d.map pc := by
    intro hx
    rcases List.mem_append.1 hx with hx | hx
    · exact (hO _ hx).2 n hn (h.ts n hn)
    · obtain ⟨i, hi, e⟩ := List.mem_map.1 hx
      have := h.inj (hd i hi) hn e
      subst this
      exact hnd hi
  have hf := h.new hm hn hx
  have hok2 := okB_put hok hf ht
  rw [putP_new hf ht, h.hasRow hok2.nd (fun i hi => by
    rcases hall i hi with rfl | hi
    · simp
    · exact List.mem_append.2 (.inl (List.mem_append.2 (.inr (List.mem_map.2 ⟨i, hi, rfl⟩))))) hn]
  simp only
  rw [h.keep hO d hd]
end Go.Proofs.Ytgngdgiipifacaa
