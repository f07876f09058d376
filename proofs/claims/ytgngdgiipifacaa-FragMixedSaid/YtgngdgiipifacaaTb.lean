/-
  Rows of pieces of one's own, beside other rows.
-/
import Derived.Test.YtgngdgiipifacaaTa
import Derived.Test.YtgngdgiipifacaaSo
namespace Go.Proofs.Ytgngdgiipifacaa
open Go.RowKit
set_option linter.unusedVariables false
set_option linter.unusedSimpArgs false
set_option maxRecDepth 100000

/-- The row does not lie in the block of this slice. -/
def OffO (v : Value) (l : List Pc) (vt : Value) : Prop := ∀ g, vt.ownBlock = some g → Apart v l g
theorem RowP.offO {w w' : World} {v vt : Value} {l : List Pc} (h : RowP w v l) (ho : OffO v l vt) (hg : w.grownBy w' vt.ownBlock) : RowP w' v l := by
  cases hq : vt.ownBlock with
  | none => rw [hq] at hg; exact h.below (below_none hg)
  | some g => rw [hq] at hg; exact h.keptA (ho g hq) hg
theorem Bx.offO {w w' : World} {g : Nat} {T : TypeId} {cs : Array Value} {vt : Value} (h : Bx w g T cs) (ho : ∀ k, vt.ownBlock = some k → k ≠ g) (hg : w.grownBy w' vt.ownBlock) : Bx w' g T cs := by
  cases hq : vt.ownBlock with
  | none => rw [hq] at hg; exact h.later (below_none hg)
  | some k => rw [hq] at hg; exact h.kept hg (fun e => ho k hq e.symm)
theorem offO_none (v : Value) (l : List Pc) : OffO v l (.slice none 0 0) := fun g h => by cases h
theorem OwnG.offB {w w' : World} {B : Nat} {e : TypeId} {size n : Nat} {v : Value} {xs : List Value} (h : OwnG w (B + 1) e size v n xs) (hg : w.grownBy w' (some B)) : OwnG w' (B + 1) e size v n xs := h.keep fun k hk => hg.block k (h.lt k hk).2 (by have := (h.lt k hk).1; simp; omega)
theorem Apart.low {w : World} {v : Value} {l : List Pc} {B g : Nat} (h : Fresh B v) (hg : g < B) : Apart v l g := Apart.fresh h hg
theorem RowP.s1 {w : World} {l : List Pc} {b off c : Nat} (hb : b < w.heap.size) (h : ∀ j (h : j < l.length), w.rangeAt b (off + j * 8) (cellsPc l[j]).toList) {k : Nat} (hk : k < l.length) : ∀ V, Below w.heap.size w V → Src V 8 (.slice (some ⟨b, off, none⟩) k c) k (flatP (l.take k)) := fun V hV => by
  refine Src.row (by rw [flatP_length, List.length_take]; omega) (fun j hj => ?_)
  rw [hV.cell (p := ⟨b, off + j, none⟩) hb]
  have e : j = (j / 8) * 8 + j % 8 := by omega
  have h1 : j / 8 < (l.take k).length := by rw [List.length_take]; omega
  have h2 : j / 8 < l.length := by omega
  have h3 : j % 8 < 8 := Nat.mod_lt _ (by decide)
  have h4 := flatP_at (l.take k) (j / 8) (j % 8) h1 h3
  rw [← e, List.getElem_take] at h4
  rw [h4]
  have h5 : (cellsPc l[j / 8]).toList[j % 8]? = some ((cellsPc l[j / 8]).toList[j % 8]'(by rw [lenPc]; exact h3)) := List.getElem?_eq_getElem _
  rw [h5, ← h (j / 8) h2 (j % 8) _ h5]
  congr 2
  omega
theorem RowP.s2 {w : World} {l : List Pc} {b off nl kx : Nat} (hb : b < w.heap.size) (h : ∀ j (h : j < l.length), w.rangeAt b (off + j * 8) (cellsPc l[j]).toList) (hn : l.length = nl) (hk : kx ≤ nl) : ∀ V, Below w.heap.size w V → ∀ o c', (o = off + kx * 8 ∨ nl = kx) → Src V 8 (.slice (some ⟨b, o, none⟩) (nl - kx) c') (nl - kx) (flatP (l.drop kx)) := fun V hV o c' ho => by
  subst hn
  refine Src.row (by rw [flatP_length, List.length_drop]) (fun j hj => ?_)
  rcases ho with rfl | ho
  · rw [hV.cell (p := ⟨b, off + kx * 8 + j, none⟩) hb]
    have e : j = (j / 8) * 8 + j % 8 := by omega
    have h1 : j / 8 < (l.drop kx).length := by rw [List.length_drop]; omega
    have h2 : kx + j / 8 < l.length := by omega
    have h3 : j % 8 < 8 := Nat.mod_lt _ (by decide)
    have h4 := flatP_at (l.drop kx) (j / 8) (j % 8) h1 h3
    rw [← e, List.getElem_drop] at h4
    rw [h4]
    have h5 : (cellsPc l[kx + j / 8]).toList[j % 8]? = some ((cellsPc l[kx + j / 8]).toList[j % 8]'(by rw [lenPc]; exact h3)) := List.getElem?_eq_getElem _
    rw [h5, ← h (kx + j / 8) h2 (j % 8) _ h5]
    congr 2
    omega
  · omega
theorem RowP.at8 {w : World} {v : Value} {l : List Pc} (h : RowP w v l) (hl : 0 < l.length) : ∃ b off cap, v = .slice (some ⟨b, off, none⟩) l.length cap ∧ b < w.heap.size ∧ l.length ≤ cap ∧ cap ≤ maxLen ∧ ∀ j (h : j < l.length), w.rangeAt b (off + j * 8) (cellsPc l[j]).toList := by
  obtain ⟨A, cap, rfl, h1, h2, h3⟩ := h
  obtain ⟨b, off, rfl, hb, hc⟩ := h3 hl
  exact ⟨b, off, cap, rfl, hb, h1, h2, hc⟩
theorem flat_next (pc : Nat → Pc) (l : List Pc) (j : Nat) : flatP (l ++ (List.range (j + 1)).map pc) = flatP (l ++ (List.range j).map pc) ++ (cellsPc (pc j)).toList := by
  rw [List.range_succ, List.map_append, ← List.append_assoc, flatP_append]
  simp [flatP]
theorem flatP_one' (l : List Pc) : ∀ u ∈ flatP l, u.oneCell' = true := flatP_one l
end Go.Proofs.Ytgngdgiipifacaa
