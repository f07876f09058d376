/-
  Rows of flags and of counts, of which the law itself makes.
-/
import Derived.Test.YtondgdacjbfihaaPe
import Derived.Test.YtondgdacjbfihaaArgN
namespace Go.Proofs.Ytondgdacjbfihaa
open Go.RowKit
set_option linter.unusedVariables false
set_option linter.unusedSimpArgs false
set_option maxRecDepth 100000

def encT (n : Nat) : Value := .int .i64 (n : Int)
theorem infoA20 : (Try.prog.info? 61).map (fun i => (i.zero, i.size, i.bytes)) = some (some (.agg (Array.replicate 20 (.bool false))), 20, 20) := by kernel_rfl
theorem infoIZ : (Try.prog.info? 3).map (fun i => (i.zero, i.size, i.bytes)) = some (some (.int .i64 0), 1, 8) := by kernel_rfl
theorem noflags (n : Nat) : (madeCells (Value.agg (Array.replicate 20 (.bool false))).cells (n * 20)).toList = (List.replicate (n * 20) false).map encB := by
  rw [List.map_replicate]
  rw [List.eq_replicate_iff]
  refine ⟨by simp [madeCells], fun b hb => ?_⟩
  simp only [madeCells, Value.cells, Array.toList_map, List.mem_map] at hb
  obtain ⟨x, hx, rfl⟩ := hb
  have h20 : x % 20 < 20 := Nat.mod_lt _ (by decide)
  simp [encB, h20]
theorem nocounts (n : Nat) : (madeCells (Value.int .i64 0).cells (n * 1)).toList = (List.replicate n 0).map encT := by
  rw [Nat.mul_one]
  simp [madeCells, encT, Value.cells, Nat.mod_one, List.map_const']
theorem RowB.of_some2 {α : Type} {enc : α → Value} {W : World} {g B n cap sz : Nat} {T : TypeId} {l : List α} (h : W.ownsRow B T sz (.slice (some ⟨g, 0, none⟩) n cap) n (l.map enc)) : RowB enc W g T l := by
  have hl : l.length = n * sz := by have := h.1; simpa using this
  rcases h.2 with ⟨h0, _⟩ | ⟨g', cap', cur, e, hb, hh, h1, h2, h3, h4⟩
  · cases h0
  · cases e
    refine ⟨cur, hh, fun j hj => ?_⟩
    have hc : W.cell? ⟨g, j, none⟩ = cur[j]? := cell_of_row W g j _ _ (0, 0) hh
    rw [← hc, h.cellAt j (by omega), List.getElem?_map, List.getElem?_eq_getElem hj]
    rfl
theorem row_at16 {F : List UInt16} {w : World} {v : Value} (h : RowE enc16 w v F) : ∃ A c, v = .slice A F.length c ∧ c ≤ maxLen ∧ (0 < F.length → ∃ b off, A = some ⟨b, off, none⟩ ∧ b < w.heap.size ∧ ∀ i, i < F.length → w.cell? ⟨b, off + i, none⟩ = some (.int .u16 ((atN F i).toNat : Int))) := by
  obtain ⟨A, c, rfl, h1, h2, h3⟩ := h
  refine ⟨A, c, rfl, h2, fun hl => ?_⟩
  obtain ⟨b, off, rfl, hb, hc⟩ := h3 hl
  refine ⟨b, off, rfl, hb, fun i hi => ?_⟩
  rw [hc i hi, getElem!_pos F i hi, ← atN_eq hi]
  rfl
theorem firsts_next (F : List UInt16) (i : Nat) (h : i < F.length) : (F.take i ++ List.replicate (F.length - i) 0).set i (atN F i) = F.take (i + 1) ++ List.replicate (F.length - (i + 1)) 0 := by
  rw [List.set_append_right _ _ (by rw [List.length_take]; omega), List.length_take, Nat.min_eq_left (by omega), Nat.sub_self, show F.length - i = (F.length - (i + 1)) + 1 by omega, List.replicate_succ, List.set_cons_zero, List.take_succ_eq_append_getElem h, atN_eq h, List.append_assoc]
  rfl
theorem toN_at {told : List Nat} {i : Nat} (h : i < told.length) : toN told i = told[i] := by unfold toN; simp [h]
theorem caB_at {came : List Bool} {i : Nat} (h : i < came.length) : caB came i = came[i] := by unfold caB; simp [h]
theorem told_self (told : List Nat) (s : Nat) : told.set s (toN told s + 0) = told := by
  rw [Nat.add_zero]
  by_cases h : s < told.length
  · rw [toN_at h]; exact List.set_getElem_self h
  · exact List.set_eq_of_length_le (by omega)
end Go.Proofs.Ytondgdacjbfihaa
