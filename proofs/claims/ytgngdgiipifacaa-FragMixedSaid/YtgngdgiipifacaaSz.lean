/-
  Rows that do not lie in one block.
-/
import Derived.Test.YtgngdgiipifacaaSy
import Derived.Test.YtgngdgiipifacaaWords
namespace Go.Proofs.Ytgngdgiipifacaa
open Go.RowKit
set_option linter.unusedVariables false
set_option linter.unusedSimpArgs false
set_option maxRecDepth 100000

def encN (n : Nat) : Value := .int .i64 (n : Int)
/-- The row, where there is one, does not lie in block g. -/
def RowX {α : Type} (enc : α → Value) (g : Nat) (w : World) (v : Value) (l : List α) : Prop :=
  ∃ (A : Option Addr) (cap : Nat), v = .slice A l.length cap ∧ l.length ≤ cap ∧ cap ≤ maxLen ∧ (0 < l.length → ∃ b off, A = some ⟨b, off, none⟩ ∧ b < w.heap.size ∧ b ≠ g ∧ ∀ j (h : j < l.length), w.cell? ⟨b, off + j, none⟩ = some (enc l[j]))
section
variable {α : Type} {enc : α → Value} {g : Nat} {w w' : World} {v : Value} {l : List α}
theorem RowX.of [Inhabited α] (h : RowE enc w v l) (hg : w.heap.size ≤ g) : RowX enc g w v l := by
  obtain ⟨A, cap, rfl, hc, hm, h⟩ := h
  refine ⟨A, cap, rfl, hc, hm, fun hl => ?_⟩
  obtain ⟨b, off, rfl, hlt, hcell⟩ := h hl
  exact ⟨b, off, rfl, hlt, by omega, fun j hj => by have := hcell j hj; rw [getElem!_pos l j hj] at this; exact this⟩
theorem RowX.below (h : RowX enc g w v l) (hb : Below w.heap.size w w') : RowX enc g w' v l := by
  obtain ⟨A, cap, rfl, hc, hm, h⟩ := h
  refine ⟨A, cap, rfl, hc, hm, fun hl => ?_⟩
  obtain ⟨b, off, rfl, hlt, hne, hcell⟩ := h hl
  exact ⟨b, off, rfl, Nat.lt_of_lt_of_le hlt hb.size, hne, fun j hj => (hb.cell (p := ⟨b, off + j, none⟩) hlt).trans (hcell j hj)⟩
theorem RowX.kept (h : RowX enc g w v l) (hg : w.grownBy w' (some g)) : RowX enc g w' v l := by
  obtain ⟨A, cap, rfl, hc, hm, h⟩ := h
  refine ⟨A, cap, rfl, hc, hm, fun hl => ?_⟩
  obtain ⟨b, off, rfl, hlt, hne, hcell⟩ := h hl
  exact ⟨b, off, rfl, Nat.lt_of_lt_of_le hlt hg.size, hne, fun j hj => by
    rw [← hcell j hj]
    exact World.cell?_of_block (w := w) (a := ⟨b, off + j, none⟩) (hg.block b hlt (by simp; omega))⟩
theorem RowX.at (h : RowX enc g w v l) {j : Nat} (hj : j < l.length) : ∃ b off cap, v = .slice (some ⟨b, off, none⟩) l.length cap ∧ b < w.heap.size ∧ b ≠ g ∧ l.length ≤ cap ∧ cap ≤ maxLen ∧ ∀ j (h : j < l.length), w.cell? ⟨b, off + j, none⟩ = some (enc l[j]) := by
  obtain ⟨A, cap, rfl, h1, h2, h3⟩ := h
  obtain ⟨b, off, rfl, hb, hne, hc⟩ := h3 (by omega)
  exact ⟨b, off, cap, rfl, hb, hne, h1, h2, hc⟩
theorem RowX.own {B n : Nat} {e : TypeId} (h : w.ownsRow B e 1 v n (l.map enc)) (hg : g < B) : RowX enc g w v l := by
  have hl : l.length = n := by have := h.1; simpa using this
  subst hl
  rcases h.2 with ⟨rfl, h0⟩ | ⟨b, cap, cur, rfl, hb, hh, h1, h2, _⟩
  · exact ⟨none, 0, by rw [h0], by omega, Nat.zero_le _, fun hp => by omega⟩
  · refine ⟨_, cap, rfl, h1, h2, fun _ => ⟨b, 0, rfl, (Array.getElem?_eq_some_iff.1 hh).1, by omega, fun j hj => ?_⟩⟩
    rw [Nat.zero_add, h.cellAt j (by omega), List.getElem?_map, List.getElem?_eq_getElem hj]
    rfl
end
/-- A block that holds the first numbers. -/
def Nums (w : World) (g : Nat) (T : TypeId) (n i : Nat) : Prop := ∃ cur, Bx w g T cur ∧ n ≤ cur.size ∧ ∀ j, j < i → cur[j]? = some (encN j)
theorem Nums.start {w : World} {B n : Nat} {T : TypeId} {g : Nat} {xs : List Value} (h : w.ownsRow B T 1 (.slice (some ⟨g, 0, none⟩) n n) n xs) : Nums w g T n 0 := by
  rcases h.2 with ⟨h0, _⟩ | ⟨g', cap, cur, e, hb, hh, h1, h2, h3, h4⟩
  · cases h0
  · cases e
    exact ⟨cur, hh, by omega, fun j hj => by omega⟩
theorem Nums.row {w : World} {g gB n : Nat} {T : TypeId} (h : Nums w g T n n) (hne : g ≠ gB) (hn : n ≤ maxLen) : RowX encN gB w (.slice (some ⟨g, 0, none⟩) n n) (List.range n) := by
  obtain ⟨cur, h1, h2, h3⟩ := h
  refine ⟨some ⟨g, 0, none⟩, n, by rw [List.length_range], by rw [List.length_range]; exact Nat.le_refl _, hn, fun _ => ⟨g, 0, rfl, h1.lt, hne, fun j hj => ?_⟩⟩
  rw [List.length_range] at hj
  rw [Nat.zero_add, h1.at, h3 j hj, List.getElem_range]
theorem Nums.later {w w' : World} {g n i : Nat} {T : TypeId} (h : Nums w g T n i) (hb : Below w.heap.size w w') : Nums w' g T n i := by
  obtain ⟨cur, h1, h2, h3⟩ := h
  exact ⟨cur, h1.later hb, h2, h3⟩
theorem RowX.src {w : World} {g : Nat} {l : List Nat} {b off c : Nat} (h : ∀ j (h : j < l.length), w.cell? ⟨b, off + j, none⟩ = some (encN l[j])) {k : Nat} (hk : k ≤ l.length) : ∀ j, j < k * 1 → w.cell? ⟨b, off + j, none⟩ = ((l.take k).map encN)[j]? := by
  intro j hj
  rw [h j (by omega), List.getElem?_map, List.getElem?_take, if_pos (by omega), List.getElem?_eq_getElem (by omega)]
  rfl
theorem RowX.src2 {w : World} {g : Nat} {l : List Nat} {b off c : Nat} (h : ∀ j (h : j < l.length), w.cell? ⟨b, off + j, none⟩ = some (encN l[j])) {k : Nat} (hk : k < l.length) : ∀ j, j < (l.length - (k + 1)) * 1 → w.cell? ⟨b, off + (k + 1) + j, none⟩ = ((l.drop (k + 1)).map encN)[j]? := by
  intro j hj
  rw [Nat.add_assoc, h (k + 1 + j) (by omega), List.getElem?_map, List.getElem?_drop, List.getElem?_eq_getElem (by omega)]
  rfl
theorem RowX.s1 {w : World} {l : List Nat} {b off c k : Nat} (h : ∀ j (h : j < l.length), w.cell? ⟨b, off + j, none⟩ = some (encN l[j])) (hb : b < w.heap.size) (hk : k < l.length) : ∀ V, Below w.heap.size w V → Src V 1 (.slice (some ⟨b, off, none⟩) k c) k ((l.take k).map encN) := fun V hV =>
  Src.row (by rw [List.length_map, List.length_take]; omega) (fun j hj => (hV.cell (p := ⟨b, off + j, none⟩) hb).trans (RowX.src (w := w) (g := 0) (c := 0) h (Nat.le_of_lt hk) j hj))
theorem RowX.s2 {w : World} {l : List Nat} {b off k nl : Nat} (h : ∀ j (h : j < l.length), w.cell? ⟨b, off + j, none⟩ = some (encN l[j])) (hb : b < w.heap.size) (hk : k < l.length) (hn : l.length = nl) : ∀ V, Below w.heap.size w V → ∀ o c', (o = off + (k + 1) ∨ nl = k + 1) → Src V 1 (.slice (some ⟨b, o, none⟩) (nl - (k + 1)) c') (nl - (k + 1)) ((l.drop (k + 1)).map encN) := fun V hV o c' ho => by
  subst hn
  refine Src.row (by rw [List.length_map, List.length_drop]; omega) (fun j hj => ?_)
  rcases ho with rfl | ho
  · exact (hV.cell (p := ⟨b, off + (k + 1) + j, none⟩) hb).trans (RowX.src2 (w := w) (g := 0) (c := 0) h hk j hj)
  · omega
theorem encN_one (l : List Nat) : ∀ u ∈ l.map encN, u.oneCell' = true := fun u hu => by obtain ⟨x, _, rfl⟩ := List.mem_map.1 hu; rfl
theorem Nums.put {w' : World} {g n j : Nat} {T : TypeId} {cur : Array Value} (h : Bx w' g T (cur.setIfInBounds j (.int .i64 (j : Int)))) (hn : n ≤ cur.size) (hj : j < n) (h3 : ∀ k, k < j → cur[k]? = some (encN k)) : Nums w' g T n (j + 1) := by
  refine ⟨_, h, by rw [Array.size_setIfInBounds]; exact hn, fun k hk => ?_⟩
  rw [Array.getElem?_setIfInBounds]
  by_cases e : j = k
  · subst e
    rw [if_pos rfl, if_pos (by omega)]; rfl
  · rw [if_neg e]
    exact h3 k (by omega)
theorem below_none {w w' : World} (hg : w.grownBy w' none) : Below w.heap.size w w' := (Below.refl _ _).grown hg (Nat.le_refl _) (fun k hk => by cases hk)
/-- Where a number of an order leads. -/
theorem pick_abs (o : Int) (n : Nat) (hn : 0 < n) (hn2 : n ≤ 1000) : ∃ k : Nat, ∃ r : Int, k < n ∧ Int.tmod o (n : Int) = r ∧ -1000 ≤ r ∧ r ≤ 1000 ∧ max r (-r) = (k : Int) := by
  refine ⟨(Int.tmod o (n : Int)).natAbs, _, ?_, rfl, ?_, ?_, ?_⟩
  · have h1 := Int.tmod_lt_of_pos o (show (0 : Int) < (n : Int) by omega)
    have h2 := Int.lt_tmod_of_pos o (show (0 : Int) < (n : Int) by omega)
    omega
  · have h2 := Int.lt_tmod_of_pos o (show (0 : Int) < (n : Int) by omega)
    omega
  · have h1 := Int.tmod_lt_of_pos o (show (0 : Int) < (n : Int) by omega)
    omega
  · omega
end Go.Proofs.Ytgngdgiipifacaa
