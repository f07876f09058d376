/-
  Chunks in memory: their fourteen cells, and the rows that they lead to.
-/
import Derived.Test.YtfdnphkdpmlbnaaRow
import Derived.Test.YtfdnphkdpmlbnaaCk
import Derived.Test.YtfdnphkdpmlbnaaWrite
namespace Go.Proofs.Ytfdnphkdpmlbnaa
open Go.RowKit
set_option linter.unusedVariables false

/-- The cells of a chunk whose gaps, dups and items lie in these slices. -/
abbrev cellsC (c : Ck) (g d i : Value) : Array Value :=
  #[.int .i64 c.type, .int .i64 c.flags, .int .u32 (c.tsn : Int), .int .u32 (c.tag : Int), .int .u32 (c.window : Int), .int .u32 (c.ppid : Int), .int .u16 (c.stream : Int), .int .u16 (c.ssn : Int), .int .u16 (c.outs : Int), .int .u16 (c.ins : Int), g, d, i, .string c.text]
def flatG (l : List (Nat × Nat)) : List Value := l.flatMap fun x => [.int .u16 (x.1 : Int), .int .u16 (x.2 : Int)]
theorem flatG_length (l : List (Nat × Nat)) : (flatG l).length = l.length * 2 := by
  induction l with
  | nil => rfl
  | cons p ps ih => simp only [flatG, List.flatMap_cons, List.length_append, List.length_cons, List.length_nil] at ih ⊢; omega
theorem flatG_append (l m : List (Nat × Nat)) : flatG (l ++ m) = flatG l ++ flatG m := by simp [flatG]
theorem flatG_one (l : List (Nat × Nat)) : ∀ u ∈ flatG l, u.oneCell' = true := by
  intro u hu
  obtain ⟨x, _, hx⟩ := List.mem_flatMap.1 hu
  simp only [List.mem_cons, List.not_mem_nil, or_false] at hx
  rcases hx with rfl | rfl <;> rfl
theorem flatG_at (l : List (Nat × Nat)) (i : Nat) (h : i < l.length) : (flatG l)[i * 2]? = some (.int .u16 (l[i].1 : Int)) ∧ (flatG l)[i * 2 + 1]? = some (.int .u16 (l[i].2 : Int)) := by
  induction l generalizing i with
  | nil => simp at h
  | cons p ps ih =>
    cases i with
    | zero => simp [flatG]
    | succ i =>
      have := ih i (by simpa using h)
      simp only [flatG, List.flatMap_cons] at this ⊢
      rw [show (i + 1) * 2 = i * 2 + 2 by omega]
      simpa using this
/-- The slice v reads as these gaps; nil and empty ones let in. -/
def RowG (w : World) (v : Value) (l : List (Nat × Nat)) : Prop :=
  ∃ (A : Option Addr) (cap : Nat), v = .slice A l.length cap ∧ l.length ≤ cap ∧ cap ≤ maxLen ∧ (0 < l.length → ∃ b off, A = some ⟨b, off, none⟩ ∧ b < w.heap.size ∧ ∀ j (h : j < l.length), w.cell? ⟨b, off + j * 2, none⟩ = some (.int .u16 (l[j].1 : Int)) ∧ w.cell? ⟨b, off + j * 2 + 1, none⟩ = some (.int .u16 (l[j].2 : Int)))
theorem RowG.below {w w' : World} {v : Value} {l : List (Nat × Nat)} (h : RowG w v l) (hb : Below w.heap.size w w') : RowG w' v l := by
  obtain ⟨A, cap, rfl, hc, hm, h⟩ := h
  refine ⟨A, cap, rfl, hc, hm, fun hl => ?_⟩
  obtain ⟨b, off, rfl, hlt, hcell⟩ := h hl
  exact ⟨b, off, rfl, Nat.lt_of_lt_of_le hlt hb.size, fun j hj => ⟨(hb.cell (p := ⟨b, off + j * 2, none⟩) hlt).trans (hcell j hj).1, (hb.cell (p := ⟨b, off + j * 2 + 1, none⟩) hlt).trans (hcell j hj).2⟩⟩
theorem RowG.nil (w : World) : RowG w (.slice none 0 0) [] := ⟨none, 0, rfl, Nat.le_refl _, Nat.zero_le _, fun h => absurd h (by simp)⟩
theorem rowG_of_own {w : World} {base n : Nat} {e : TypeId} {v : Value} {l : List (Nat × Nat)} (h : OwnG w base e 2 v n (flatG l)) : RowG w v l := by
  have hl : l.length = n := by have := h.1; rw [flatG_length] at this; omega
  subst hl
  rcases h.2 with ⟨rfl, h0⟩ | ⟨g, cap, cur, fz, rfl, hb, hh, h1, h2, _⟩
  · exact ⟨none, 0, by rw [h0], by omega, Nat.zero_le _, fun hp => by omega⟩
  · refine ⟨_, cap, rfl, h1, h2, fun _ => ⟨g, 0, rfl, (Array.getElem?_eq_some_iff.1 hh).1, fun j hj => ?_⟩⟩
    obtain ⟨e1, e2⟩ := flatG_at l j hj
    rw [Nat.zero_add]
    exact ⟨h.cells _ _ e1, h.cells _ _ e2⟩
/-- A number of 32 bits as a cell; rows of such. -/
def encN (n : Nat) : Value := .int .u32 (n : Int)
def RowN (w : World) (v : Value) (l : List Nat) : Prop := RowE encN w v l
theorem RowN.below {w w' : World} {v : Value} {l : List Nat} (h : RowN w v l) (hb : Below w.heap.size w w') : RowN w' v l := RowE.below h hb
theorem RowN.nil (w : World) : RowN w (.slice none 0 0) [] := RowE.nil encN w
theorem rowN_of_own {w : World} {base n : Nat} {e : TypeId} {v : Value} {l : List Nat} (h : OwnG w base e 1 v n (l.map encN)) : RowN w v l := by
  have hl : l.length = n := by have := h.1; simpa using this
  subst hl
  rcases h.2 with ⟨rfl, h0⟩ | ⟨g, cap, cur, fz, rfl, hb, hh, h1, h2, _⟩
  · exact ⟨none, 0, by rw [h0], by omega, Nat.zero_le _, fun hp => by omega⟩
  · refine ⟨_, cap, rfl, h1, h2, fun _ => ⟨g, 0, rfl, (Array.getElem?_eq_some_iff.1 hh).1, fun j hj => ?_⟩⟩
    rw [Nat.zero_add]
    refine h.cells _ _ ?_
    rw [List.getElem?_map, List.getElem?_eq_getElem hj, getElem!_pos l j hj]
    rfl
/-- The slices of a chunk read as what it has. -/
structure Parts (w : World) (c : Ck) (g d i : Value) : Prop where
  gaps : RowG w g c.gaps
  dups : RowN w d c.dups
  items : RowI w i c.items
theorem Parts.below {w w' : World} {c : Ck} {g d i : Value} (h : Parts w c g d i) (hb : Below w.heap.size w w') : Parts w' c g d i := ⟨h.gaps.below hb, h.dups.below hb, h.items.below hb⟩
theorem Parts.zero (w : World) (k f : Int) : Parts w (zeroC k f) (.slice none 0 0) (.slice none 0 0) (.slice none 0 0) := ⟨RowG.nil w, RowN.nil w, RowI.nil w⟩
theorem Parts.slices {w : World} {c : Ck} {g d i : Value} (h : Parts w c g d i) : (∃ A k, g = .slice A c.gaps.length k) ∧ (∃ A k, d = .slice A c.dups.length k) ∧ (∃ A k, i = .slice A c.items.length k) := by
  obtain ⟨⟨A, k, h1, _⟩, ⟨A', k', h2, _⟩, ⟨A'', k'', h3, _⟩⟩ := h
  exact ⟨⟨A, k, h1⟩, ⟨A', k', h2⟩, ⟨A'', k'', h3⟩⟩
theorem Parts.one {w : World} {c : Ck} {g d i : Value} (h : Parts w c g d i) : (cellsC c g d i).all (·.oneCell') = true := by
  obtain ⟨⟨A, k, rfl⟩, ⟨A', k', rfl⟩, ⟨A'', k'', rfl⟩⟩ := h.slices
  simp [Value.oneCell']

/-- Of what was there only blocks of S have turned; nothing is new. -/
structure Touch (S : Nat → Prop) (w w' : World) : Prop where
  os : w'.os = w.os
  tape : w'.tape = w.tape
  output : w'.output = w.output
  size : w'.heap.size = w.heap.size
  block : ∀ k, ¬ S k → w'.heap[k]? = w.heap[k]?
theorem Touch.refl (S : Nat → Prop) (w : World) : Touch S w w := ⟨rfl, rfl, rfl, rfl, fun _ _ => rfl⟩
theorem Touch.trans {S : Nat → Prop} {a b c : World} (h : Touch S a b) (k : Touch S b c) : Touch S a c :=
  ⟨k.os.trans h.os, k.tape.trans h.tape, k.output.trans h.output, k.size.trans h.size, fun i hi => (k.block i hi).trans (h.block i hi)⟩
theorem Touch.mono {S T : Nat → Prop} {a b : World} (h : Touch S a b) (hST : ∀ k, S k → T k) : Touch T a b := ⟨h.os, h.tape, h.output, h.size, fun k hk => h.block k fun hs => hk (hST k hs)⟩
theorem Touch.setCell (w : World) (b o : Nat) (v : Value) : Touch (· = b) w (w.setCell ⟨b, o, none⟩ v) :=
  ⟨rfl, rfl, rfl, by simp [World.setCell], fun k hk => Below.heap_setCell _ _ _ _ hk⟩
theorem Touch.below {S : Nat → Prop} {a b : World} {B : Nat} (h : Touch S a b) (hS : ∀ k, S k → B ≤ k) : Below B a b :=
  ⟨h.os, h.tape, h.output, by rw [h.size]; exact Nat.le_refl _, fun k hk => h.block k fun hs => absurd (hS k hs) (by omega)⟩
theorem row_set {w : World} {b : Nat} {cs : Array Value} {t : TypeId} {fz : Nat × Nat} (h : w.heap[b]? = some (.cells cs t fz)) (i : Nat) (v : Value) : (w.setCell ⟨b, i, none⟩ v).heap[b]? = some (.cells (cs.setIfInBounds i v) t fz) := by
  simp [World.setCell, Array.getElem?_modify, h]
theorem cell_in {w : World} {b : Nat} {cs : Array Value} {t : TypeId} {fz : Nat × Nat} (h : w.heap[b]? = some (.cells cs t fz)) (i : Nat) : w.cell? ⟨b, i, none⟩ = cs[i]? := cell_of_row w b i cs t fz h
end Go.Proofs.Ytfdnphkdpmlbnaa
