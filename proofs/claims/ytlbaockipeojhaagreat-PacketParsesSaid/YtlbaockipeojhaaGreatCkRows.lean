/-
  Arguments as they come in: a chunk, rows of chunks. Rows of chunks, as they come in and as a statement keeps them: facts of memory and plain facts.
-/
import Derived.Test.YtlbaockipeojhaaGreatLift
import Derived.Test.YtlbaockipeojhaaGreatCkMem
import Derived.Deep.SlicePairs
import Derived.Lib.SmallJoins
import Derived.Test.YtlbaockipeojhaaGreatCkFact
section
namespace Go.Proofs.YtlbaockipeojhaaGreat
open Go.ChangeShapes Go.WideShapes Go.ChangeAt Go.RowKit Go.Deep
set_option linter.unusedVariables false
set_option maxRecDepth 100000

section
variable {H : Type} {enc : TypeId × Value → H} {W : World} {fuel : Nat} {cs : List Value} {x : DataW H × List MemPlace}
theorem fourteen {α : Type} {l : List α} (h : l.length = 14) : ∃ a b c d e f g h i j k l' m n, l = [a, b, c, d, e, f, g, h, i, j, k, l', m, n] := by
  match l, h with
  | [a, b, c, d, e, f, g, h, i, j, k, l, m, n], _ => exact ⟨a, b, c, d, e, f, g, h, i, j, k, l, m, n, rfl⟩
/-- What is known of a chunk that comes in. -/
structure InC (W : World) (c : Ck) (g d it : Value) : Prop where
  wf : WfC c
  parts : Parts W c g d it
  type : (Lit.int .i64 c.type).wf = true
  flags : (Lit.int .i64 c.flags).wf = true
  gl : c.gaps.length ≤ maxLen
  dl : c.dups.length ≤ maxLen
  il : c.items.length ≤ maxLen
  iv : ∀ x ∈ c.items, x.2.size ≤ maxLen
  tl : c.text.size ≤ maxLen
theorem InC.below {W W' : World} {c : Ck} {g d it : Value} (h : InC W c g d it) (hb : Below W.heap.size W W') : InC W' c g d it := { h with parts := h.parts.below hb }
end
end Go.Proofs.YtlbaockipeojhaaGreat
end
section
namespace Go.Proofs.YtlbaockipeojhaaGreat
open Go.ChangeShapes Go.WideShapes Go.ChangeAt Go.RowKit Go.Deep
set_option linter.unusedVariables false
set_option maxRecDepth 100000

/-- A chunk as a value: what it is, and the slices of its three rows. -/
structure Cv where
  c : Ck
  g : Value
  d : Value
  it : Value
abbrev Cv.cells (x : Cv) : Array Value := cellsC x.c x.g x.d x.it
instance : Inhabited Cv := ⟨⟨zeroC 0 0, .bool false, .bool false, .bool false⟩⟩
theorem Cv.size (x : Cv) : x.cells.toList.length = 14 := rfl
def flatK (l : List Cv) : List Value := l.flatMap fun x => x.cells.toList
theorem flatK_cons (x : Cv) (l : List Cv) : flatK (x :: l) = x.cells.toList ++ flatK l := by simp [flatK]
theorem flatK_length (l : List Cv) : (flatK l).length = l.length * 14 := by
  induction l with
  | nil => rfl
  | cons p ps ih => rw [flatK_cons, List.length_append, ih, Cv.size, List.length_cons]; omega
theorem flatK_append (l m : List Cv) : flatK (l ++ m) = flatK l ++ flatK m := by simp [flatK]
theorem flatK_one (x : Cv) : flatK [x] = x.cells.toList := by simp [flatK]
theorem flatK_at (l : List Cv) (i : Nat) (h : i < l.length) (j : Nat) (hj : j < 14) : (flatK l)[i * 14 + j]? = l[i].cells[j]? := by
  induction l generalizing i with
  | nil => simp at h
  | cons p ps ih =>
    have hs := Cv.size p
    rw [flatK_cons]
    cases i with
    | zero =>
      rw [List.getElem?_append_left (by omega)]
      simp
    | succ i =>
      rw [List.getElem?_append_right (by omega), hs, show (i + 1) * 14 + j - 14 = i * 14 + j by omega, ih i (by simpa using h)]
      rfl
/-- The slice v reads as these chunks; nil and empty ones let in. -/
def RowK (w : World) (v : Value) (l : List Cv) : Prop :=
  ∃ (A : Option Addr) (cap : Nat), v = .slice A l.length cap ∧ l.length ≤ cap ∧ cap ≤ maxLen ∧ (0 < l.length → ∃ b off, A = some ⟨b, off, none⟩ ∧ b < w.heap.size ∧ ∀ j (h : j < l.length), w.rangeAt b (off + j * 14) l[j].cells.toList)
theorem rangeAt_below {w w' : World} {B b o : Nat} {cs : List Value} (h : w.rangeAt b o cs) (hlt : b < B) (hb : Below B w w') : w'.rangeAt b o cs := fun j v hj => (hb.cell (p := ⟨b, o + j, none⟩) hlt).trans (h j v hj)
theorem RowK.below {w w' : World} {v : Value} {l : List Cv} (h : RowK w v l) (hb : Below w.heap.size w w') : RowK w' v l := by
  obtain ⟨A, cap, rfl, hc, hm, h⟩ := h
  refine ⟨A, cap, rfl, hc, hm, fun hl => ?_⟩
  obtain ⟨b, off, rfl, hlt, hcell⟩ := h hl
  exact ⟨b, off, rfl, Nat.lt_of_lt_of_le hlt hb.size, fun j hj => rangeAt_below (hcell j hj) hlt hb⟩
theorem RowK.nil (w : World) : RowK w (.slice none 0 0) [] := ⟨none, 0, rfl, Nat.le_refl _, Nat.zero_le _, fun h => absurd h (by simp)⟩
theorem rowK_of_own {w : World} {base n : Nat} {e : TypeId} {v : Value} {l : List Cv} (h : OwnG w base e 14 v n (flatK l)) : RowK w v l := by
  have hl : l.length = n := by have := h.1; rw [flatK_length] at this; omega
  subst hl
  rcases h.2 with ⟨rfl, h0⟩ | ⟨g, cap, cur, fz, rfl, hb, hh, h1, h2, _⟩
  · exact ⟨none, 0, by rw [h0], by omega, Nat.zero_le _, fun hp => by omega⟩
  · refine ⟨_, cap, rfl, h1, h2, fun _ => ⟨g, 0, rfl, (Array.getElem?_eq_some_iff.1 hh).1, fun j hj i u hu => ?_⟩⟩
    have hi : i < 14 := by have := (List.getElem?_eq_some_iff.1 hu).1; rw [Cv.size] at this; exact this
    rw [Nat.zero_add]
    refine h.cells _ _ ?_
    rw [flatK_at l j hj i hi]
    simpa using hu
/-- What is known of each chunk of a row. -/
def AllC (w : World) (l : List Cv) : Prop := ∀ x ∈ l, InC w x.c x.g x.d x.it
theorem AllC.below {w w' : World} {l : List Cv} (h : AllC w l) (hb : Below w.heap.size w w') : AllC w' l := fun x hx => (h x hx).below hb
section
variable {H : Type} {enc : TypeId × Value → H} {W : World}
end

/-! ### What is built of some -/
/-! ### Two chunks to compare: one in a block of its own, one in a row -/
structure PairS (base : World) (B : Nat) (a : Cv) (b o : Nat) (c : Cv) (W : World) : Prop where
  first : W.rangeAt B 0 a.cells.toList
  second : W.rangeAt b o c.cells.toList
  pa : Parts W a.c a.g a.d a.it
  pb : Parts W c.c c.g c.d c.it
  lt1 : B < W.heap.size
  lt2 : b < W.heap.size
  below : Below base.heap.size base W
section
variable {base W W' : World} {a c : Cv} {B b o : Nat}
theorem PairS.later (h : PairS base B a b o c W) (hb : Below W.heap.size W W') : PairS base B a b o c W' :=
  ⟨rangeAt_below h.first h.lt1 hb, rangeAt_below h.second h.lt2 hb, h.pa.below hb, h.pb.below hb, Nat.lt_of_lt_of_le h.lt1 hb.size, Nat.lt_of_lt_of_le h.lt2 hb.size, h.below.trans (hb.mono h.below.size)⟩
theorem PairS.drew (h : PairS base B a b o c W) : PairS base B a b o c W.drew := h.later (Below.refl _ _).drew
end
end Go.Proofs.YtlbaockipeojhaaGreat
end
