/-
  Words for memory: a slice that reads as a list of numbers of 32 bits (nil let in). No program is named here. Append onto what the call owns, whatever the source (nil, empty or not), as one step of a region that draws its order. No program is named here. Rows that the call owns and whose free places are not frozen (a text's bytes among them), and what append makes of them, whatever it is fed with. No program is named here. A row of bytes as a text, and a text as a row of bytes: conversions, whatever bytes. Rows of bytes that the call owns: as texts, from texts.
-/
import Derived.Test.YtlbaockipeojhaaGreatProg
import Derived.WalkKit
import Derived.OrdersHeld
import Derived.Deep.WholeRow
import Derived.Deep.Draws
import Derived.Deep.QuietTactic
import Derived.Lib.Hide
import Derived.Sort.Row
import Derived.Sort.Grow
import Derived.Below
import Derived.Laws.OwnMore
import Derived.OwnWalk
import Derived.Maps.AppendAt
import Derived.RegionTactic
import Derived.Lib.AppendStr
import Derived.Lib.ConvBytes
import Derived.Laws.BytesString
import Derived.Laws.Rows
import Derived.Laws.MakeOwn
section
namespace Go.Proofs.YtlbaockipeojhaaGreat
theorem q9a.{u} {α : Type u} {l : List α} {i : Nat} : l.toArray[i]? = l[i]? := List.getElem?_toArray
theorem q9s.{u} {α : Type u} {a : α} {l : List α} {i : Nat} : (a :: l)[i + 1]? = l[i]? := List.getElem?_cons_succ
theorem q9z.{u} {α : Type u} {a : α} {l : List α} : (a :: l)[0]? = some a := List.getElem?_cons_zero
theorem p9a.{u} {α : Type u} {l : List α} {i : Nat} {a : α} : l.toArray.setIfInBounds i a = (l.set i a).toArray := by simp
theorem p9z.{u} {α : Type u} {a b : α} {l : List α} : (a :: l).set 0 b = b :: l := rfl
theorem p9s.{u} {α : Type u} {a b : α} {l : List α} {n : Nat} : (a :: l).set (n + 1) b = a :: l.set n b := rfl
section
variable {P : Program} {ops : Array Oper} {Q : Exit → Act → World → Prop} {md : Region.Mode} {S : World → Prop} {oi : Oper} {fuel : Nat} {listed : Array Bool} {a : Act} {w : World}
/-- Number i may be taken first, by whatever it yields. -/
theorem k7 (i : Nat) (v : Value) (hi : ops[i]? = some oi := by simp only [q9a, q9s, q9z]; rfl) (hs : Region.noSelect ops = true := by kernel_rfl) (hf : Region.free md ops listed i = true := by kernel_rfl) (hr : (Region.ready md ops listed).contains i = true := by kernel_rfl)
    (hQ : ∀ c a w, Q (.panic c) (a.put oi.dst v) w → Q (.panic c) a w := by exact fun _ _ _ h => h) (y : YieldsIf P ops S oi v a) (hS : S w := by assumption)
    (h : wpAnyH P md ops Q S fuel (listed.setIfInBounds i true) (a.put oi.dst v) w) : wpAnyH P md ops Q S (fuel + 1) listed a w := wpAnyH_take hi hs hf hr hQ y hS h
/-- Number i is asked for, and yields v. -/
theorem k9 (i : Nat) (v : Value) (hi : ops[i]? = some oi := by simp only [q9a, q9s, q9z]; rfl) (hs : Region.noSelect ops = true := by kernel_rfl) (hf : Region.free md ops listed i = true := by kernel_rfl) (hr : (Region.ready md ops listed).contains i = true := by kernel_rfl)
    (hQ : ∀ c a w, Q (.panic c) (a.put oi.dst v) w → Q (.panic c) a w := by exact fun _ _ _ h => h) (hg : Region.wanted oi (yielded ops a.tmps) = true := by rfl) (y : ∀ w, S w → (execOp a.eval oi).run P w = .ok (.value v) w) (hS : S w := by assumption)
    (h : wpAnyH P md ops Q S fuel (listed.setIfInBounds i true) (a.put oi.dst v) w) : wpAnyH P md ops Q S (fuel + 1) listed a w := wpAnyH_take hi hs hf hr hQ (Or.inl ⟨hg, y⟩) hS h
/-- Number i is not asked for. -/
theorem k8 (i : Nat) (hi : ops[i]? = some oi := by simp only [q9a, q9s, q9z]; rfl) (hs : Region.noSelect ops = true := by kernel_rfl) (hf : Region.free md ops listed i = true := by kernel_rfl) (hr : (Region.ready md ops listed).contains i = true := by kernel_rfl)
    (hQ : ∀ c a w, Q (.panic c) (a.put oi.dst undef) w → Q (.panic c) a w := by exact fun _ _ _ h => h) (hg : Region.wanted oi (yielded ops a.tmps) = false := by rfl) (hS : S w := by assumption)
    (h : wpAnyH P md ops Q S fuel (listed.setIfInBounds i true) (a.put oi.dst undef) w) : wpAnyH P md ops Q S (fuel + 1) listed a w := wpAnyH_take hi hs hf hr hQ (Or.inr ⟨hg, rfl⟩) hS h
end
open Go.RowKit

/-- The slice v reads as l: its cells are 'enc x'; nil and empty ones let in. -/
def RowE {α : Type} [Inhabited α] (enc : α → Value) (w : World) (v : Value) (l : List α) : Prop :=
  ∃ (A : Option Addr) (cap : Nat), v = .slice A l.length cap ∧ l.length ≤ cap ∧ cap ≤ maxLen ∧ (0 < l.length → ∃ b off, A = some ⟨b, off, none⟩ ∧ b < w.heap.size ∧ ∀ j, j < l.length → w.cell? ⟨b, off + j, none⟩ = some (enc l[j]!))

theorem RowE.below {α : Type} [Inhabited α] {enc : α → Value} {w w' : World} {v : Value} {l : List α} (h : RowE enc w v l) (hb : Below w.heap.size w w') : RowE enc w' v l := by
  obtain ⟨A, cap, rfl, hc, hm, h⟩ := h
  refine ⟨A, cap, rfl, hc, hm, fun hl => ?_⟩
  obtain ⟨b, off, rfl, hlt, hcell⟩ := h hl
  exact ⟨b, off, rfl, Nat.lt_of_lt_of_le hlt hb.size, fun j hj => (hb.cell (p := ⟨b, off + j, none⟩) hlt).trans (hcell j hj)⟩
theorem RowE.nil {α : Type} [Inhabited α] (enc : α → Value) (w : World) : RowE enc w (.slice none 0 0) ([] : List α) := ⟨none, 0, rfl, Nat.le_refl _, Nat.zero_le _, fun h => absurd h (by simp)⟩

theorem frozen_of_row {w : World} {g : Nat} {cs : Array Value} {t : TypeId} (h : w.heap[g]? = some (.cells cs t (0, 0))) (i : Nat) : w.frozen? ⟨g, i, none⟩ = false := by simp [World.frozen?, h]
theorem addr_plain (b off j : Nat) : (⟨b, off, none⟩ : Addr).add j = ⟨b, off + j, none⟩ := by unfold Addr.add; split <;> simp_all
theorem own_slice {w : World} {base size n : Nat} {e : TypeId} {v : Value} {xs : List Value} (h : w.ownsRow base e size v n xs) : ∃ A cap, v = .slice A n cap ∧ n ≤ cap ∧ cap ≤ maxLen ∧ ∀ ad, A = some ad → base ≤ ad.block := by
  rcases h.2 with ⟨rfl, rfl⟩ | ⟨g, cap, cur, rfl, hb, hh, h1, h2, _⟩
  · exact ⟨none, 0, rfl, Nat.le_refl _, Nat.zero_le _, fun _ h => by cases h⟩
  · exact ⟨_, cap, rfl, h1, h2, fun _ h => by cases h; exact hb⟩
/-- A callee that leaves the world alone, in a region that draws. -/
theorem quiet_left {P : Program} {f : FuncId} {args : Array Value} {w : World} {n : Nat} {v : Value}
    (h : Calls P f args (w.drewN n) fun e w' => e = .returned v ∧ w.drewN n = w') : Calls P f args (w.drewN n) fun e w'' => e = .returned v ∧ ∃ m, w'' = w.drewN m :=
  h.mono fun _ _ ⟨he, hm⟩ => ⟨he, n, hm.symm⟩
/-- The cells of a block just made. -/
theorem new_cells (w : World) (t : TypeId) (cs : List Value) : ∀ j u, cs[j]? = some u → (w.alloc (.cells cs.toArray t)).cell? ((⟨w.heap.size, 0, none⟩ : Addr).add j) = some u := by
  intro j u h
  rw [addr_plain, Nat.zero_add, cell_of_row _ w.heap.size j _ _ (0, 0) (heap_alloc_new w _)]
  simpa using h
theorem below_drewN {B : Nat} {a w : World} (h : Below B a w) (n : Nat) : Below B a (w.drewN n) := ⟨h.os, h.tape, h.output, h.size, h.block⟩
end Go.Proofs.YtlbaockipeojhaaGreat
end
section
namespace Go.Proofs.YtlbaockipeojhaaGreat
open Go.RowKit

/-- What is appended: nothing (nil), or m elements at an address, whose cells are known. -/
def Src (w : World) (size : Nat) (v : Value) (m : Nat) (news : List Value) : Prop :=
  news.length = m * size ∧ ((v = .slice none 0 0 ∧ m = 0) ∨ ∃ ad c, v = .slice (some ad) m c ∧ ∀ j u, news[j]? = some u → w.cell? (ad.add j) = some u)

theorem Src.nil (w : World) (size : Nat) : Src w size (.slice none 0 0) 0 [] := ⟨by simp, .inl ⟨rfl, rfl⟩⟩
theorem Src.one {w : World} {X c : Nat} {u : Value} (h : w.cell? ⟨X, 0, none⟩ = some u) : Src w 1 (.slice (some ⟨X, 0, none⟩) 1 c) 1 [u] :=
  ⟨by simp, .inr ⟨_, c, rfl, fun j x hx => by
    cases j with
    | zero => simp at hx; subst hx; rw [addr_plain]; exact h
    | succ j => simp at hx⟩⟩
theorem Src.block {w : World} {X m c size : Nat} {cs : List Value} {t : TypeId} (h : w.heap[X]? = some (.cells cs.toArray t (0, 0))) (hl : cs.length = m * size) : Src w size (.slice (some ⟨X, 0, none⟩) m c) m cs :=
  ⟨hl, .inr ⟨_, c, rfl, fun j x hx => by rw [addr_plain, Nat.zero_add, cell_of_row w X j _ t (0, 0) h]; simpa using hx⟩⟩
theorem Src.drew {w : World} {size m : Nat} {v : Value} {cs : List Value} (h : Src w size v m cs) : Src w.drew size v m cs := h
theorem Src.grown {w w' : World} {row : Option Nat} {X m c size : Nat} {cs : List Value} {t : TypeId} (h : w.heap[X]? = some (.cells cs.toArray t (0, 0))) (hl : cs.length = m * size) (hg : w.grownBy w' row) (hne : some X ≠ row) : Src w' size (.slice (some ⟨X, 0, none⟩) m c) m cs :=
  Src.block (by rw [hg.block X (Array.getElem?_eq_some_iff.1 h).1 hne]; exact h) hl
theorem Src.row {w : World} {b off m c size : Nat} {news : List Value} (hl : news.length = m * size) (h : ∀ j, j < m * size → w.cell? ⟨b, off + j, none⟩ = news[j]?) : Src w size (.slice (some ⟨b, off, none⟩) m c) m news :=
  ⟨hl, .inr ⟨_, c, rfl, fun j x hx => by
    have hj := (List.getElem?_eq_some_iff.1 hx).1
    rw [addr_plain, h j (by omega)]
    exact hx⟩⟩

section
variable {P : Program} (w : World)
end

/-! ### Append, and the old row reads as it did -/
section
variable {P : Program} (w : World)
end

theorem own_ne_none (v : Value) : v.ownBlock = none ∨ v.ownBlock ≠ none := by cases v.ownBlock <;> simp
theorem heap_new_at (w : World) (o : Obj) {n : Nat} (h : w.heap.size = n) : (w.alloc o).heap[n]? = some o := by subst h; exact heap_alloc_new w o
theorem heap_second_at (w : World) (o o' : Obj) {n : Nat} (h : w.heap.size = n) : ((w.alloc o).alloc o').heap[n]? = some o := by
  subst h
  rw [heap_alloc_old (w.alloc o) o' (by simp)]
  exact heap_alloc_new w o
end Go.Proofs.YtlbaockipeojhaaGreat
end
section
namespace Go.Proofs.YtlbaockipeojhaaGreat
open Go.RowKit
set_option linter.unusedVariables false

/-- The slice v of n elements of so many cells each owns the cells xs, in a block from B on; what is behind them there may be written. -/
def OwnG (w : World) (B : Nat) (e : TypeId) (size : Nat) (v : Value) (n : Nat) (xs : List Value) : Prop :=
  xs.length = n * size ∧ ((v = .slice none 0 0 ∧ n = 0) ∨ ∃ g cap cur fz, v = .slice (some ⟨g, 0, none⟩) n cap ∧ B ≤ g ∧ w.heap[g]? = some (.cells cur e fz) ∧ n ≤ cap ∧ cap ≤ maxLen ∧ cur.size = cap * size ∧
    cur.toList.take (n * size) = xs ∧ ∀ i, i < cur.size → ¬ (fz.1 ≤ i ∧ i < fz.2))

theorem OwnG.nil (w : World) (B : Nat) (e : TypeId) (size : Nat) : OwnG w B e size (.slice none 0 0) 0 [] := ⟨by simp, .inl ⟨rfl, rfl⟩⟩
theorem OwnG.of {w : World} {B : Nat} {e : TypeId} {size : Nat} {v : Value} {n : Nat} {xs : List Value} (h : w.ownsRow B e size v n xs) : OwnG w B e size v n xs := by
  refine ⟨h.1, ?_⟩
  rcases h.2 with h0 | ⟨g, cap, cur, hv, hb, hg, h1, h2, h3, h4⟩
  · exact .inl h0
  · exact .inr ⟨g, cap, cur, (0, 0), hv, hb, hg, h1, h2, h3, h4, fun i _ => by simp⟩
theorem OwnG.made {w : World} {B : Nat} (hB : B ≤ w.heap.size) (e : TypeId) (size : Nat) (cur : Array Value) (cap : Nat) (hc : cap ≤ maxLen) (hs : cur.size = cap * size) : OwnG (w.alloc (.cells cur e)) B e size (.slice (some ⟨w.heap.size, 0, none⟩) 0 cap) 0 [] :=
  ⟨by simp, .inr ⟨w.heap.size, cap, cur, (0, 0), rfl, hB, heap_alloc_new w _, Nat.zero_le _, hc, hs, by simp, fun i _ => by simp⟩⟩
theorem OwnG.full {w : World} {B : Nat} (hB : B ≤ w.heap.size) (e : TypeId) (size : Nat) (xs : List Value) (n : Nat) (hc : n ≤ maxLen) (hs : xs.length = n * size) : OwnG (w.alloc (.cells xs.toArray e)) B e size (.slice (some ⟨w.heap.size, 0, none⟩) n n) n xs :=
  ⟨hs, .inr ⟨w.heap.size, n, _, (0, 0), rfl, hB, heap_alloc_new w _, Nat.le_refl _, hc, by simpa using hs, by rw [← hs]; simp, fun i _ => by simp⟩⟩

section
variable {w w' : World} {B : Nat} {e : TypeId} {size : Nat} {v : Value} {n : Nat} {xs : List Value}
theorem OwnG.lt (h : OwnG w B e size v n xs) : ∀ k, v.ownBlock = some k → B ≤ k ∧ k < w.heap.size := by
  intro k hk
  rcases h.2 with ⟨rfl, _⟩ | ⟨g, cap, cur, fz, rfl, hb, hg, _⟩
  · cases hk
  · cases hk
    exact ⟨hb, (Array.getElem?_eq_some_iff.1 hg).1⟩
theorem OwnG.keep (h : OwnG w B e size v n xs) (hk : ∀ k, v.ownBlock = some k → w'.heap[k]? = w.heap[k]?) : OwnG w' B e size v n xs := by
  refine ⟨h.1, ?_⟩
  rcases h.2 with h0 | ⟨g, cap, cur, fz, rfl, hb, hg, r⟩
  · exact .inl h0
  · exact .inr ⟨g, cap, cur, fz, rfl, hb, (hk g rfl).trans hg, r⟩
theorem OwnG.later (h : OwnG w B e size v n xs) (hb : Below w.heap.size w w') : OwnG w' B e size v n xs := h.keep fun k hk => hb.block k (h.lt k hk).2
theorem OwnG.base {B' : Nat} (h : OwnG w B e size v n xs) (hB : B' ≤ B) : OwnG w B' e size v n xs := by
  refine ⟨h.1, ?_⟩
  rcases h.2 with h0 | ⟨g, cap, cur, fz, hv, hb, r⟩
  · exact .inl h0
  · exact .inr ⟨g, cap, cur, fz, hv, by omega, r⟩
theorem OwnG.alloc (h : OwnG w B e size v n xs) (o : Obj) : OwnG (w.alloc o) B e size v n xs := h.keep fun k hk => heap_alloc_old w o (h.lt k hk).2
theorem OwnG.drew (h : OwnG w B e size v n xs) : OwnG w.drew B e size v n xs := h
theorem OwnG.drewN (h : OwnG w B e size v n xs) (k : Nat) : OwnG (w.drewN k) B e size v n xs := h
theorem OwnG.slice (h : OwnG w B e size v n xs) : ∃ A cap, v = .slice A n cap ∧ n ≤ cap ∧ cap ≤ maxLen ∧ (0 < n → ∃ g, A = some ⟨g, 0, none⟩ ∧ B ≤ g ∧ g < w.heap.size) := by
  rcases h.2 with ⟨rfl, rfl⟩ | ⟨g, cap, cur, fz, rfl, hb, hg, h1, h2, _⟩
  · exact ⟨none, 0, rfl, Nat.le_refl _, Nat.zero_le _, fun h => absurd h (by omega)⟩
  · exact ⟨_, cap, rfl, h1, h2, fun _ => ⟨g, rfl, hb, (Array.getElem?_eq_some_iff.1 hg).1⟩⟩
theorem OwnG.cells {g cap : Nat} (h : OwnG w B e size (.slice (some ⟨g, 0, none⟩) n cap) n xs) : ∀ j u, xs[j]? = some u → w.cell? ⟨g, j, none⟩ = some u := by
  intro j u hu
  rcases h.2 with ⟨hv, _⟩ | ⟨g', cap', cur, fz, hv, hb, hg, h1, h2, h3, h4, _⟩
  · cases hv
  · cases hv
    have hj : j < n * size := by have := (List.getElem?_eq_some_iff.1 hu).1; rw [h.1] at this; exact this
    rw [cell_of_row w g j cur e fz hg, ← hu, ← h4, List.getElem?_take, if_pos hj]
    simp
theorem OwnG.free {g cap : Nat} (h : OwnG w B e size (.slice (some ⟨g, 0, none⟩) n cap) n xs) {j : Nat} (hj : j < n * size) : w.frozen? ⟨g, j, none⟩ = false := by
  rcases h.2 with ⟨hv, _⟩ | ⟨g', cap', cur, fz, hv, hb, hg, h1, h2, h3, h4, h5⟩
  · cases hv
  · cases hv
    obtain ⟨lo, hi⟩ := fz
    have := h5 j (by rw [h3]; exact Nat.lt_of_lt_of_le hj (Nat.mul_le_mul_right _ h1))
    simp only [World.frozen?, hg]
    simpa using this
end

/-- What append is fed with: m elements, these cells. -/
def Fed (P : Program) (w : World) (size : Nat) (x : Value) (m : Nat) (news : List Value) : Prop :=
  news.length = m * size ∧ (∀ u ∈ news, u.oneCell' = true) ∧ (∀ W, (Builtin.lenOf x).run P W = .ok m W) ∧ ∀ W : World, W.heap = w.heap → (Builtin.firstCells size m x).run P W = .ok news.toArray W
theorem cell_heap {w W : World} (h : W.heap = w.heap) (a : Addr) : W.cell? a = w.cell? a := by simp [World.cell?, h]
theorem Fed.cells {P : Program} {w : World} {size : Nat} {a : Addr} {m c : Nat} {news : List Value} (hl : news.length = m * size) (h1 : ∀ u ∈ news, u.oneCell' = true) (h : ∀ j u, news[j]? = some u → w.cell? (a.add j) = some u) : Fed P w size (.slice (some a) m c) m news :=
  ⟨hl, h1, fun W => by simp [Builtin.lenOf], fun W hW => run_firstCells_some W size m a m c news hl fun j u hu => (cell_heap hW _).trans (h j u hu)⟩
theorem Fed.nil {P : Program} {w : World} {size : Nat} : Fed P w size (.slice none 0 0) 0 [] :=
  ⟨by simp, by simp, fun W => by simp [Builtin.lenOf], fun W hW => run_firstCells_none W size 0 0 0⟩
theorem Fed.text {P : Program} {w : World} (s : ByteArray) : Fed P w 1 (.string s) s.size (Lib.strCells s) :=
  ⟨by simp [Lib.strCells], Lib.strCells_oneCell s, fun W => by simp [Builtin.lenOf], fun W hW => Lib.run_firstCells_string W 1 s⟩
theorem Fed.block {P : Program} {w : World} {X m c size : Nat} {cs : List Value} {t : TypeId} {fz : Nat × Nat} (h : w.heap[X]? = some (.cells cs.toArray t fz)) (hl : cs.length = m * size) (h1 : ∀ u ∈ cs, u.oneCell' = true) : Fed P w size (.slice (some ⟨X, 0, none⟩) m c) m cs :=
  Fed.cells hl h1 fun j x hx => by rw [addr_plain, Nat.zero_add, cell_of_row w X j _ t fz h]; simpa using hx
theorem Fed.own {P : Program} {w : World} {B : Nat} {e : TypeId} {size : Nat} {v : Value} {n : Nat} {xs : List Value} (h : OwnG w B e size v n xs) (h1 : ∀ u ∈ xs, u.oneCell' = true) : Fed P w size v n xs := by
  rcases h.2 with ⟨rfl, rfl⟩ | ⟨g, cap, cur, fz, rfl, r⟩
  · have : xs = [] := List.eq_nil_of_length_eq_zero (by rw [h.1]; simp)
    subst this
    exact Fed.nil
  · exact Fed.cells h.1 h1 fun j u hu => by rw [addr_plain, Nat.zero_add]; exact h.cells j u hu
theorem Fed.heap {P : Program} {w w' : World} {size : Nat} {x : Value} {m : Nat} {news : List Value} (h : Fed P w size x m news) (e : w'.heap = w.heap) : Fed P w' size x m news :=
  ⟨h.1, h.2.1, h.2.2.1, fun W hW => h.2.2.2 W (hW.trans e)⟩

/-- Cells laid side by side where none is frozen. -/
theorem run_lay (P : Program) (g o : Nat) (t : TypeId) (fz : Nat × Nat) : ∀ (vs : List Value) (i : Nat) (cur : Array Value) (w : World), w.heap[g]? = some (.cells cur t fz) → (∀ k, k < cur.size → ¬ (fz.1 ≤ k ∧ k < fz.2)) → o + i + vs.length ≤ cur.size → (∀ v ∈ vs, v.oneCell' = true) →
    (storeCells ⟨g, o, none⟩ vs i).run P w = .ok () (w.setRow g (cur.toList.take (o + i) ++ vs ++ cur.toList.drop (o + i + vs.length)).toArray) := by
  intro vs
  induction vs with
  | nil =>
    intro i cur w hg _ _ _
    have : (cur.toList.take (o + i) ++ [] ++ cur.toList.drop (o + i + ([] : List Value).length)).toArray = cur := by simp
    rw [this, setRow_self w g cur t fz hg]
    rfl
  | cons v rest ih =>
    intro i cur w hg hfz hl h1
    rw [List.length_cons] at hl
    have hi : o + i < cur.size := by omega
    have hfro : w.frozen? ⟨g, o + i, none⟩ = false := by
      have := hfz _ hi
      obtain ⟨lo, hi'⟩ := fz
      simp only [World.frozen?, hg]
      simpa using this
    have hcell : w.cell? ⟨g, o + i, none⟩ = some cur[o + i] := by rw [cell_of_row w g _ cur t fz hg]; exact Array.getElem?_eq_getElem hi
    have hst : (store ((⟨g, o, none⟩ : Addr).add i) v).run P w = .ok () (w.setRow g (cur.setIfInBounds (o + i) v)) := by
      rw [addr_plain, run_store P w _ v _ (h1 v (by simp)), hcell]
      simp [hfro, setCell_eq_setRow w g (o + i) cur t fz v hg]
    have hr := ih (i + 1) (cur.setIfInBounds (o + i) v) (w.setRow g (cur.setIfInBounds (o + i) v)) (setRow_heap w g cur _ t _ hg) (by simpa using hfz) (by simp; omega) (fun x hx => h1 x (by simp [hx]))
    simp only [storeCells, Sem.run_bind, hst, Result.andThen_ok, hr, setRow_setRow]
    have e := list_seg_step cur.toList (o + i) v rest (by simp; omega)
    congr 3
    simpa [Array.toList_setIfInBounds, Nat.add_assoc] using e

section
variable {P : Program} (w : World)
/-- Append, whatever it is fed with. -/
theorem run_append_fed (B : Nat) (t u ty e : TypeId) (i : TypeInfo) (z : Value) (size bytes : Nat) (ht : P.underlying t = some (.slice e)) (hu : P.underlying u = some .string ∨ ∃ e', P.underlying u = some (.slice e')) (hi : P.info? e = some i) (hz : i.zero = some z)
    (hsize : i.size = size) (hby : i.bytes = bytes) (hzs : z.cells.size = size) (v : Value) (n : Nat) (xs : List Value) (hown : OwnG w B e size v n xs) (x : Value) (m : Nat) (news : List Value) (hx : Fed P w size x m news)
    (h63 : n + m ≤ maxLen) (hbytes : (n + m) * bytes ≤ 140737488355328) (hbase : B ≤ w.heap.size) :
    ∃ v' w', (Builtin.append_ #[t, u] ty #[v, x]).run P w = .ok v' w' ∧ OwnG w' B e size v' (n + m) (xs ++ news) ∧ w.grownBy w' v.ownBlock ∧
      (∀ g cap, v = .slice (some ⟨g, 0, none⟩) n cap → ∀ j, j < n * size → w'.cell? ⟨g, j, none⟩ = w.cell? ⟨g, j, none⟩) := by
  subst hsize
  subst hby
  obtain ⟨hl, h1, hlen, hfirst⟩ := hx
  have hf := hfirst w rfl
  have hfd := hfirst w.drew rfl
  have hlx : (xs ++ news).length = (n + m) * i.size := by rw [List.length_append, hown.1, hl, Nat.add_mul]
  have hsmall : n + m ≤ 9223372036854775807 := by simp only [maxLen] at h63; omega
  have grown : ∀ (old : Nat) (row : Option Nat), OwnG (w.drew.alloc (.cells (xs.toArray ++ news.toArray ++ Builtin.zeroCells z.cells (grownCap w (n + m) old e - (n + m))) e)) B e i.size (.slice (some ⟨w.heap.size, 0, none⟩) (n + m) (grownCap w (n + m) old e)) (n + m) (xs ++ news) ∧
      w.grownBy (w.drew.alloc (.cells (xs.toArray ++ news.toArray ++ Builtin.zeroCells z.cells (grownCap w (n + m) old e - (n + m))) e)) row := by
    intro old row
    have hge := grownCap_ge w (n + m) old e
    have hcm := grownCap_le_maxLen w (n + m) old e h63
    refine ⟨⟨hlx, .inr ⟨w.heap.size, _, _, (0, 0), rfl, hbase, heap_alloc_new w.drew _, hge, hcm, ?_, ?_, fun k _ => by simp⟩⟩, ⟨rfl, rfl, rfl, by simp, fun k hk _ => heap_alloc_old w.drew _ hk⟩⟩
    · simp only [Array.size_append, List.size_toArray, size_zeroCells, hzs, hown.1, hl, ← Nat.add_mul]
      congr 1
      omega
    · simp only [Array.toList_append, List.append_assoc]
      rw [← List.append_assoc, ← hlx]
      exact List.take_left
  have h63' : ¬ (9223372036854775807 < ((n : Int) + (m : Int))) := by omega
  rcases hown.2 with ⟨rfl, rfl⟩ | ⟨g, cap, cur, fz, rfl, hbg, hg, hnc, hcm, hcs, htake, hfz⟩
  · have hxs : xs = [] := List.eq_nil_of_length_eq_zero (by rw [hown.1]; simp)
    subst hxs
    by_cases hm : m = 0
    · subst hm
      have hn : news = [] := List.eq_nil_of_length_eq_zero (by rw [hl]; simp)
      subst hn
      refine ⟨.slice none 0 0, w, ?_, OwnG.nil _ _ _ _, World.grownBy.refl w _, fun g cap h => by cases h⟩
      rcases hu with hu | ⟨e', hu⟩ <;> simp [Builtin.append_, run_underlying ht, run_underlying hu, sizeOf, typeInfo, hi, hlen, hf]
    · have h48 : ¬ (281474976710656 < Builtin.nextslicecap m 0 * i.bytes) := by rw [nextslicecap_zero (by omega)]; simp at hbytes; omega
      have h63m : ¬ (9223372036854775807 < (m : Int)) := by omega
      have hg := grown 0 none
      simp only [Nat.zero_add] at hg
      refine ⟨_, _, ?_, by simpa using hg.1, ⟨hg.2.os, hg.2.tape, hg.2.output, hg.2.size, fun k hk _ => hg.2.block k hk (by simp)⟩, fun g cap h => by cases h⟩
      rcases hu with hu | ⟨e', hu⟩ <;> simp [Builtin.append_, run_underlying ht, run_underlying hu, sizeOf, typeInfo, zeroValue, hi, hz, hlen, hm, h63m, h48, Question.forced, run_firstCells_none, hfd, newRow, grownCap]
  · have hglt : g < w.heap.size := (Array.getElem?_eq_some_iff.1 hg).1
    by_cases hroom : n + m ≤ cap
    · have hfit : n * i.size + news.length ≤ cur.size := by rw [hl, hcs, ← Nat.add_mul]; exact Nat.mul_le_mul_right _ hroom
      have hst := run_lay P g (n * i.size) e fz news 0 cur w hg hfz (by simpa using hfit) h1
      simp only [Nat.add_zero] at hst
      refine ⟨.slice (some ⟨g, 0, none⟩) (n + m) cap, w.setRow g (cur.toList.take (n * i.size) ++ news ++ cur.toList.drop (n * i.size + news.length)).toArray, ?_, ⟨hlx, .inr ⟨g, cap, _, fz, rfl, hbg, setRow_heap w g cur _ e _ hg, hroom, hcm, ?_, ?_, ?_⟩⟩,
        ⟨rfl, rfl, rfl, by simp, fun k _ hk => setRow_other w g k _ (fun e => hk (by simp [Value.ownBlock, e]))⟩, ?_⟩
      · rcases hu with hu | ⟨e', hu⟩ <;> simp [Builtin.append_, run_underlying ht, run_underlying hu, sizeOf, typeInfo, hi, hlen, hroom, hf, Addr.add_lit, hst]
      · simp only [List.size_toArray, List.length_append, List.length_take, List.length_drop, Array.length_toList]
        omega
      · rw [htake, ← hlx]
        exact List.take_left
      · intro k hk
        refine hfz k ?_
        simp only [List.size_toArray, List.length_append, List.length_take, List.length_drop, Array.length_toList] at hk
        omega
      · intro g' cap' hv j hj
        cases hv
        have hjc : j < cur.toList.length := by simp; omega
        rw [cell_of_row _ g j _ e fz (setRow_heap w g cur _ e _ hg), cell_of_row w g j cur e fz hg, List.getElem?_toArray, List.append_assoc, List.getElem?_append_left (by rw [List.length_take]; omega), List.getElem?_take, if_pos hj]
        simp
    · have holds : ∀ j u, xs[j]? = some u → w.cell? ((⟨g, 0, none⟩ : Addr).add j) = some u := fun j u hu => by rw [addr_plain, Nat.zero_add]; exact hown.cells j u hu
      have hfo := run_firstCells_some (P := P) w.drew i.size n ⟨g, 0, none⟩ n cap xs hown.1 (by simpa using holds)
      have h48 : ¬ (281474976710656 < Builtin.nextslicecap (n + m) cap * i.bytes) := by have := growslice_fits (need := n + m) (old := cap) (bytes := i.bytes) (by omega) hbytes; omega
      have hgr := grown cap (some g)
      refine ⟨_, _, ?_, hgr.1, hgr.2, ?_⟩
      · rcases hu with hu | ⟨e', hu⟩
        all_goals
          simp [Builtin.append_, run_underlying ht, run_underlying hu, sizeOf, typeInfo, zeroValue, hi, hz, hlen, hroom, h63', h48, Question.forced, hfd, hfo, newRow, grownCap]
          congr 2
          apply Array.ext'
          simp [List.append_assoc]
      · intro g' cap' hv j hj
        cases hv
        exact World.cell?_of_block (heap_alloc_old w.drew _ hglt)

/-- The same, as an operation of the walk. -/
theorem wpList_append_fed {ops : Array Oper} {rest : List Oper} {o : Oper} {a : Act} {Q : Exit → Act → World → Prop} (hgd : o.guard = none) (sl x : Operand) (t u : TypeId)
    (ho : o.op = .call { callee := .builtin .append, args := #[sl, x], argTypes := #[t, u] })
    (B : Nat) (e : TypeId) (i : TypeInfo) (z : Value) (size bytes : Nat) (ht : P.underlying t = some (.slice e)) (hu : P.underlying u = some .string ∨ ∃ e', P.underlying u = some (.slice e')) (hi : P.info? e = some i) (hz : i.zero = some z)
    (hsize : i.size = size) (hby : i.bytes = bytes) (hzs : z.cells.size = size) (v : Value) (n : Nat) (xs : List Value) (hs : a.eval sl = v) (hown : OwnG w B e size v n xs) (vx : Value) (m : Nat) (news : List Value) (hxe : a.eval x = vx) (hx : Fed P w size vx m news)
    (h63 : n + m ≤ maxLen) (hbytes : (n + m) * bytes ≤ 140737488355328) (hbase : B ≤ w.heap.size)
    (h : ∀ v' w', OwnG w' B e size v' (n + m) (xs ++ news) → w.grownBy w' v.ownBlock → wpList P ops Q rest (a.put o.dst v') w') : wpList P ops Q (o :: rest) a w := by
  refine wpList_plain hgd fun K hK => ?_
  obtain ⟨v', w', hr, h2, h3, _⟩ := run_append_fed (P := P) w B t u o.type e i z size bytes ht hu hi hz hsize hby hzs v n xs hown vx m news hx h63 hbytes hbase
  unfold Oper.wp execOp
  simp only [ho, resolve, invoke, builtin, Sem.run_bind, Sem.run_pure, Result.andThen_ok, List.map_toArray, List.map_cons, List.map_nil, hs, hxe, hr]
  exact hK _ _ (h v' w' h2 h3)
/-- The same, as a step of a region that draws its order. -/
theorem step_append_fed {ops : Array Oper} {o : Oper} {a : Act} {K : Act → World → Prop} {Q : Exit → Act → World → Prop} {E : Prop} (hgd : o.guard = none) (s x : Operand) (t u : TypeId)
    (ho : o.op = .call { callee := .builtin .append, args := #[s, x], argTypes := #[t, u] })
    (w0 : World) (e : TypeId) (i : TypeInfo) (z : Value) (size bytes : Nat) (ht : P.underlying t = some (.slice e)) (hu : P.underlying u = some .string ∨ ∃ e', P.underlying u = some (.slice e')) (hi : P.info? e = some i) (hz : i.zero = some z)
    (hsize : i.size = size) (hby : i.bytes = bytes) (hzs : z.cells.size = size) (v : Value) (n : Nat) (xs : List Value) (hs : a.eval s = v) (hown : OwnG w w0.heap.size e size v n xs)
    (vx : Value) (m : Nat) (news : List Value) (hxe : a.eval x = vx) (hx : Fed P w size vx m news) (h63 : n + m ≤ maxLen) (hbytes : (n + m) * bytes ≤ 140737488355328) (hb0 : Below w0.heap.size w0 w)
    (h : ∀ v' w', OwnG w' w0.heap.size e size v' (n + m) (xs ++ news) → w.grownBy w' v.ownBlock → Below w0.heap.size w0 w' → K (a.put o.dst v') w') :
    if Region.wanted o (yielded ops a.tmps) = true then Oper.wp P o a w K Q else E := by
  have hw : Region.wanted o (yielded ops a.tmps) = true := by simp [Region.wanted, hgd]
  rw [if_pos hw]
  obtain ⟨v', w', hr, h2, h3, _⟩ := run_append_fed (P := P) w w0.heap.size t u o.type e i z size bytes ht hu hi hz hsize hby hzs v n xs hown vx m news hx h63 hbytes hb0.size
  unfold Oper.wp execOp
  simp only [ho, resolve, invoke, builtin, Sem.run_bind, Sem.run_pure, Result.andThen_ok, List.map_toArray, List.map_cons, List.map_nil, hs, hxe, hr]
  exact h v' w' h2 h3 (hb0.grown h3 hb0.size fun k hk => (hown.lt k hk).1)
end
end Go.Proofs.YtlbaockipeojhaaGreat
end
section
namespace Go.Proofs.YtlbaockipeojhaaGreat
open Go.RowKit
set_option linter.unusedVariables false

theorem fold_push (l : List UInt8) (acc : ByteArray) : (l.map fun b => (b.toNat : Int)).foldl (fun r n => r.push (UInt8.ofNat n.toNat)) acc = ⟨(acc.data.toList ++ l).toArray⟩ := by
  induction l generalizing acc with
  | nil => simp
  | cons b l ih =>
    rw [List.map_cons, List.foldl_cons, ih]
    have e : UInt8.ofNat ((b.toNat : Int)).toNat = b := by simp
    rw [e]
    congr 1
    rw [ByteArray.data_push, Array.toList_push, List.append_assoc]
    rfl
/-- A row of bytes of known cells, as a text. -/
theorem text_of (w : World) (b off cap : Nat) (l : List UInt8) (h : ∀ j u, l[j]? = some u → w.cell? ⟨b, off + j, none⟩ = some (.int .u8 (u.toNat : Int))) :
    (convert 47 9 (.slice (some ⟨b, off, none⟩) l.length cap)).run Tryz.prog w = .ok (.string ⟨l.toArray⟩) w := by
  rw [run_convert_bytes_string _ _ _ 5 _ _ _ Tryz.underlying47 Tryz.underlying5 Tryz.underlying9]
  rw [run_bytesToString _ _ _ _ (l.map fun u => (u.toNat : Int)), fold_push]
  · rfl
  · have := run_loadCells_list (P := Tryz.prog) w ⟨b, off, none⟩ ((l.map fun u => (u.toNat : Int)).map (Value.int .u8)) (fun j v hv => by
      have hadd : (⟨b, off, none⟩ : Addr).add j = ⟨b, off + j, none⟩ := by unfold Addr.add; split <;> simp_all
      rw [hadd]
      simp only [List.getElem?_map, Option.map_eq_some_iff] at hv
      obtain ⟨z, ⟨u, hu, rfl⟩, rfl⟩ := hv
      exact h j u hu)
    simpa using this
theorem text_nil (w : World) : (convert 47 9 (.slice none 0 0)).run Tryz.prog w = .ok (.string ⟨#[]⟩) w := by
  rw [run_convert_bytes_string _ _ _ 5 _ _ _ Tryz.underlying47 Tryz.underlying5 Tryz.underlying9]
  rfl

/-- A byte as a cell. -/
def enc8 (b : UInt8) : Value := .int .u8 (b.toNat : Int)
theorem info8 : (Tryz.prog.info? 5).map (fun i => (i.zero, i.size, i.bytes)) = some (some (.int .u8 0), 1, 1) := by kernel_rfl
/-- What the call owns, as a text. -/
theorem text_own {w : World} {base n : Nat} {e : TypeId} {v : Value} {l : List UInt8} (h : w.ownsRow base e 1 v n (l.map enc8)) :
    (convert 47 9 v).run Tryz.prog w = .ok (.string ⟨l.toArray⟩) w := by
  have hl : l.length = n := by have := h.1; simpa using this
  subst hl
  rcases h.2 with ⟨rfl, h0⟩ | ⟨g, cap, cur, rfl, hb, hh, h1, h2, _⟩
  · have : l = [] := List.eq_nil_of_length_eq_zero h0
    subst this
    exact text_nil w
  · exact text_of w g 0 cap l fun j u hu => by
      have hj := (List.getElem?_eq_some_iff.1 hu).1
      rw [Nat.zero_add, h.cellAt j (by simpa using hj), List.getElem?_map, hu]
      rfl
end Go.Proofs.YtlbaockipeojhaaGreat
end
section
namespace Go.Proofs.YtlbaockipeojhaaGreat
open Go.RowKit
set_option linter.unusedVariables false

/-- The slice v owns the bytes l, in a block from B on. -/
def OwnB (w : World) (B : Nat) (v : Value) (l : List UInt8) : Prop := OwnG w B 5 1 v l.length (l.map enc8)
theorem enc8_one (l : List UInt8) : ∀ u ∈ l.map enc8, u.oneCell' = true := by
  intro u hu
  obtain ⟨b, _, rfl⟩ := List.mem_map.1 hu
  rfl
theorem OwnB.nil (w : World) (B : Nat) : OwnB w B (.slice none 0 0) [] := OwnG.nil _ _ _ _
theorem OwnB.of {w : World} {B n : Nat} {v : Value} {l : List UInt8} (h : w.ownsRow B 5 1 v n (l.map enc8)) : OwnB w B v l := by
  have hl : l.length = n := by have := h.1; simpa using this
  subst hl
  exact OwnG.of h
theorem OwnB.made {w : World} {B : Nat} (hB : B ≤ w.heap.size) (cur : Array Value) (cap : Nat) (hc : cap ≤ maxLen) (hs : cur.size = cap) : OwnB (w.alloc (.cells cur 5)) B (.slice (some ⟨w.heap.size, 0, none⟩) 0 cap) [] :=
  OwnG.made hB _ 1 cur cap hc (by omega)
theorem OwnB.later {w w' : World} {B : Nat} {v : Value} {l : List UInt8} (h : OwnB w B v l) (hb : Below w.heap.size w w') : OwnB w' B v l := OwnG.later h hb
theorem OwnB.alloc {w : World} {B : Nat} {v : Value} {l : List UInt8} (h : OwnB w B v l) (o : Obj) : OwnB (w.alloc o) B v l := OwnG.alloc h o
theorem OwnB.base {w : World} {B B' : Nat} {v : Value} {l : List UInt8} (h : OwnB w B v l) (hB : B' ≤ B) : OwnB w B' v l := OwnG.base h hB
theorem OwnB.slice {w : World} {B : Nat} {v : Value} {l : List UInt8} (h : OwnB w B v l) : ∃ A cap, v = .slice A l.length cap ∧ l.length ≤ cap ∧ cap ≤ maxLen ∧ (0 < l.length → ∃ g, A = some ⟨g, 0, none⟩ ∧ B ≤ g ∧ g < w.heap.size) := OwnG.slice h
theorem OwnB.cell {w : World} {B g n cap : Nat} {l : List UInt8} (h : OwnB w B (.slice (some ⟨g, 0, none⟩) n cap) l) {j : Nat} {u : UInt8} (hu : l[j]? = some u) : w.cell? ⟨g, j, none⟩ = some (.int .u8 (u.toNat : Int)) := by
  obtain ⟨A, c, hv, _⟩ := h.slice
  cases hv
  exact OwnG.cells h j _ (by rw [List.getElem?_map, hu]; rfl)
/-- As a text. -/
theorem OwnB.text {w : World} {B : Nat} {v : Value} {l : List UInt8} (h : OwnB w B v l) : (convert 47 9 v).run Tryz.prog w = .ok (.string ⟨l.toArray⟩) w := by
  rcases h.2 with ⟨rfl, h0⟩ | ⟨g, cap, cur, fz, rfl, r⟩
  · have : l = [] := List.eq_nil_of_length_eq_zero h0
    subst this
    exact text_nil w
  · exact text_of w g 0 cap l fun j u hu => by rw [Nat.zero_add]; exact h.cell hu
theorem OwnB.fed {w : World} {B : Nat} {v : Value} {l : List UInt8} (h : OwnB w B v l) : Fed Tryz.prog w 1 v l.length (l.map enc8) := Fed.own h (enc8_one l)
theorem below_setRow {B : Nat} {a w : World} (h : Below B a w) {g : Nat} (hg : B ≤ g) (cs : Array Value) : Below B a (w.setRow g cs) :=
  ⟨h.os, h.tape, h.output, by simpa using h.size, fun k hk => (setRow_other w g k cs (by omega)).trans (h.block k hk)⟩
end Go.Proofs.YtlbaockipeojhaaGreat
end
