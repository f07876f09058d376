/-
  A block whose first cells are a row, cell by cell; for whatever program.
-/
import Derived.Test.YtondgdacjbfihaaOn
namespace Go.Proofs.Ytondgdacjbfihaa
open Go.RowKit
set_option linter.unusedVariables false
set_option linter.unusedSimpArgs false
set_option maxRecDepth 100000

def RowB {α : Type} (enc : α → Value) (W : World) (g : Nat) (T : TypeId) (l : List α) : Prop := ∃ cur, Bx W g T cur ∧ ∀ j (h : j < l.length), cur[j]? = some (enc l[j])
section
variable {α : Type} {enc : α → Value} {W W' : World} {g k : Nat} {T : TypeId} {l : List α}
theorem RowB.lt (h : RowB enc W g T l) : g < W.heap.size := by obtain ⟨_, h, _⟩ := h; exact h.lt
theorem RowB.same (h : RowB enc W g T l) (hs : W'.heap[g]? = W.heap[g]?) : RowB enc W' g T l := by
  obtain ⟨cur, h1, h2⟩ := h
  exact ⟨cur, hs.trans h1, h2⟩
theorem RowB.later (h : RowB enc W g T l) (hb : Below W.heap.size W W') : RowB enc W' g T l := h.same (hb.block g h.lt)
theorem RowB.kept (h : RowB enc W g T l) (hg : W.grownBy W' (some k)) (hne : g ≠ k) : RowB enc W' g T l := h.same (hg.block g h.lt (by simp; omega))
theorem RowB.cell (h : RowB enc W g T l) {j : Nat} (hj : j < l.length) : W.cell? ⟨g, j, none⟩ = some (enc l[j]) := by
  obtain ⟨cur, h1, h2⟩ := h
  rw [h1.at, h2 j hj]
theorem RowB.row [Inhabited α] (h : RowB enc W g T l) {cap : Nat} (hc : l.length ≤ cap) (hm : cap ≤ maxLen) : RowE enc W (.slice (some ⟨g, 0, none⟩) l.length cap) l :=
  ⟨_, cap, rfl, hc, hm, fun _ => ⟨g, 0, rfl, h.lt, fun j hj => by rw [Nat.zero_add, h.cell hj, getElem!_pos l j hj]⟩⟩
theorem RowB.of_own {B n : Nat} {v : Value} (h : W.ownsRow B T 1 v n (l.map enc)) (hn : 0 < n) : ∃ g cap, v = .slice (some ⟨g, 0, none⟩) n cap ∧ B ≤ g ∧ l.length = n ∧ n ≤ cap ∧ cap ≤ maxLen ∧ RowB enc W g T l := by
  have hl : l.length = n := by have := h.1; simpa using this
  rcases h.2 with ⟨_, h0⟩ | ⟨g, cap, cur, rfl, hb, hh, h1, h2, h3, h4⟩
  · omega
  · refine ⟨g, cap, rfl, hb, hl, h1, h2, cur, hh, fun j hj => ?_⟩
    have hc : W.cell? ⟨g, j, none⟩ = cur[j]? := cell_of_row W g j _ _ (0, 0) hh
    have he : W.ownsRow B T 1 (.slice (some ⟨g, 0, none⟩) n cap) n (l.map enc) := h
    rw [← hc, he.cellAt j (by omega), List.getElem?_map, List.getElem?_eq_getElem hj]
    rfl
theorem RowB.of_some {B n cap : Nat} (h : W.ownsRow B T 1 (.slice (some ⟨g, 0, none⟩) n cap) n (l.map enc)) : RowB enc W g T l := by
  have hl : l.length = n := by have := h.1; simpa using this
  rcases h.2 with ⟨h0, _⟩ | ⟨g', cap', cur, e, hb, hh, h1, h2, h3, h4⟩
  · cases h0
  · cases e
    refine ⟨cur, hh, fun j hj => ?_⟩
    have hc : W.cell? ⟨g, j, none⟩ = cur[j]? := cell_of_row W g j _ _ (0, 0) hh
    rw [← hc, h.cellAt j (by omega), List.getElem?_map, List.getElem?_eq_getElem hj]
    rfl
theorem RowB.set (h : RowB enc W g T l) {cs : Array Value} {i : Nat} {x : α} (hs : Bx W g T cs) (ht : Bx W' g T (cs.setIfInBounds i (enc x))) : RowB enc W' g T (l.set i x) := by
  obtain ⟨cur, h1, h2⟩ := h
  have e := h1.same hs
  subst e
  refine ⟨_, ht, fun j hj => ?_⟩
  rw [List.length_set] at hj
  rw [Array.getElem?_setIfInBounds, List.getElem_set]
  by_cases e : i = j
  · subst e
    rw [if_pos rfl, if_pos rfl, if_pos (by have := h2 i hj; exact (Array.getElem?_eq_some_iff.1 this).1)]
  · rw [if_neg e, if_neg e]
    exact h2 j hj
end
section
variable {α : Type} {enc : α → Value} {P : Program} {ops : Array Oper} {rest : List Oper} {o : Oper} {a : Act} {w : World} {Q : Exit → Act → World → Prop} {g : Nat} {T : TypeId} {l : List α}
theorem wpR {K : Act → World → Prop} {ty : TypeId} {x y : Operand} (i : Nat) (z : α) (ho : o.op = .store ty x y) (hx : a.eval x = .pointer (some ⟨g, i, none⟩)) (hy : a.eval y = enc z) (h : RowB enc w g T l) (hi : i < l.length) (hz : (P.info? ty).map (·.size) = some 1) (h1 : (enc z).oneCell' = true)
    (hk : ∀ W', RowB enc W' g T (l.set i z) → w.grownBy W' (some g) → W' = w.setCell ⟨g, i, none⟩ (enc z) → K (a.put o.dst undef) W') : o.wp P a w K Q := by
  obtain ⟨cur, h1', h2⟩ := id h
  exact wpF (enc z) ho hx hy h1' (Array.getElem?_eq_some_iff.1 (h2 i hi)).1 hz h1 fun W' ht hg e => hk W' (h.set h1' ht) hg e
theorem stR {ty : TypeId} {x y : Operand} (i : Nat) (z : α) (hgd : o.guard = none) (ho : o.op = .store ty x y) (hx : a.eval x = .pointer (some ⟨g, i, none⟩)) (hy : a.eval y = enc z) (h : RowB enc w g T l) (hi : i < l.length) (hz : (P.info? ty).map (·.size) = some 1) (h1 : (enc z).oneCell' = true)
    (hk : ∀ W', RowB enc W' g T (l.set i z) → w.grownBy W' (some g) → wpList P ops Q rest (a.put o.dst undef) W') : wpList P ops Q (o :: rest) a w :=
  wpList_plain hgd fun _ hK => wpR i z ho hx hy h hi hz h1 fun W' h1 h2 _ => hK _ _ (hk W' h1 h2)
end
theorem OwnG.box {W : World} {B g : Nat} {T : TypeId} {cs : Array Value} (h : Bx W g T cs) (hB : B ≤ g) {size : Nat} (hz : cs.size = size) : OwnG W B T size (.slice (some ⟨g, 0, none⟩) 1 1) 1 cs.toList :=
  ⟨by simp [hz], .inr ⟨g, 1, cs, (0, 0), rfl, hB, h, Nat.le_refl _, by unfold maxLen; omega, by simp [hz], by rw [List.take_of_length_le (by simp [hz])], fun i _ => by simp⟩⟩
theorem three_open (w : World) (T T' T'' : TypeId) (cs zs ys : Array Value) : ∃ W, ((w.alloc (.cells cs T)).alloc (.cells zs T')).alloc (.cells ys T'') = W ∧ Hid (Bx W w.heap.size T cs) ∧ Hid (Bx W (w.heap.size + 1) T' zs) ∧ Hid (Bx W (w.heap.size + 2) T'' ys) ∧ Hid (Below w.heap.size w W) ∧ W.heap.size = w.heap.size + 3 := by
  obtain ⟨W2, rfl, H1, H2, HB, hs⟩ := two_open w T T' cs zs
  refine ⟨_, rfl, Lib.hid (H1.out.old _), Lib.hid (H2.out.old _), Lib.hid ?_, Lib.hid (HB.out.alloc (by omega) _), by rw [World.size_alloc, hs]⟩
  have := Bx.fresh ((w.alloc (.cells cs T)).alloc (.cells zs T')) T'' ys
  rw [hs] at this
  exact this
/-- Two may come up next. -/
theorem wpAnyW_two {P : Program} {ops : Array Oper} {Q : Exit → Act → World → Prop} {md : Region.Mode} {S : World → Prop} {W : List Nat} {i i2 : Nat} {o o2 : Oper} {fuel : Nat} {listed : Array Bool} {a : Act} {w : World} (hr : Region.ready md ops listed = [i, i2]) (ho : ops[i]? = some o) (ho2 : ops[i2]? = some o2)
    (h : ∀ K' : Act → World → Prop, Shut (∀ a w, S w → (S w → wpAnyW P md ops Q S W fuel (listed.setIfInBounds i true) a w) → K' a w) → if Region.wanted o (yielded ops a.tmps) = true then Oper.wp P o a w K' Q else K' (a.put o.dst undef) w)
    (h2 : ∀ K' : Act → World → Prop, Shut (∀ a w, S w → (S w → wpAnyW P md ops Q S W fuel (listed.setIfInBounds i2 true) a w) → K' a w) → if Region.wanted o2 (yielded ops a.tmps) = true then Oper.wp P o2 a w K' Q else K' (a.put o2.dst undef) w) :
    wpAnyW P md ops Q S W (fuel + 1) listed a w :=
  ⟨fun h0 => (by rw [hr] at h0; cases h0), fun j hj => by
    rw [hr] at hj
    rcases List.mem_cons.1 hj with rfl | hj
    · exact wpOp_step ho (fun K' hK => h K' (fun a w hS hW => hK a w ⟨fun _ => hS, hW hS⟩))
    · obtain rfl := List.mem_singleton.1 hj
      exact wpOp_step ho2 (fun K' hK => h2 K' (fun a w hS hW => hK a w ⟨fun _ => hS, hW hS⟩))⟩
/-- The slice does not begin in a block. -/
def NotIn (k : Nat) (v : Value) : Prop := ∀ a n c, v = .slice (some a) n c → a.block ≠ k
theorem NotIn.of_fresh {B k : Nat} {v : Value} (h : Fresh B v) (hk : k < B) : NotIn k v := fun a n c e => by have := h a n c e; omega
theorem RowM.move {w w' : World} {v : Value} {l : List Mg} (h : RowM w v l) (hs : w.heap.size ≤ w'.heap.size) (hk : ∀ a n c, v = .slice (some a) n c → a.block < w.heap.size → w'.heap[a.block]? = w.heap[a.block]?) : RowM w' v l := by
  obtain ⟨A, cap, rfl, h1, h2, h3⟩ := h
  refine ⟨A, cap, rfl, h1, h2, fun hl => ?_⟩
  obtain ⟨b, off, rfl, hlt, hrg⟩ := h3 hl
  have hb := hk ⟨b, off, none⟩ _ _ rfl hlt
  refine ⟨b, off, rfl, Nat.lt_of_lt_of_le hlt hs, fun j hj t u hu => ?_⟩
  rw [← hrg j hj t u hu]
  exact World.cell?_of_block (w := w) (a := ⟨b, off + j * 6 + t, none⟩) hb
theorem RowM.kept {w w' : World} {v : Value} {l : List Mg} {k : Nat} (h : RowM w v l) (hf : NotIn k v) (hg : w.grownBy w' (some k)) : RowM w' v l :=
  h.move hg.size fun a n c e hl => hg.block _ hl (by have := hf a n c e; simp; omega)
theorem RowM.ch {w w' : World} {v : Value} {l : List Mg} {S : Nat → Prop} (h : RowM w v l) (hc : Ch S w w') (hf : ∀ k, S k → NotIn k v) : RowM w' v l :=
  h.move hc.size fun a n c e hl => hc.block _ hl fun hs => hf _ hs a n c e rfl
end Go.Proofs.Ytondgdacjbfihaa
