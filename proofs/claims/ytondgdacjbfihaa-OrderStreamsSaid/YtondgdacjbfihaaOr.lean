/-
  Rows of messages in memory, and a message in its row that is changed. No program is named here.
-/
import Derived.Test.YtondgdacjbfihaaOq
import Derived.Test.YtondgdacjbfihaaMem
import Derived.Test.YtondgdacjbfihaaBx
import Derived.Test.YtondgdacjbfihaaOwn
namespace Go.Proofs.Ytondgdacjbfihaa
open Go.RowKit
set_option linter.unusedVariables false

/-- The cells of pieces. -/
def flatM (l : List Mg) : List Value := l.flatMap fun x => (cellsMg x).toList
theorem flatM_cons (x : Mg) (l : List Mg) : flatM (x :: l) = (cellsMg x).toList ++ flatM l := rfl
theorem flatM_length (l : List Mg) : (flatM l).length = l.length * 6 := by
  induction l with
  | nil => rfl
  | cons p ps ih => rw [flatM_cons, List.length_append, ih, lenMg, List.length_cons]; omega
theorem flatM_append (l m : List Mg) : flatM (l ++ m) = flatM l ++ flatM m := by simp [flatM]
theorem flatM_take (l : List Mg) (k : Nat) (h : k < l.length) : flatM (l.take (k + 1)) = flatM (l.take k) ++ (cellsMg l[k]).toList := by
  rw [List.take_succ_eq_append_getElem h, flatM_append]
  simp [flatM]
theorem cells_one {x : Mg} {u : Value} (h : u ∈ (cellsMg x).toList) : u.oneCell' = true := (Array.all_eq_true_iff_forall_mem.1 (cellsMg_one x)) u (by simpa using h)
theorem flatM_one (l : List Mg) : ∀ u ∈ flatM l, u.oneCell' = true := by
  intro u hu
  obtain ⟨x, _, hx⟩ := List.mem_flatMap.1 hu
  exact cells_one hx
theorem flatM_at (l : List Mg) (i j : Nat) (h : i < l.length) (hj : j < 6) : (flatM l)[i * 6 + j]? = (cellsMg l[i]).toList[j]? := by
  induction l generalizing i with
  | nil => simp at h
  | cons p ps ih =>
    cases i with
    | zero =>
      rw [flatM_cons, Nat.zero_mul, Nat.zero_add, List.getElem?_append_left (by rw [lenMg]; exact hj)]
      rfl
    | succ i =>
      rw [flatM_cons, List.getElem?_append_right (by rw [lenMg]; omega), lenMg, show (i + 1) * 6 + j - 6 = i * 6 + j by omega, ih i (by simpa using h)]
      rfl
/-- The slice v reads as these pieces; nil and empty ones let in. -/
def RowM (w : World) (v : Value) (l : List Mg) : Prop :=
  ∃ (A : Option Addr) (cap : Nat), v = .slice A l.length cap ∧ l.length ≤ cap ∧ cap ≤ maxLen ∧ (0 < l.length → ∃ b off, A = some ⟨b, off, none⟩ ∧ b < w.heap.size ∧ ∀ j (h : j < l.length), w.rangeAt b (off + j * 6) (cellsMg l[j]).toList)
theorem range_below {w w' : World} {B b o : Nat} {cs : List Value} (h : w.rangeAt b o cs) (hlt : b < B) (hb : Below B w w') : w'.rangeAt b o cs := fun j v hj => (hb.cell (p := ⟨b, o + j, none⟩) hlt).trans (h j v hj)
theorem RowM.below {w w' : World} {v : Value} {l : List Mg} (h : RowM w v l) (hb : Below w.heap.size w w') : RowM w' v l := by
  obtain ⟨A, cap, rfl, hc, hm, h⟩ := h
  refine ⟨A, cap, rfl, hc, hm, fun hl => ?_⟩
  obtain ⟨b, off, rfl, hlt, hcell⟩ := h hl
  exact ⟨b, off, rfl, Nat.lt_of_lt_of_le hlt hb.size, fun j hj => range_below (hcell j hj) hlt hb⟩
theorem RowM.nil (w : World) : RowM w (.slice none 0 0) [] := ⟨none, 0, rfl, Nat.le_refl _, Nat.zero_le _, fun h => absurd h (by simp)⟩
/-- The row, if there is one, lies from block B on. -/
def Fresh (B : Nat) (v : Value) : Prop := ∀ a n c, v = .slice (some a) n c → B ≤ a.block
theorem Fresh.less {B B' : Nat} {v : Value} (h : Fresh B v) (hb : B' ≤ B) : Fresh B' v := fun a n c e => Nat.le_trans hb (h a n c e)
theorem fresh_none (B n c : Nat) : Fresh B (.slice none n c) := fun a n c e => by cases e
theorem fresh_some {B g o n c : Nat} (h : B ≤ g) : Fresh B (.slice (some ⟨g, o, none⟩) n c) := fun a n c e => by cases e; exact h
theorem RowM.stays {w w' : World} {v : Value} {l : List Mg} {B k : Nat} (h : RowM w v l) (hf : Fresh B v) (hg : w.grownBy w' (some k)) (hk : k < B) : RowM w' v l := by
  obtain ⟨A, cap, rfl, hc, hm, h⟩ := h
  refine ⟨A, cap, rfl, hc, hm, fun hl => ?_⟩
  obtain ⟨b, off, rfl, hlt, hcell⟩ := h hl
  have hB : B ≤ b := hf _ _ _ rfl
  have hs := hg.block b hlt (by simp; omega)
  exact ⟨b, off, rfl, Nat.lt_of_lt_of_le hlt hg.size, fun j hj t u hu => by
    have := hcell j hj t u hu
    rw [← this]
    exact World.cell?_of_block (w := w) (a := ⟨b, off + j * 6 + t, none⟩) hs⟩
theorem fresh_own {w : World} {base size n : Nat} {e : TypeId} {v : Value} {xs : List Value} (h : w.ownsRow base e size v n xs) : Fresh base v := by
  obtain ⟨A, cap, rfl, _, _, ha⟩ := own_slice h
  intro a n c e
  cases e
  exact ha a rfl
/-- What the call owns reads as a list. -/
theorem rowM_of_own {w : World} {base n : Nat} {e : TypeId} {v : Value} {l : List Mg} (h : w.ownsRow base e 6 v n (flatM l)) : RowM w v l := by
  have hl : l.length = n := by have := h.1; rw [flatM_length] at this; omega
  subst hl
  rcases h.2 with ⟨rfl, h0⟩ | ⟨g, cap, cur, rfl, hb, hh, h1, h2, _⟩
  · exact ⟨none, 0, by rw [h0], by omega, Nat.zero_le _, fun hp => by omega⟩
  · refine ⟨_, cap, rfl, h1, h2, fun _ => ⟨g, 0, rfl, (Array.getElem?_eq_some_iff.1 hh).1, fun j hj t u hu => ?_⟩⟩
    have ht : t < 6 := by have := (List.getElem?_eq_some_iff.1 hu).1; rw [lenMg] at this; exact this
    rw [Nat.zero_add, h.cellAt (j * 6 + t) (by omega), flatM_at l j t hj ht, hu]
theorem ownM_below {w w' : World} {B size n : Nat} {T : TypeId} {v : Value} {xs : List Value} (h : w.ownsRow B T size v n xs) (hb : Below w.heap.size w w') : w'.ownsRow B T size v n xs := by
  refine ⟨h.1, ?_⟩
  rcases h.2 with h0 | ⟨g, cap, cur, rfl, hB, hg, r⟩
  · exact .inl h0
  · exact .inr ⟨g, cap, cur, rfl, hB, (hb.block g (Array.getElem?_eq_some_iff.1 hg).1).trans hg, r⟩
/-- A row that the call owns, as a block of cells. -/
theorem own_bx {w : World} {B n : Nat} {e : TypeId} {v : Value} {l : List Mg} (h : w.ownsRow B e 6 v n (flatM l)) (hn : 0 < n) :
    ∃ g cap cur, v = .slice (some ⟨g, 0, none⟩) n cap ∧ B ≤ g ∧ Bx w g e cur ∧ n ≤ cap ∧ cap ≤ maxLen ∧ ∀ j, j < n * 6 → cur[j]? = (flatM l)[j]? := by
  rcases h.2 with ⟨_, h0⟩ | ⟨g, cap, cur, rfl, hb, hh, h1, h2, h3, h4⟩
  · omega
  · refine ⟨g, cap, cur, rfl, hb, hh, h1, h2, fun j hj => ?_⟩
    rw [← h4, List.getElem?_take, if_pos hj]
    simp

/-- Cells laid over an array's. -/
def putA (cs : Array Value) (o : Nat) : List Value → Array Value
  | [] => cs
  | v :: r => putA (cs.setIfInBounds o v) (o + 1) r
theorem Bx.setCells {W : World} {g : Nat} {T : TypeId} : ∀ (vs : List Value) (o : Nat) (W : World) (cs : Array Value), Bx W g T cs → Bx (W.setCells g o vs) g T (putA cs o vs)
  | [], _, _, _, h => h
  | v :: r, o, W, cs, h => by
    rw [World.setCells, putA]
    exact Bx.setCells (W := W) r (o + 1) _ _ (h.setCell o v)
theorem grown_cells (g : Nat) : ∀ (vs : List Value) (o : Nat) (w : World), w.grownBy (w.setCells g o vs) (some g)
  | [], _, w => World.grownBy.refl w _
  | v :: r, o, w => by
    rw [World.setCells]
    exact grown_then (grown_cell w g o v) (grown_cells g r (o + 1) _)
/-- In block g, which held cs0, from o on lie the cells xs; the others are as they were. -/
def Pin (g : Nat) (T : TypeId) (cs0 : Array Value) (o : Nat) (xs : Array Value) (W : World) : Prop :=
  ∃ cs, Bx W g T cs ∧ cs.size = cs0.size ∧ (∀ j, j < xs.size → cs[o + j]? = xs[j]?) ∧ ∀ j, (j < o ∨ o + xs.size ≤ j) → cs[j]? = cs0[j]?
section
variable {W W' w0 : World} {g k o : Nat} {T : TypeId} {cs0 xs : Array Value}
theorem Pin.first {cs : Array Value} (h : Bx W g T cs) (hx : ∀ j, j < xs.size → cs[o + j]? = xs[j]?) : Pin g T cs o xs W := ⟨cs, h, rfl, hx, fun _ _ => rfl⟩
theorem Pin.lt (h : Pin g T cs0 o xs W) : g < W.heap.size := by obtain ⟨cs, h, _⟩ := h; exact h.lt
theorem Pin.later (h : Pin g T cs0 o xs W) (hb : Below W.heap.size W W') : Pin g T cs0 o xs W' := by
  obtain ⟨cs, h, r⟩ := h
  exact ⟨cs, h.later hb, r⟩
theorem Pin.kept (h : Pin g T cs0 o xs W) (hg : W.grownBy W' (some k)) (hne : g ≠ k) : Pin g T cs0 o xs W' := by
  obtain ⟨cs, h, r⟩ := h
  exact ⟨cs, h.kept hg hne, r⟩
theorem Pin.same (h : Pin g T cs0 o xs W) (hs : W'.heap[g]? = W.heap[g]?) : Pin g T cs0 o xs W' := by
  obtain ⟨cs, h, r⟩ := h
  exact ⟨cs, hs.trans h, r⟩
theorem Pin.cell (h : Pin g T cs0 o xs W) (j : Nat) (v : Value) (hv : xs[j]? = some v) : W.cell? ⟨g, o + j, none⟩ = some v := by
  obtain ⟨cs, h, _, hx, _⟩ := h
  rw [h.at, hx j (Array.getElem?_eq_some_iff.1 hv).1, hv]
theorem Pin.range (h : Pin g T cs0 o xs W) (k : Nat) (l : List Value) (hl : ∀ j v, l[j]? = some v → xs[k + j]? = some v) : W.rangeAt g (o + k) l := fun j v hv => by
  rw [Nat.add_assoc]
  exact h.cell (k + j) v (hl j v hv)
theorem Pin.there (h : Pin g T cs0 o xs W) (k n : Nat) (hk : k + n ≤ xs.size) : W.there g (o + k) n := fun j hj => by
  obtain ⟨cs, h, hz, hx, _⟩ := h
  refine ⟨?_, h.free _⟩
  rw [Nat.add_assoc, h.at, hx (k + j) (by omega), Array.getElem?_eq_getElem (by omega)]
  rfl
theorem Pin.set (h : Pin g T cs0 o xs W) (k : Nat) (v : Value) (hk : k < xs.size) : Pin g T cs0 o (xs.setIfInBounds k v) (W.setCell ⟨g, o + k, none⟩ v) := by
  obtain ⟨cs, h, hz, hx, hr⟩ := h
  have hin : o + k < cs.size := by
    have := hx k hk
    rw [Array.getElem?_eq_getElem hk] at this
    exact (Array.getElem?_eq_some_iff.1 this).1
  refine ⟨_, h.setCell (o + k) v, by simpa using hz, fun j hj => ?_, fun j hj => ?_⟩
  · rw [Array.size_setIfInBounds] at hj
    rw [Array.getElem?_setIfInBounds, Array.getElem?_setIfInBounds]
    by_cases e : k = j
    · subst e
      rw [if_pos rfl, if_pos rfl, if_pos hin, if_pos hk]
    · rw [if_neg (by omega), if_neg e]
      exact hx j hj
  · rw [Array.size_setIfInBounds] at hj
    rw [Array.getElem?_setIfInBounds, if_neg (by omega)]
    exact hr j hj
theorem Pin.puts : ∀ (vs : List Value) (k : Nat) (W : World) (xs : Array Value), Pin g T cs0 o xs W → k + vs.length ≤ xs.size → Pin g T cs0 o (putA xs k vs) (W.setCells g (o + k) vs)
  | [], _, _, _, h, _ => h
  | v :: r, k, W, xs, h, hk => by
    rw [List.length_cons] at hk
    rw [World.setCells, putA]
    exact Pin.puts r (k + 1) _ _ (h.set k v (by omega)) (by rw [Array.size_setIfInBounds]; omega)
/-- The row, when the piece is another one. -/
theorem Pin.row {l : List Mg} {n cap i : Nat} {x : Mg} (h : Pin g T cs0 (i * 6) (cellsMg x) W) (hl : l.length = n) (hc : n ≤ cap) (hm : cap ≤ maxLen) (h0 : ∀ j, j < n * 6 → cs0[j]? = (flatM l)[j]?) (hi : i < n) :
    RowM W (.slice (some ⟨g, 0, none⟩) n cap) (l.set i x) := by
  subst hl
  have hlen : (l.set i x).length = l.length := List.length_set ..
  refine ⟨_, cap, by rw [hlen], by omega, hm, fun hp => ⟨g, 0, rfl, h.lt, fun j hj t u hu => ?_⟩⟩
  have ht : t < 6 := by have := (List.getElem?_eq_some_iff.1 hu).1; rw [lenMg] at this; exact this
  rw [hlen] at hj
  rw [Nat.zero_add]
  by_cases e : i = j
  · subst e
    rw [List.getElem_set_self] at hu
    exact h.cell t u (by simpa using hu)
  · rw [List.getElem_set_ne (by exact e)] at hu
    obtain ⟨cs, hb, hz, hx, hr⟩ := h
    have hne : j * 6 + t < i * 6 ∨ i * 6 + 6 ≤ j * 6 + t := by omega
    rw [hb.at, hr _ hne, h0 _ (by omega), flatM_at l j t hj ht, hu]
end
section
variable {P : Program} {ops : Array Oper} {rest : List Oper} {op : Oper} {a : Act} {w : World} {Q : Exit → Act → World → Prop} {g o : Nat} {T : TypeId} {cs0 xs : Array Value}
theorem run_storeVar_pin (k : Nat) (ty : TypeId) (v : Value) (h : Pin g T cs0 o xs w) (hk : k < xs.size) (hi : (P.info? ty).map (·.size) = some 1) (h1 : v.oneCell' = true) :
    (storeVar ty ⟨g, o + k, none⟩ v).run P w = .ok () (w.setCell ⟨g, o + k, none⟩ v) := by
  obtain ⟨cs, hb, hz, hx, hr⟩ := h
  have hin : o + k < cs.size := by
    have := hx k hk
    rw [Array.getElem?_eq_getElem hk] at this
    exact (Array.getElem?_eq_some_iff.1 this).1
  exact run_storeVar_cell w g (o + k) ty T v hb hin hi h1
/-- A field of it is stored. -/
theorem wpPf {K : Act → World → Prop} {ty : TypeId} {x y : Operand} (k : Nat) (v : Value) (ho : op.op = .store ty x y) (hx : a.eval x = .pointer (some ⟨g, o + k, none⟩)) (hy : a.eval y = v) (h : Pin g T cs0 o xs w) (hk : k < xs.size) (hi : (P.info? ty).map (·.size) = some 1) (h1 : v.oneCell' = true)
    {xs' : Array Value} (he : xs.setIfInBounds k v = xs') (hK : ∀ W', Pin g T cs0 o xs' W' → w.grownBy W' (some g) → K (a.put op.dst undef) W') : op.wp P a w K Q := by
  subst he
  unfold Oper.wp execOp
  simp only [ho, hx, hy, Instr.storeAt, Instr.sureAddr, Sem.run_bind, Sem.run_pure, Result.andThen_ok, run_storeVar_pin k ty v h hk hi h1]
  exact hK _ (h.set k v hk) (grown_cell w g (o + k) v)
theorem stPf {ty : TypeId} {x y : Operand} (k : Nat) (v : Value) (hgd : op.guard = none) (ho : op.op = .store ty x y) (hx : a.eval x = .pointer (some ⟨g, o + k, none⟩)) (hy : a.eval y = v) (h : Pin g T cs0 o xs w) (hk : k < xs.size) (hi : (P.info? ty).map (·.size) = some 1) (h1 : v.oneCell' = true)
    {xs' : Array Value} (he : xs.setIfInBounds k v = xs') (hK : ∀ W', Pin g T cs0 o xs' W' → w.grownBy W' (some g) → wpList P ops Q rest (a.put op.dst undef) W') : wpList P ops Q (op :: rest) a w :=
  wpList_plain hgd fun _ hL => wpPf k v ho hx hy h hk hi h1 he fun W' h1 h2 => hL _ _ (hK W' h1 h2)
/-- A part of it is stored. -/
theorem wpPp {K : Act → World → Prop} {ty : TypeId} {x y : Operand} (k : Nat) (vs : Array Value) (ho : op.op = .store ty x y) (hx : a.eval x = .pointer (some ⟨g, o + k, none⟩)) (hy : a.eval y = .agg vs) (h : Pin g T cs0 o xs w) (hk : k + vs.size ≤ xs.size) (hi : (P.info? ty).map (·.size) = some vs.size) (h1 : vs.all (·.oneCell') = true)
    {xs' : Array Value} (he : putA xs k vs.toList = xs') (hK : ∀ W', Pin g T cs0 o xs' W' → w.grownBy W' (some g) → K (a.put op.dst undef) W') : op.wp P a w K Q := by
  subst he
  exact wp_store_mid ty x y ho g (o + k) vs hx hy (h.there k _ hk) hi h1 (hK _ (Pin.puts vs.toList k w xs h (by simpa using hk)) (grown_cells g _ _ w))
theorem stPp {ty : TypeId} {x y : Operand} (k : Nat) (vs : Array Value) (hgd : op.guard = none) (ho : op.op = .store ty x y) (hx : a.eval x = .pointer (some ⟨g, o + k, none⟩)) (hy : a.eval y = .agg vs) (h : Pin g T cs0 o xs w) (hk : k + vs.size ≤ xs.size) (hi : (P.info? ty).map (·.size) = some vs.size) (h1 : vs.all (·.oneCell') = true)
    {xs' : Array Value} (he : putA xs k vs.toList = xs') (hK : ∀ W', Pin g T cs0 o xs' W' → w.grownBy W' (some g) → wpList P ops Q rest (a.put op.dst undef) W') : wpList P ops Q (op :: rest) a w :=
  wpList_plain hgd fun _ hL => wpPp k vs ho hx hy h hk hi h1 he fun W' h1 h2 => hL _ _ (hK W' h1 h2)
end
/-- Block g holds these pieces from its beginning on. -/
def OwnS (W : World) (g : Nat) (T : TypeId) (cap n : Nat) (l : List Mg) : Prop := ∃ cur, Bx W g T cur ∧ l.length = n ∧ n ≤ cap ∧ cap ≤ maxLen ∧ ∀ j, j < n * 6 → cur[j]? = (flatM l)[j]?
section
variable {W W' : World} {g cap n : Nat} {T : TypeId} {l : List Mg}
theorem OwnS.of_own {v : Value} {B : Nat} (h : W.ownsRow B T 6 v n (flatM l)) (hn : 0 < n) : ∃ g cap, v = .slice (some ⟨g, 0, none⟩) n cap ∧ B ≤ g ∧ OwnS W g T cap n l := by
  obtain ⟨g, cap, cur, rfl, hB, hb, h1, h2, h3⟩ := own_bx h hn
  have hl : l.length = n := by have := h.1; rw [flatM_length] at this; omega
  exact ⟨g, cap, rfl, hB, cur, hb, hl, h1, h2, h3⟩
theorem OwnS.len (h : OwnS W g T cap n l) : l.length = n := by obtain ⟨_, _, h, _⟩ := h; exact h
theorem OwnS.lt (h : OwnS W g T cap n l) : g < W.heap.size := by obtain ⟨_, h, _⟩ := h; exact h.lt
theorem OwnS.same (h : OwnS W g T cap n l) (hs : W'.heap[g]? = W.heap[g]?) : OwnS W' g T cap n l := by
  obtain ⟨cur, h, r⟩ := h
  exact ⟨cur, hs.trans h, r⟩
theorem OwnS.later (h : OwnS W g T cap n l) (hb : Below W.heap.size W W') : OwnS W' g T cap n l := h.same (hb.block g h.lt)
theorem OwnS.kept {k : Nat} (h : OwnS W g T cap n l) (hg : W.grownBy W' (some k)) (hne : g ≠ k) : OwnS W' g T cap n l := h.same (hg.block g h.lt (by simp; omega))
theorem OwnS.cell (h : OwnS W g T cap n l) {i : Nat} (hi : i < n) (k : Nat) (v : Value) (hk : k < 6) (hv : (cellsMg (l[i]'(by rw [h.len]; exact hi)))[k]? = some v) : W.cell? ⟨g, i * 6 + k, none⟩ = some v := by
  have hl := h.len
  obtain ⟨cur, hb, _, h1, h2, h3⟩ := h
  rw [hb.at, h3 _ (by omega), flatM_at l i k (by omega) hk]
  simpa using hv
theorem OwnS.range (h : OwnS W g T cap n l) {i : Nat} (hi : i < n) : W.rangeAt g (i * 6) (cellsMg (l[i]'(by rw [h.len]; exact hi))).toList := fun k v hv => by
  have hk : k < 6 := by have := (List.getElem?_eq_some_iff.1 hv).1; rw [lenMg] at this; exact this
  exact h.cell hi k v hk (by simpa using hv)
theorem OwnS.row (h : OwnS W g T cap n l) : RowM W (.slice (some ⟨g, 0, none⟩) n cap) l := by
  have hl := h.len
  subst hl
  have hlt := h.lt
  obtain ⟨cur, hb, _, h1, h2, h3⟩ := id h
  exact ⟨_, cap, rfl, h1, h2, fun _ => ⟨g, 0, rfl, hlt, fun j hj => by rw [Nat.zero_add]; exact h.range hj⟩⟩
theorem flatM_set (l : List Mg) (i k : Nat) (x : Mg) (v : Value) (hi : i < l.length) (hk : k < 6) (hx : (cellsMg l[i]).setIfInBounds k v = cellsMg x) : ∀ j, j < l.length * 6 → (flatM (l.set i x))[j]? = if j = i * 6 + k then some v else (flatM l)[j]? := by
  intro j hj
  have hj2 : j / 6 < l.length := by omega
  have hjm : j % 6 < 6 := Nat.mod_lt _ (by omega)
  have e1 : j = j / 6 * 6 + j % 6 := by omega
  have hx' : ∀ t, t < 6 → (cellsMg x).toList[t]? = if t = k then some v else (cellsMg l[i]).toList[t]? := by
    intro t ht
    have hz : (cellsMg l[i]).size = 6 := rfl
    have e2 : (cellsMg x).toList[t]? = (cellsMg x)[t]? := by simp
    have e3 : (cellsMg l[i]).toList[t]? = (cellsMg l[i])[t]? := by simp
    rw [e2, e3, ← hx, Array.getElem?_setIfInBounds, hz]
    by_cases e : k = t
    · subst e; rw [if_pos rfl, if_pos hk, if_pos rfl]
    · rw [if_neg e, if_neg (fun h => e h.symm)]
  generalize j / 6 = a at *
  generalize j % 6 = t at *
  subst e1
  rw [flatM_at _ a t (by simpa using hj2) hjm, flatM_at l a t hj2 hjm]
  by_cases e : i = a
  · subst e
    rw [List.getElem_set_self, hx' t hjm]
    by_cases e4 : t = k
    · subst e4; rw [if_pos rfl, if_pos rfl]
    · rw [if_neg e4, if_neg (by omega)]
  · rw [List.getElem_set_ne e, if_neg (by omega)]
theorem OwnS.set (h : OwnS W g T cap n l) {i : Nat} (hi : i < n) (k : Nat) (v : Value) (x : Mg) (hk : k < 6) (hx : (cellsMg (l[i]'(by rw [h.len]; exact hi))).setIfInBounds k v = cellsMg x) : OwnS (W.setCell ⟨g, i * 6 + k, none⟩ v) g T cap n (l.set i x) := by
  obtain ⟨cur, hb, h0, h1, h2, h3⟩ := h
  refine ⟨_, hb.setCell (i * 6 + k) v, by rw [List.length_set]; exact h0, h1, h2, fun j hj => ?_⟩
  have hin : i * 6 + k < cur.size := by
    have h9 := h3 (i * 6 + k) (by omega)
    rw [List.getElem?_eq_getElem (by rw [flatM_length]; omega)] at h9
    exact (Array.getElem?_eq_some_iff.1 h9).1
  rw [flatM_set l i k x v (by omega) hk hx j (by omega), Array.getElem?_setIfInBounds]
  by_cases e : i * 6 + k = j
  · subst e; rw [if_pos rfl, if_pos hin, if_pos rfl]
  · rw [if_neg e, if_neg (fun h => e h.symm)]
    exact h3 j hj
end
section
variable {P : Program} {ops : Array Oper} {rest : List Oper} {op : Oper} {a : Act} {w : World} {Q : Exit → Act → World → Prop} {g cap n : Nat} {T : TypeId} {l : List Mg}
theorem OwnS.run (h : OwnS w g T cap n l) {i : Nat} (hi : i < n) (k : Nat) (ty : TypeId) (v : Value) (hk : k < 6) (hz : (P.info? ty).map (·.size) = some 1) (h1 : v.oneCell' = true) : (storeVar ty ⟨g, i * 6 + k, none⟩ v).run P w = .ok () (w.setCell ⟨g, i * 6 + k, none⟩ v) := by
  obtain ⟨cur, hb, h0, h2, h3, h4⟩ := h
  have hin : i * 6 + k < cur.size := by
    have h9 := h4 (i * 6 + k) (by omega)
    rw [List.getElem?_eq_getElem (by rw [flatM_length]; omega)] at h9
    exact (Array.getElem?_eq_some_iff.1 h9).1
  exact run_storeVar_cell w g (i * 6 + k) ty T v hb hin hz h1
/-- A field of piece i is stored. -/
theorem wpS {K : Act → World → Prop} {ty : TypeId} {x y : Operand} (i k : Nat) (v : Value) (z : Mg) (ho : op.op = .store ty x y) (hx : a.eval x = .pointer (some ⟨g, i * 6 + k, none⟩)) (hy : a.eval y = v) (h : OwnS w g T cap n l) (hi : i < n) (hk : k < 6) (hz : (P.info? ty).map (·.size) = some 1) (h1 : v.oneCell' = true)
    (he : (cellsMg (l[i]'(by rw [h.len]; exact hi))).setIfInBounds k v = cellsMg z) (hK : ∀ W', OwnS W' g T cap n (l.set i z) → w.grownBy W' (some g) → K (a.put op.dst undef) W') : op.wp P a w K Q := by
  unfold Oper.wp execOp
  simp only [ho, hx, hy, Instr.storeAt, Instr.sureAddr, Sem.run_bind, Sem.run_pure, Result.andThen_ok, h.run hi k ty v hk hz h1]
  exact hK _ (h.set hi k v z hk he) (grown_cell w g (i * 6 + k) v)
theorem stS {ty : TypeId} {x y : Operand} (i k : Nat) (v : Value) (z : Mg) (hgd : op.guard = none) (ho : op.op = .store ty x y) (hx : a.eval x = .pointer (some ⟨g, i * 6 + k, none⟩)) (hy : a.eval y = v) (h : OwnS w g T cap n l) (hi : i < n) (hk : k < 6) (hz : (P.info? ty).map (·.size) = some 1) (h1 : v.oneCell' = true)
    (he : (cellsMg (l[i]'(by rw [h.len]; exact hi))).setIfInBounds k v = cellsMg z) (hK : ∀ W', OwnS W' g T cap n (l.set i z) → w.grownBy W' (some g) → wpList P ops Q rest (a.put op.dst undef) W') : wpList P ops Q (op :: rest) a w :=
  wpList_plain hgd fun _ hL => wpS i k v z ho hx hy h hi hk hz h1 he fun W' h1 h2 => hL _ _ (hK W' h1 h2)
end
/-- Nothing has turned of what was there but blocks of S. -/
structure Ch (S : Nat → Prop) (w w' : World) : Prop where
  os : w'.os = w.os
  tape : w'.tape = w.tape
  output : w'.output = w.output
  size : w.heap.size ≤ w'.heap.size
  block : ∀ k, k < w.heap.size → ¬ S k → w'.heap[k]? = w.heap[k]?
section
variable {S : Nat → Prop} {w w' w'' : World} {k B g : Nat} {T : TypeId} {cs : Array Value}
theorem Ch.refl (S : Nat → Prop) (w : World) : Ch S w w := ⟨rfl, rfl, rfl, Nat.le_refl _, fun _ _ _ => rfl⟩
theorem Ch.trans (h : Ch S w w') (h' : Ch S w' w'') : Ch S w w'' := ⟨h'.os.trans h.os, h'.tape.trans h.tape, h'.output.trans h.output, Nat.le_trans h.size h'.size, fun k hk hn => (h'.block k (Nat.lt_of_lt_of_le hk h.size) hn).trans (h.block k hk hn)⟩
theorem Ch.grown {row : Option Nat} (h : Ch S w w') (hg : w'.grownBy w'' row) (hk : ∀ k, row = some k → k < w.heap.size → S k) : Ch S w w'' :=
  ⟨hg.os.trans h.os, hg.tape.trans h.tape, hg.output.trans h.output, Nat.le_trans h.size hg.size, fun j hj hn => (hg.block j (Nat.lt_of_lt_of_le hj h.size) (fun e => hn (hk j e.symm hj))).trans (h.block j hj hn)⟩
theorem Ch.below (h : Ch S w w') (hb : Below w'.heap.size w' w'') : Ch S w w'' := ⟨hb.os.trans h.os, hb.tape.trans h.tape, hb.output.trans h.output, Nat.le_trans h.size hb.size, fun j hj hn => (hb.block j (Nat.lt_of_lt_of_le hj h.size)).trans (h.block j hj hn)⟩
theorem Ch.more {S' : Nat → Prop} (h : Ch S w w') (hS : ∀ k, k < w.heap.size → S k → S' k) : Ch S' w w' := ⟨h.os, h.tape, h.output, h.size, fun k hk hn => h.block k hk (fun hs => hn (hS k hk hs))⟩
theorem Ch.step {S' : Nat → Prop} (h : Ch S w w') (h' : Ch S' w' w'') (hS : ∀ k, k < w.heap.size → S' k → S k) : Ch S w w'' := ⟨h'.os.trans h.os, h'.tape.trans h.tape, h'.output.trans h.output, Nat.le_trans h.size h'.size, fun k hk hn => (h'.block k (Nat.lt_of_lt_of_le hk h.size) (fun hs => hn (hS k hk hs))).trans (h.block k hk hn)⟩
theorem Ch.drew (h : Ch S w w') : Ch S w w'.drew := ⟨h.os, h.tape, h.output, h.size, h.block⟩
theorem Bx.ch (h : Bx w g T cs) (ht : Ch S w w') (hn : ¬ S g) : Bx w' g T cs := (ht.block g h.lt hn).trans h
theorem below_ch {w0 : World} (h : Below B w0 w) (ht : Ch S w w') (hB : B ≤ w.heap.size) (hn : ∀ k, S k → B ≤ k) : Below B w0 w' :=
  ⟨ht.os.trans h.os, ht.tape.trans h.tape, ht.output.trans h.output, Nat.le_trans h.size ht.size, fun k hk => (ht.block k (by omega) (fun hm => by have := hn k hm; omega)).trans (h.block k hk)⟩
theorem ch_below (h : Ch (fun _ => False) w w') : Below w.heap.size w w' := ⟨h.os, h.tape, h.output, h.size, fun k hk => h.block k hk (fun h => h)⟩
theorem ch_of_below (hb : Below w.heap.size w w') : Ch S w w' := (Ch.refl S w).below hb
end
/-- A row of one's own, at A, or none. -/
structure OwnV (W : World) (B : Nat) (T : TypeId) (A : Option Addr) (cap n : Nat) (l : List Mg) : Prop where
  len : l.length = n
  le : n ≤ cap
  max : cap ≤ maxLen
  base : ∀ a, A = some a → B ≤ a.block
  own : 0 < n → ∃ g, A = some ⟨g, 0, none⟩ ∧ B ≤ g ∧ OwnS W g T cap n l
section
variable {W W' : World} {B cap n : Nat} {T : TypeId} {A : Option Addr} {l : List Mg}
theorem OwnV.of_own (h : W.ownsRow B T 6 (.slice A n cap) n (flatM l)) : OwnV W B T A cap n l := by
  have hl : l.length = n := by have := h.1; rw [flatM_length] at this; omega
  obtain ⟨A', cap', e, h1, h2, h3⟩ := own_slice h
  cases e
  refine ⟨hl, h1, h2, h3, fun hn => ?_⟩
  obtain ⟨g, cap2, e, hg, ho⟩ := OwnS.of_own h hn
  cases e
  exact ⟨g, rfl, hg, ho⟩
theorem OwnV.keep (h : OwnV W B T A cap n l) (hk : ∀ g, A = some ⟨g, 0, none⟩ → g < W.heap.size → W'.heap[g]? = W.heap[g]?) : OwnV W' B T A cap n l :=
  ⟨h.len, h.le, h.max, h.base, fun hn => by obtain ⟨g, e, hg, ho⟩ := h.own hn; exact ⟨g, e, hg, ho.same (hk g e ho.lt)⟩⟩
theorem OwnV.later (h : OwnV W B T A cap n l) (hb : Below W.heap.size W W') : OwnV W' B T A cap n l := h.keep fun g _ hl => hb.block g hl
theorem OwnV.grown {row : Option Nat} (h : OwnV W B T A cap n l) (hg : W.grownBy W' row) (hr : ∀ g, A = some ⟨g, 0, none⟩ → g < W.heap.size → some g ≠ row) : OwnV W' B T A cap n l := h.keep fun g e hl => hg.block g hl (hr g e hl)
theorem OwnV.row (h : OwnV W B T A cap n l) : RowM W (.slice A n cap) l := by
  by_cases hn : 0 < n
  · obtain ⟨g, rfl, _, ho⟩ := h.own hn
    exact ho.row
  · have hl := h.len
    obtain rfl : n = 0 := by omega
    obtain rfl : l = [] := List.eq_nil_of_length_eq_zero hl
    exact ⟨A, cap, rfl, h.le, h.max, fun hp => absurd hp (by simp)⟩
theorem OwnV.fresh (h : OwnV W B T A cap n l) : Fresh B (.slice A n cap) := fun a n' c' e => by cases e; exact h.base a rfl
theorem OwnV.less {B' : Nat} (h : OwnV W B T A cap n l) (hB : B' ≤ B) : OwnV W B' T A cap n l := ⟨h.len, h.le, h.max, fun a e => Nat.le_trans hB (h.base a e), fun hn => by obtain ⟨g, e, hg, ho⟩ := h.own hn; exact ⟨g, e, by omega, ho⟩⟩
theorem OwnV.put {g : Nat} {l' : List Mg} (h : OwnV W B T (some ⟨g, 0, none⟩) cap n l) (ho : OwnS W' g T cap n l') : OwnV W' B T (some ⟨g, 0, none⟩) cap n l' :=
  ⟨ho.len, h.le, h.max, h.base, fun _ => ⟨g, rfl, h.base _ rfl, ho⟩⟩
theorem OwnV.low (h : OwnV W B T A cap n l) (hn : 0 < n) : ∃ g, A = some ⟨g, 0, none⟩ ∧ B ≤ g ∧ g < W.heap.size ∧ OwnS W g T cap n l := by
  obtain ⟨g, e, hg, ho⟩ := h.own hn
  exact ⟨g, e, hg, ho.lt, ho⟩
end
theorem below_one (w : World) (o : Obj) : Below w.heap.size w (w.alloc o) := (Below.refl _ _).alloc (Nat.le_refl _) _
theorem one_open (w : World) (T0 : TypeId) (c0 : Array Value) : ∃ W, (w.alloc (.cells c0 T0)) = W ∧ Hid (Bx W (w.heap.size) T0 c0) ∧ Hid (Below w.heap.size w W) ∧ W.heap.size = w.heap.size + 1 :=
  ⟨_, rfl, Lib.hid (Bx.fresh w T0 c0), Lib.hid (below_one w _), by rw [World.size_alloc]⟩
end Go.Proofs.Ytondgdacjbfihaa
