/-
  Rows of paths in memory, and a path in its row that is changed. No program is named here.
-/
import Derived.Test.YtpihgnpbaaagpaaPt
import Derived.Test.YtpihgnpbaaagpaaMem
import Derived.Test.YtpihgnpbaaagpaaBx
import Derived.Test.YtpihgnpbaaagpaaOwn
namespace Go.Proofs.Ytpihgnpbaaagpaa
open Go.RowKit
set_option linter.unusedVariables false

/-- The cells of paths. -/
def flatP (l : List Pa) : List Value := l.flatMap fun x => (cellsPa x).toList
theorem flatP_cons (x : Pa) (l : List Pa) : flatP (x :: l) = (cellsPa x).toList ++ flatP l := rfl
theorem flatP_length (l : List Pa) : (flatP l).length = l.length * 14 := by
  induction l with
  | nil => rfl
  | cons p ps ih => rw [flatP_cons, List.length_append, ih, lenPa, List.length_cons]; omega
theorem flatP_append (l m : List Pa) : flatP (l ++ m) = flatP l ++ flatP m := by simp [flatP]
theorem flatP_take (l : List Pa) (k : Nat) (h : k < l.length) : flatP (l.take (k + 1)) = flatP (l.take k) ++ (cellsPa l[k]).toList := by
  rw [List.take_succ_eq_append_getElem h, flatP_append]
  simp [flatP]
theorem cells_one {x : Pa} {u : Value} (h : u ∈ (cellsPa x).toList) : u.oneCell' = true := (Array.all_eq_true_iff_forall_mem.1 (cellsPa_one x)) u (by simpa using h)
theorem flatP_one (l : List Pa) : ∀ u ∈ flatP l, u.oneCell' = true := by
  intro u hu
  obtain ⟨x, _, hx⟩ := List.mem_flatMap.1 hu
  exact cells_one hx
theorem flatP_at (l : List Pa) (i j : Nat) (h : i < l.length) (hj : j < 14) : (flatP l)[i * 14 + j]? = (cellsPa l[i]).toList[j]? := by
  induction l generalizing i with
  | nil => simp at h
  | cons p ps ih =>
    cases i with
    | zero =>
      rw [flatP_cons, Nat.zero_mul, Nat.zero_add, List.getElem?_append_left (by rw [lenPa]; exact hj)]
      rfl
    | succ i =>
      rw [flatP_cons, List.getElem?_append_right (by rw [lenPa]; omega), lenPa, show (i + 1) * 14 + j - 14 = i * 14 + j by omega, ih i (by simpa using h)]
      rfl
/-- The slice v reads as these paths; nil and empty ones let in. -/
def RowP (w : World) (v : Value) (l : List Pa) : Prop :=
  ∃ (A : Option Addr) (cap : Nat), v = .slice A l.length cap ∧ l.length ≤ cap ∧ cap ≤ maxLen ∧ (0 < l.length → ∃ b off, A = some ⟨b, off, none⟩ ∧ b < w.heap.size ∧ ∀ j (h : j < l.length), w.rangeAt b (off + j * 14) (cellsPa l[j]).toList)
theorem range_below {w w' : World} {B b o : Nat} {cs : List Value} (h : w.rangeAt b o cs) (hlt : b < B) (hb : Below B w w') : w'.rangeAt b o cs := fun j v hj => (hb.cell (p := ⟨b, o + j, none⟩) hlt).trans (h j v hj)
theorem RowP.below {w w' : World} {v : Value} {l : List Pa} (h : RowP w v l) (hb : Below w.heap.size w w') : RowP w' v l := by
  obtain ⟨A, cap, rfl, hc, hm, h⟩ := h
  refine ⟨A, cap, rfl, hc, hm, fun hl => ?_⟩
  obtain ⟨b, off, rfl, hlt, hcell⟩ := h hl
  exact ⟨b, off, rfl, Nat.lt_of_lt_of_le hlt hb.size, fun j hj => range_below (hcell j hj) hlt hb⟩
theorem RowP.nil (w : World) : RowP w (.slice none 0 0) [] := ⟨none, 0, rfl, Nat.le_refl _, Nat.zero_le _, fun h => absurd h (by simp)⟩
/-- The row, if there is one, lies from block B on. -/
def Fresh (B : Nat) (v : Value) : Prop := ∀ a n c, v = .slice (some a) n c → B ≤ a.block
theorem Fresh.less {B B' : Nat} {v : Value} (h : Fresh B v) (hb : B' ≤ B) : Fresh B' v := fun a n c e => Nat.le_trans hb (h a n c e)
theorem fresh_none (B n c : Nat) : Fresh B (.slice none n c) := fun a n c e => by cases e
theorem fresh_some {B g o n c : Nat} (h : B ≤ g) : Fresh B (.slice (some ⟨g, o, none⟩) n c) := fun a n c e => by cases e; exact h
theorem RowP.stays {w w' : World} {v : Value} {l : List Pa} {B k : Nat} (h : RowP w v l) (hf : Fresh B v) (hg : w.grownBy w' (some k)) (hk : k < B) : RowP w' v l := by
  obtain ⟨A, cap, rfl, hc, hm, h⟩ := h
  refine ⟨A, cap, rfl, hc, hm, fun hl => ?_⟩
  obtain ⟨b, off, rfl, hlt, hcell⟩ := h hl
  have hB : B ≤ b := hf _ _ _ rfl
  have hs := hg.block b hlt (by simp; omega)
  exact ⟨b, off, rfl, Nat.lt_of_lt_of_le hlt hg.size, fun j hj t u hu => by
    have := hcell j hj t u hu
    rw [← this]
    exact World.cell?_of_block (w := w) (a := ⟨b, off + j * 14 + t, none⟩) hs⟩
theorem fresh_own {w : World} {base size n : Nat} {e : TypeId} {v : Value} {xs : List Value} (h : w.ownsRow base e size v n xs) : Fresh base v := by
  obtain ⟨A, cap, rfl, _, _, ha⟩ := own_slice h
  intro a n c e
  cases e
  exact ha a rfl
/-- What the call owns reads as a list. -/
theorem rowP_of_own {w : World} {base n : Nat} {e : TypeId} {v : Value} {l : List Pa} (h : w.ownsRow base e 14 v n (flatP l)) : RowP w v l := by
  have hl : l.length = n := by have := h.1; rw [flatP_length] at this; omega
  subst hl
  rcases h.2 with ⟨rfl, h0⟩ | ⟨g, cap, cur, rfl, hb, hh, h1, h2, _⟩
  · exact ⟨none, 0, by rw [h0], by omega, Nat.zero_le _, fun hp => by omega⟩
  · refine ⟨_, cap, rfl, h1, h2, fun _ => ⟨g, 0, rfl, (Array.getElem?_eq_some_iff.1 hh).1, fun j hj t u hu => ?_⟩⟩
    have ht : t < 14 := by have := (List.getElem?_eq_some_iff.1 hu).1; rw [lenPa] at this; exact this
    rw [Nat.zero_add, h.cellAt (j * 14 + t) (by omega), flatP_at l j t hj ht, hu]
theorem ownP_below {w w' : World} {B size n : Nat} {T : TypeId} {v : Value} {xs : List Value} (h : w.ownsRow B T size v n xs) (hb : Below w.heap.size w w') : w'.ownsRow B T size v n xs := by
  refine ⟨h.1, ?_⟩
  rcases h.2 with h0 | ⟨g, cap, cur, rfl, hB, hg, r⟩
  · exact .inl h0
  · exact .inr ⟨g, cap, cur, rfl, hB, (hb.block g (Array.getElem?_eq_some_iff.1 hg).1).trans hg, r⟩
/-- A row that the call owns, as a block of cells. -/
theorem own_bx {w : World} {B n : Nat} {e : TypeId} {v : Value} {l : List Pa} (h : w.ownsRow B e 14 v n (flatP l)) (hn : 0 < n) :
    ∃ g cap cur, v = .slice (some ⟨g, 0, none⟩) n cap ∧ B ≤ g ∧ Bx w g e cur ∧ n ≤ cap ∧ cap ≤ maxLen ∧ ∀ j, j < n * 14 → cur[j]? = (flatP l)[j]? := by
  rcases h.2 with ⟨_, h0⟩ | ⟨g, cap, cur, rfl, hb, hh, h1, h2, h3, h4⟩
  · omega
  · refine ⟨g, cap, cur, rfl, hb, hh, h1, h2, fun j hj => ?_⟩
    rw [← h4, List.getElem?_take, if_pos hj]
    simp

/-- Cells laid over an array's. -/
def putA (cs : Array Value) (o : Nat) : List Value → Array Value
  | [] => cs
  | v :: r => putA (cs.setIfInBounds o v) (o + 1) r
theorem Bx.setCells {W : World} {g : Nat} {T : TypeId} : ∀ (vs : List Value) (o : Nat) (W : World) (cs : Array Value), Bx W g T cs → Bx (W.setCells g o vs) g T (putA cs o vs)
  | [], _, _, _, h => h
  | v :: r, o, W, cs, h => by
    rw [World.setCells, putA]
    exact Bx.setCells (W := W) r (o + 1) _ _ (h.setCell o v)
theorem grown_cells (g : Nat) : ∀ (vs : List Value) (o : Nat) (w : World), w.grownBy (w.setCells g o vs) (some g)
  | [], _, w => World.grownBy.refl w _
  | v :: r, o, w => by
    rw [World.setCells]
    exact grown_then (grown_cell w g o v) (grown_cells g r (o + 1) _)
/-- In block g, which held cs0, from o on lie the cells xs; the others are as they were. -/
def Pin (g : Nat) (T : TypeId) (cs0 : Array Value) (o : Nat) (xs : Array Value) (W : World) : Prop :=
  ∃ cs, Bx W g T cs ∧ cs.size = cs0.size ∧ (∀ j, j < xs.size → cs[o + j]? = xs[j]?) ∧ ∀ j, (j < o ∨ o + xs.size ≤ j) → cs[j]? = cs0[j]?
section
variable {W W' w0 : World} {g k o : Nat} {T : TypeId} {cs0 xs : Array Value}
theorem Pin.first {cs : Array Value} (h : Bx W g T cs) (hx : ∀ j, j < xs.size → cs[o + j]? = xs[j]?) : Pin g T cs o xs W := ⟨cs, h, rfl, hx, fun _ _ => rfl⟩
theorem Pin.lt (h : Pin g T cs0 o xs W) : g < W.heap.size := by obtain ⟨cs, h, _⟩ := h; exact h.lt
theorem Pin.later (h : Pin g T cs0 o xs W) (hb : Below W.heap.size W W') : Pin g T cs0 o xs W' := by
  obtain ⟨cs, h, r⟩ := h
  exact ⟨cs, h.later hb, r⟩
theorem Pin.kept (h : Pin g T cs0 o xs W) (hg : W.grownBy W' (some k)) (hne : g ≠ k) : Pin g T cs0 o xs W' := by
  obtain ⟨cs, h, r⟩ := h
  exact ⟨cs, h.kept hg hne, r⟩
theorem Pin.same (h : Pin g T cs0 o xs W) (hs : W'.heap[g]? = W.heap[g]?) : Pin g T cs0 o xs W' := by
  obtain ⟨cs, h, r⟩ := h
  exact ⟨cs, hs.trans h, r⟩
theorem Pin.cell (h : Pin g T cs0 o xs W) (j : Nat) (v : Value) (hv : xs[j]? = some v) : W.cell? ⟨g, o + j, none⟩ = some v := by
  obtain ⟨cs, h, _, hx, _⟩ := h
  rw [h.at, hx j (Array.getElem?_eq_some_iff.1 hv).1, hv]
theorem Pin.range (h : Pin g T cs0 o xs W) (k : Nat) (l : List Value) (hl : ∀ j v, l[j]? = some v → xs[k + j]? = some v) : W.rangeAt g (o + k) l := fun j v hv => by
  rw [Nat.add_assoc]
  exact h.cell (k + j) v (hl j v hv)
theorem Pin.there (h : Pin g T cs0 o xs W) (k n : Nat) (hk : k + n ≤ xs.size) : W.there g (o + k) n := fun j hj => by
  obtain ⟨cs, h, hz, hx, _⟩ := h
  refine ⟨?_, h.free _⟩
  rw [Nat.add_assoc, h.at, hx (k + j) (by omega), Array.getElem?_eq_getElem (by omega)]
  rfl
theorem Pin.set (h : Pin g T cs0 o xs W) (k : Nat) (v : Value) (hk : k < xs.size) : Pin g T cs0 o (xs.setIfInBounds k v) (W.setCell ⟨g, o + k, none⟩ v) := by
  obtain ⟨cs, h, hz, hx, hr⟩ := h
  have hin : o + k < cs.size := by
    have := hx k hk
    rw [Array.getElem?_eq_getElem hk] at this
    exact (Array.getElem?_eq_some_iff.1 this).1
  refine ⟨_, h.setCell (o + k) v, by simpa using hz, fun j hj => ?_, fun j hj => ?_⟩
  · rw [Array.size_setIfInBounds] at hj
    rw [Array.getElem?_setIfInBounds, Array.getElem?_setIfInBounds]
    by_cases e : k = j
    · subst e
      rw [if_pos rfl, if_pos rfl, if_pos hin, if_pos hk]
    · rw [if_neg (by omega), if_neg e]
      exact hx j hj
  · rw [Array.size_setIfInBounds] at hj
    rw [Array.getElem?_setIfInBounds, if_neg (by omega)]
    exact hr j hj
theorem Pin.puts : ∀ (vs : List Value) (k : Nat) (W : World) (xs : Array Value), Pin g T cs0 o xs W → k + vs.length ≤ xs.size → Pin g T cs0 o (putA xs k vs) (W.setCells g (o + k) vs)
  | [], _, _, _, h, _ => h
  | v :: r, k, W, xs, h, hk => by
    rw [List.length_cons] at hk
    rw [World.setCells, putA]
    exact Pin.puts r (k + 1) _ _ (h.set k v (by omega)) (by rw [Array.size_setIfInBounds]; omega)
/-- The row, when the path is another one. -/
theorem Pin.row {l : List Pa} {n cap i : Nat} {x : Pa} (h : Pin g T cs0 (i * 14) (cellsPa x) W) (hl : l.length = n) (hc : n ≤ cap) (hm : cap ≤ maxLen) (h0 : ∀ j, j < n * 14 → cs0[j]? = (flatP l)[j]?) (hi : i < n) :
    RowP W (.slice (some ⟨g, 0, none⟩) n cap) (l.set i x) := by
  subst hl
  have hlen : (l.set i x).length = l.length := List.length_set ..
  refine ⟨_, cap, by rw [hlen], by omega, hm, fun hp => ⟨g, 0, rfl, h.lt, fun j hj t u hu => ?_⟩⟩
  have ht : t < 14 := by have := (List.getElem?_eq_some_iff.1 hu).1; rw [lenPa] at this; exact this
  rw [hlen] at hj
  rw [Nat.zero_add]
  by_cases e : i = j
  · subst e
    rw [List.getElem_set_self] at hu
    exact h.cell t u (by simpa using hu)
  · rw [List.getElem_set_ne (by exact e)] at hu
    obtain ⟨cs, hb, hz, hx, hr⟩ := h
    have hne : j * 14 + t < i * 14 ∨ i * 14 + 14 ≤ j * 14 + t := by omega
    rw [hb.at, hr _ hne, h0 _ (by omega), flatP_at l j t hj ht, hu]
end
section
variable {P : Program} {ops : Array Oper} {rest : List Oper} {op : Oper} {a : Act} {w : World} {Q : Exit → Act → World → Prop} {g o : Nat} {T : TypeId} {cs0 xs : Array Value}
theorem run_storeVar_pin (k : Nat) (ty : TypeId) (v : Value) (h : Pin g T cs0 o xs w) (hk : k < xs.size) (hi : (P.info? ty).map (·.size) = some 1) (h1 : v.oneCell' = true) :
    (storeVar ty ⟨g, o + k, none⟩ v).run P w = .ok () (w.setCell ⟨g, o + k, none⟩ v) := by
  obtain ⟨cs, hb, hz, hx, hr⟩ := h
  have hin : o + k < cs.size := by
    have := hx k hk
    rw [Array.getElem?_eq_getElem hk] at this
    exact (Array.getElem?_eq_some_iff.1 this).1
  exact run_storeVar_cell w g (o + k) ty T v hb hin hi h1
/-- A field of it is stored. -/
theorem wpPf {K : Act → World → Prop} {ty : TypeId} {x y : Operand} (k : Nat) (v : Value) (ho : op.op = .store ty x y) (hx : a.eval x = .pointer (some ⟨g, o + k, none⟩)) (hy : a.eval y = v) (h : Pin g T cs0 o xs w) (hk : k < xs.size) (hi : (P.info? ty).map (·.size) = some 1) (h1 : v.oneCell' = true)
    {xs' : Array Value} (he : xs.setIfInBounds k v = xs') (hK : ∀ W', Pin g T cs0 o xs' W' → w.grownBy W' (some g) → K (a.put op.dst undef) W') : op.wp P a w K Q := by
  subst he
  unfold Oper.wp execOp
  simp only [ho, hx, hy, Instr.storeAt, Instr.sureAddr, Sem.run_bind, Sem.run_pure, Result.andThen_ok, run_storeVar_pin k ty v h hk hi h1]
  exact hK _ (h.set k v hk) (grown_cell w g (o + k) v)
theorem stPf {ty : TypeId} {x y : Operand} (k : Nat) (v : Value) (hgd : op.guard = none) (ho : op.op = .store ty x y) (hx : a.eval x = .pointer (some ⟨g, o + k, none⟩)) (hy : a.eval y = v) (h : Pin g T cs0 o xs w) (hk : k < xs.size) (hi : (P.info? ty).map (·.size) = some 1) (h1 : v.oneCell' = true)
    {xs' : Array Value} (he : xs.setIfInBounds k v = xs') (hK : ∀ W', Pin g T cs0 o xs' W' → w.grownBy W' (some g) → wpList P ops Q rest (a.put op.dst undef) W') : wpList P ops Q (op :: rest) a w :=
  wpList_plain hgd fun _ hL => wpPf k v ho hx hy h hk hi h1 he fun W' h1 h2 => hL _ _ (hK W' h1 h2)
/-- A part of it is stored. -/
theorem wpPp {K : Act → World → Prop} {ty : TypeId} {x y : Operand} (k : Nat) (vs : Array Value) (ho : op.op = .store ty x y) (hx : a.eval x = .pointer (some ⟨g, o + k, none⟩)) (hy : a.eval y = .agg vs) (h : Pin g T cs0 o xs w) (hk : k + vs.size ≤ xs.size) (hi : (P.info? ty).map (·.size) = some vs.size) (h1 : vs.all (·.oneCell') = true)
    {xs' : Array Value} (he : putA xs k vs.toList = xs') (hK : ∀ W', Pin g T cs0 o xs' W' → w.grownBy W' (some g) → K (a.put op.dst undef) W') : op.wp P a w K Q := by
  subst he
  exact wp_store_mid ty x y ho g (o + k) vs hx hy (h.there k _ hk) hi h1 (hK _ (Pin.puts vs.toList k w xs h (by simpa using hk)) (grown_cells g _ _ w))
theorem stPp {ty : TypeId} {x y : Operand} (k : Nat) (vs : Array Value) (hgd : op.guard = none) (ho : op.op = .store ty x y) (hx : a.eval x = .pointer (some ⟨g, o + k, none⟩)) (hy : a.eval y = .agg vs) (h : Pin g T cs0 o xs w) (hk : k + vs.size ≤ xs.size) (hi : (P.info? ty).map (·.size) = some vs.size) (h1 : vs.all (·.oneCell') = true)
    {xs' : Array Value} (he : putA xs k vs.toList = xs') (hK : ∀ W', Pin g T cs0 o xs' W' → w.grownBy W' (some g) → wpList P ops Q rest (a.put op.dst undef) W') : wpList P ops Q (op :: rest) a w :=
  wpList_plain hgd fun _ hL => wpPp k vs ho hx hy h hk hi h1 he fun W' h1 h2 => hL _ _ (hK W' h1 h2)
end
end Go.Proofs.Ytpihgnpbaaagpaa
