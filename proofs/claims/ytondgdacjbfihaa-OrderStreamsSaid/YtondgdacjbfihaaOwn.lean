/-
  Rows that the call owns and whose free places are not frozen (a text's bytes among them), and what append makes of them, whatever it is fed with. No program is named here.
-/
import Derived.Below
import Derived.Laws.OwnMore
import Derived.Lib.AppendStr
import Derived.Lib.ConvBytes
import Derived.RegionTactic
import Derived.OwnWalk
import Derived.Test.YtondgdacjbfihaaMem
namespace Go.Proofs.Ytondgdacjbfihaa
open Go.RowKit
set_option linter.unusedVariables false

/-- The slice v of n elements of so many cells each owns the cells xs, in a block from B on; what is behind them there may be written. -/
def OwnG (w : World) (B : Nat) (e : TypeId) (size : Nat) (v : Value) (n : Nat) (xs : List Value) : Prop :=
  xs.length = n * size ∧ ((v = .slice none 0 0 ∧ n = 0) ∨ ∃ g cap cur fz, v = .slice (some ⟨g, 0, none⟩) n cap ∧ B ≤ g ∧ w.heap[g]? = some (.cells cur e fz) ∧ n ≤ cap ∧ cap ≤ maxLen ∧ cur.size = cap * size ∧
    cur.toList.take (n * size) = xs ∧ ∀ i, i < cur.size → ¬ (fz.1 ≤ i ∧ i < fz.2))

theorem OwnG.nil (w : World) (B : Nat) (e : TypeId) (size : Nat) : OwnG w B e size (.slice none 0 0) 0 [] := ⟨by simp, .inl ⟨rfl, rfl⟩⟩
theorem OwnG.of {w : World} {B : Nat} {e : TypeId} {size : Nat} {v : Value} {n : Nat} {xs : List Value} (h : w.ownsRow B e size v n xs) : OwnG w B e size v n xs := by
  refine ⟨h.1, ?_⟩
  rcases h.2 with h0 | ⟨g, cap, cur, hv, hb, hg, h1, h2, h3, h4⟩
  · exact .inl h0
  · exact .inr ⟨g, cap, cur, (0, 0), hv, hb, hg, h1, h2, h3, h4, fun i _ => by simp⟩
theorem OwnG.made {w : World} {B : Nat} (hB : B ≤ w.heap.size) (e : TypeId) (size : Nat) (cur : Array Value) (cap : Nat) (hc : cap ≤ maxLen) (hs : cur.size = cap * size) : OwnG (w.alloc (.cells cur e)) B e size (.slice (some ⟨w.heap.size, 0, none⟩) 0 cap) 0 [] :=
  ⟨by simp, .inr ⟨w.heap.size, cap, cur, (0, 0), rfl, hB, heap_alloc_new w _, Nat.zero_le _, hc, hs, by simp, fun i _ => by simp⟩⟩
theorem OwnG.full {w : World} {B : Nat} (hB : B ≤ w.heap.size) (e : TypeId) (size : Nat) (xs : List Value) (n : Nat) (hc : n ≤ maxLen) (hs : xs.length = n * size) : OwnG (w.alloc (.cells xs.toArray e)) B e size (.slice (some ⟨w.heap.size, 0, none⟩) n n) n xs :=
  ⟨hs, .inr ⟨w.heap.size, n, _, (0, 0), rfl, hB, heap_alloc_new w _, Nat.le_refl _, hc, by simpa using hs, by rw [← hs]; simp, fun i _ => by simp⟩⟩

section
variable {w w' : World} {B : Nat} {e : TypeId} {size : Nat} {v : Value} {n : Nat} {xs : List Value}
theorem OwnG.lt (h : OwnG w B e size v n xs) : ∀ k, v.ownBlock = some k → B ≤ k ∧ k < w.heap.size := by
  intro k hk
  rcases h.2 with ⟨rfl, _⟩ | ⟨g, cap, cur, fz, rfl, hb, hg, _⟩
  · cases hk
  · cases hk
    exact ⟨hb, (Array.getElem?_eq_some_iff.1 hg).1⟩
theorem OwnG.keep (h : OwnG w B e size v n xs) (hk : ∀ k, v.ownBlock = some k → w'.heap[k]? = w.heap[k]?) : OwnG w' B e size v n xs := by
  refine ⟨h.1, ?_⟩
  rcases h.2 with h0 | ⟨g, cap, cur, fz, rfl, hb, hg, r⟩
  · exact .inl h0
  · exact .inr ⟨g, cap, cur, fz, rfl, hb, (hk g rfl).trans hg, r⟩
theorem OwnG.later (h : OwnG w B e size v n xs) (hb : Below w.heap.size w w') : OwnG w' B e size v n xs := h.keep fun k hk => hb.block k (h.lt k hk).2
theorem OwnG.base {B' : Nat} (h : OwnG w B e size v n xs) (hB : B' ≤ B) : OwnG w B' e size v n xs := by
  refine ⟨h.1, ?_⟩
  rcases h.2 with h0 | ⟨g, cap, cur, fz, hv, hb, r⟩
  · exact .inl h0
  · exact .inr ⟨g, cap, cur, fz, hv, by omega, r⟩
theorem OwnG.alloc (h : OwnG w B e size v n xs) (o : Obj) : OwnG (w.alloc o) B e size v n xs := h.keep fun k hk => heap_alloc_old w o (h.lt k hk).2
theorem OwnG.drew (h : OwnG w B e size v n xs) : OwnG w.drew B e size v n xs := h
theorem OwnG.drewN (h : OwnG w B e size v n xs) (k : Nat) : OwnG (w.drewN k) B e size v n xs := h
theorem OwnG.slice (h : OwnG w B e size v n xs) : ∃ A cap, v = .slice A n cap ∧ n ≤ cap ∧ cap ≤ maxLen ∧ (0 < n → ∃ g, A = some ⟨g, 0, none⟩ ∧ B ≤ g ∧ g < w.heap.size) := by
  rcases h.2 with ⟨rfl, rfl⟩ | ⟨g, cap, cur, fz, rfl, hb, hg, h1, h2, _⟩
  · exact ⟨none, 0, rfl, Nat.le_refl _, Nat.zero_le _, fun h => absurd h (by omega)⟩
  · exact ⟨_, cap, rfl, h1, h2, fun _ => ⟨g, rfl, hb, (Array.getElem?_eq_some_iff.1 hg).1⟩⟩
theorem OwnG.cells {g cap : Nat} (h : OwnG w B e size (.slice (some ⟨g, 0, none⟩) n cap) n xs) : ∀ j u, xs[j]? = some u → w.cell? ⟨g, j, none⟩ = some u := by
  intro j u hu
  rcases h.2 with ⟨hv, _⟩ | ⟨g', cap', cur, fz, hv, hb, hg, h1, h2, h3, h4, _⟩
  · cases hv
  · cases hv
    have hj : j < n * size := by have := (List.getElem?_eq_some_iff.1 hu).1; rw [h.1] at this; exact this
    rw [cell_of_row w g j cur e fz hg, ← hu, ← h4, List.getElem?_take, if_pos hj]
    simp
theorem OwnG.free {g cap : Nat} (h : OwnG w B e size (.slice (some ⟨g, 0, none⟩) n cap) n xs) {j : Nat} (hj : j < n * size) : w.frozen? ⟨g, j, none⟩ = false := by
  rcases h.2 with ⟨hv, _⟩ | ⟨g', cap', cur, fz, hv, hb, hg, h1, h2, h3, h4, h5⟩
  · cases hv
  · cases hv
    obtain ⟨lo, hi⟩ := fz
    have := h5 j (by rw [h3]; exact Nat.lt_of_lt_of_le hj (Nat.mul_le_mul_right _ h1))
    simp only [World.frozen?, hg]
    simpa using this
end

/-- What append is fed with: m elements, these cells. -/
def Fed (P : Program) (w : World) (size : Nat) (x : Value) (m : Nat) (news : List Value) : Prop :=
  news.length = m * size ∧ (∀ u ∈ news, u.oneCell' = true) ∧ (∀ W, (Builtin.lenOf x).run P W = .ok m W) ∧ ∀ W : World, W.heap = w.heap → (Builtin.firstCells size m x).run P W = .ok news.toArray W
theorem cell_heap {w W : World} (h : W.heap = w.heap) (a : Addr) : W.cell? a = w.cell? a := by simp [World.cell?, h]
theorem Fed.cells {P : Program} {w : World} {size : Nat} {a : Addr} {m c : Nat} {news : List Value} (hl : news.length = m * size) (h1 : ∀ u ∈ news, u.oneCell' = true) (h : ∀ j u, news[j]? = some u → w.cell? (a.add j) = some u) : Fed P w size (.slice (some a) m c) m news :=
  ⟨hl, h1, fun W => by simp [Builtin.lenOf], fun W hW => run_firstCells_some W size m a m c news hl fun j u hu => (cell_heap hW _).trans (h j u hu)⟩
theorem Fed.nil {P : Program} {w : World} {size : Nat} : Fed P w size (.slice none 0 0) 0 [] :=
  ⟨by simp, by simp, fun W => by simp [Builtin.lenOf], fun W hW => run_firstCells_none W size 0 0 0⟩
theorem Fed.text {P : Program} {w : World} (s : ByteArray) : Fed P w 1 (.string s) s.size (Lib.strCells s) :=
  ⟨by simp [Lib.strCells], Lib.strCells_oneCell s, fun W => by simp [Builtin.lenOf], fun W hW => Lib.run_firstCells_string W 1 s⟩
theorem Fed.block {P : Program} {w : World} {X m c size : Nat} {cs : List Value} {t : TypeId} {fz : Nat × Nat} (h : w.heap[X]? = some (.cells cs.toArray t fz)) (hl : cs.length = m * size) (h1 : ∀ u ∈ cs, u.oneCell' = true) : Fed P w size (.slice (some ⟨X, 0, none⟩) m c) m cs :=
  Fed.cells hl h1 fun j x hx => by rw [addr_plain, Nat.zero_add, cell_of_row w X j _ t fz h]; simpa using hx
theorem Fed.own {P : Program} {w : World} {B : Nat} {e : TypeId} {size : Nat} {v : Value} {n : Nat} {xs : List Value} (h : OwnG w B e size v n xs) (h1 : ∀ u ∈ xs, u.oneCell' = true) : Fed P w size v n xs := by
  rcases h.2 with ⟨rfl, rfl⟩ | ⟨g, cap, cur, fz, rfl, r⟩
  · have : xs = [] := List.eq_nil_of_length_eq_zero (by rw [h.1]; simp)
    subst this
    exact Fed.nil
  · exact Fed.cells h.1 h1 fun j u hu => by rw [addr_plain, Nat.zero_add]; exact h.cells j u hu
theorem Fed.heap {P : Program} {w w' : World} {size : Nat} {x : Value} {m : Nat} {news : List Value} (h : Fed P w size x m news) (e : w'.heap = w.heap) : Fed P w' size x m news :=
  ⟨h.1, h.2.1, h.2.2.1, fun W hW => h.2.2.2 W (hW.trans e)⟩

/-- Cells laid side by side where none is frozen. -/
theorem run_lay (P : Program) (g o : Nat) (t : TypeId) (fz : Nat × Nat) : ∀ (vs : List Value) (i : Nat) (cur : Array Value) (w : World), w.heap[g]? = some (.cells cur t fz) → (∀ k, k < cur.size → ¬ (fz.1 ≤ k ∧ k < fz.2)) → o + i + vs.length ≤ cur.size → (∀ v ∈ vs, v.oneCell' = true) →
    (storeCells ⟨g, o, none⟩ vs i).run P w = .ok () (w.setRow g (cur.toList.take (o + i) ++ vs ++ cur.toList.drop (o + i + vs.length)).toArray) := by
  intro vs
  induction vs with
  | nil =>
    intro i cur w hg _ _ _
    have : (cur.toList.take (o + i) ++ [] ++ cur.toList.drop (o + i + ([] : List Value).length)).toArray = cur := by simp
    rw [this, setRow_self w g cur t fz hg]
    rfl
  | cons v rest ih =>
    intro i cur w hg hfz hl h1
    rw [List.length_cons] at hl
    have hi : o + i < cur.size := by omega
    have hfro : w.frozen? ⟨g, o + i, none⟩ = false := by
      have := hfz _ hi
      obtain ⟨lo, hi'⟩ := fz
      simp only [World.frozen?, hg]
      simpa using this
    have hcell : w.cell? ⟨g, o + i, none⟩ = some cur[o + i] := by rw [cell_of_row w g _ cur t fz hg]; exact Array.getElem?_eq_getElem hi
    have hst : (store ((⟨g, o, none⟩ : Addr).add i) v).run P w = .ok () (w.setRow g (cur.setIfInBounds (o + i) v)) := by
      rw [addr_plain, run_store P w _ v _ (h1 v (by simp)), hcell]
      simp [hfro, setCell_eq_setRow w g (o + i) cur t fz v hg]
    have hr := ih (i + 1) (cur.setIfInBounds (o + i) v) (w.setRow g (cur.setIfInBounds (o + i) v)) (setRow_heap w g cur _ t _ hg) (by simpa using hfz) (by simp; omega) (fun x hx => h1 x (by simp [hx]))
    simp only [storeCells, Sem.run_bind, hst, Result.andThen_ok, hr, setRow_setRow]
    have e := list_seg_step cur.toList (o + i) v rest (by simp; omega)
    congr 3
    simpa [Array.toList_setIfInBounds, Nat.add_assoc] using e

section
variable {P : Program} (w : World)
/-- Append, whatever it is fed with. -/
theorem run_append_fed (B : Nat) (t u ty e : TypeId) (i : TypeInfo) (z : Value) (size bytes : Nat) (ht : P.underlying t = some (.slice e)) (hu : P.underlying u = some .string ∨ ∃ e', P.underlying u = some (.slice e')) (hi : P.info? e = some i) (hz : i.zero = some z)
    (hsize : i.size = size) (hby : i.bytes = bytes) (hzs : z.cells.size = size) (v : Value) (n : Nat) (xs : List Value) (hown : OwnG w B e size v n xs) (x : Value) (m : Nat) (news : List Value) (hx : Fed P w size x m news)
    (h63 : n + m ≤ maxLen) (hbytes : (n + m) * bytes ≤ 140737488355328) (hbase : B ≤ w.heap.size) :
    ∃ v' w', (Builtin.append_ #[t, u] ty #[v, x]).run P w = .ok v' w' ∧ OwnG w' B e size v' (n + m) (xs ++ news) ∧ w.grownBy w' v.ownBlock ∧
      (∀ g cap, v = .slice (some ⟨g, 0, none⟩) n cap → ∀ j, j < n * size → w'.cell? ⟨g, j, none⟩ = w.cell? ⟨g, j, none⟩) := by
  subst hsize
  subst hby
  obtain ⟨hl, h1, hlen, hfirst⟩ := hx
  have hf := hfirst w rfl
  have hfd := hfirst w.drew rfl
  have hlx : (xs ++ news).length = (n + m) * i.size := by rw [List.length_append, hown.1, hl, Nat.add_mul]
  have hsmall : n + m ≤ 9223372036854775807 := by simp only [maxLen] at h63; omega
  have grown : ∀ (old : Nat) (row : Option Nat), OwnG (w.drew.alloc (.cells (xs.toArray ++ news.toArray ++ Builtin.zeroCells z.cells (grownCap w (n + m) old e - (n + m))) e)) B e i.size (.slice (some ⟨w.heap.size, 0, none⟩) (n + m) (grownCap w (n + m) old e)) (n + m) (xs ++ news) ∧
      w.grownBy (w.drew.alloc (.cells (xs.toArray ++ news.toArray ++ Builtin.zeroCells z.cells (grownCap w (n + m) old e - (n + m))) e)) row := by
    intro old row
    have hge := grownCap_ge w (n + m) old e
    have hcm := grownCap_le_maxLen w (n + m) old e h63
    refine ⟨⟨hlx, .inr ⟨w.heap.size, _, _, (0, 0), rfl, hbase, heap_alloc_new w.drew _, hge, hcm, ?_, ?_, fun k _ => by simp⟩⟩, ⟨rfl, rfl, rfl, by simp, fun k hk _ => heap_alloc_old w.drew _ hk⟩⟩
    · simp only [Array.size_append, List.size_toArray, size_zeroCells, hzs, hown.1, hl, ← Nat.add_mul]
      congr 1
      omega
    · simp only [Array.toList_append, List.append_assoc]
      rw [← List.append_assoc, ← hlx]
      exact List.take_left
  have h63' : ¬ (9223372036854775807 < ((n : Int) + (m : Int))) := by omega
  rcases hown.2 with ⟨rfl, rfl⟩ | ⟨g, cap, cur, fz, rfl, hbg, hg, hnc, hcm, hcs, htake, hfz⟩
  · have hxs : xs = [] := List.eq_nil_of_length_eq_zero (by rw [hown.1]; simp)
    subst hxs
    by_cases hm : m = 0
    · subst hm
      have hn : news = [] := List.eq_nil_of_length_eq_zero (by rw [hl]; simp)
      subst hn
      refine ⟨.slice none 0 0, w, ?_, OwnG.nil _ _ _ _, World.grownBy.refl w _, fun g cap h => by cases h⟩
      rcases hu with hu | ⟨e', hu⟩ <;> simp [Builtin.append_, run_underlying ht, run_underlying hu, sizeOf, typeInfo, hi, hlen, hf]
    · have h48 : ¬ (281474976710656 < Builtin.nextslicecap m 0 * i.bytes) := by rw [nextslicecap_zero (by omega)]; simp at hbytes; omega
      have h63m : ¬ (9223372036854775807 < (m : Int)) := by omega
      have hg := grown 0 none
      simp only [Nat.zero_add] at hg
      refine ⟨_, _, ?_, by simpa using hg.1, ⟨hg.2.os, hg.2.tape, hg.2.output, hg.2.size, fun k hk _ => hg.2.block k hk (by simp)⟩, fun g cap h => by cases h⟩
      rcases hu with hu | ⟨e', hu⟩ <;> simp [Builtin.append_, run_underlying ht, run_underlying hu, sizeOf, typeInfo, zeroValue, hi, hz, hlen, hm, h63m, h48, Question.forced, run_firstCells_none, hfd, newRow, grownCap]
  · have hglt : g < w.heap.size := (Array.getElem?_eq_some_iff.1 hg).1
    by_cases hroom : n + m ≤ cap
    · have hfit : n * i.size + news.length ≤ cur.size := by rw [hl, hcs, ← Nat.add_mul]; exact Nat.mul_le_mul_right _ hroom
      have hst := run_lay P g (n * i.size) e fz news 0 cur w hg hfz (by simpa using hfit) h1
      simp only [Nat.add_zero] at hst
      refine ⟨.slice (some ⟨g, 0, none⟩) (n + m) cap, w.setRow g (cur.toList.take (n * i.size) ++ news ++ cur.toList.drop (n * i.size + news.length)).toArray, ?_, ⟨hlx, .inr ⟨g, cap, _, fz, rfl, hbg, setRow_heap w g cur _ e _ hg, hroom, hcm, ?_, ?_, ?_⟩⟩,
        ⟨rfl, rfl, rfl, by simp, fun k _ hk => setRow_other w g k _ (fun e => hk (by simp [Value.ownBlock, e]))⟩, ?_⟩
      · rcases hu with hu | ⟨e', hu⟩ <;> simp [Builtin.append_, run_underlying ht, run_underlying hu, sizeOf, typeInfo, hi, hlen, hroom, hf, Addr.add_lit, hst]
      · simp only [List.size_toArray, List.length_append, List.length_take, List.length_drop, Array.length_toList]
        omega
      · rw [htake, ← hlx]
        exact List.take_left
      · intro k hk
        refine hfz k ?_
        simp only [List.size_toArray, List.length_append, List.length_take, List.length_drop, Array.length_toList] at hk
        omega
      · intro g' cap' hv j hj
        cases hv
        have hjc : j < cur.toList.length := by simp; omega
        rw [cell_of_row _ g j _ e fz (setRow_heap w g cur _ e _ hg), cell_of_row w g j cur e fz hg, List.getElem?_toArray, List.append_assoc, List.getElem?_append_left (by rw [List.length_take]; omega), List.getElem?_take, if_pos hj]
        simp
    · have holds : ∀ j u, xs[j]? = some u → w.cell? ((⟨g, 0, none⟩ : Addr).add j) = some u := fun j u hu => by rw [addr_plain, Nat.zero_add]; exact hown.cells j u hu
      have hfo := run_firstCells_some (P := P) w.drew i.size n ⟨g, 0, none⟩ n cap xs hown.1 (by simpa using holds)
      have h48 : ¬ (281474976710656 < Builtin.nextslicecap (n + m) cap * i.bytes) := by have := growslice_fits (need := n + m) (old := cap) (bytes := i.bytes) (by omega) hbytes; omega
      have hgr := grown cap (some g)
      refine ⟨_, _, ?_, hgr.1, hgr.2, ?_⟩
      · rcases hu with hu | ⟨e', hu⟩
        all_goals
          simp [Builtin.append_, run_underlying ht, run_underlying hu, sizeOf, typeInfo, zeroValue, hi, hz, hlen, hroom, h63', h48, Question.forced, hfd, hfo, newRow, grownCap]
          congr 2
          apply Array.ext'
          simp [List.append_assoc]
      · intro g' cap' hv j hj
        cases hv
        exact World.cell?_of_block (heap_alloc_old w.drew _ hglt)

/-- The same, as an operation of the walk. -/
theorem wpList_append_fed {ops : Array Oper} {rest : List Oper} {o : Oper} {a : Act} {Q : Exit → Act → World → Prop} (hgd : o.guard = none) (sl x : Operand) (t u : TypeId)
    (ho : o.op = .call { callee := .builtin .append, args := #[sl, x], argTypes := #[t, u] })
    (B : Nat) (e : TypeId) (i : TypeInfo) (z : Value) (size bytes : Nat) (ht : P.underlying t = some (.slice e)) (hu : P.underlying u = some .string ∨ ∃ e', P.underlying u = some (.slice e')) (hi : P.info? e = some i) (hz : i.zero = some z)
    (hsize : i.size = size) (hby : i.bytes = bytes) (hzs : z.cells.size = size) (v : Value) (n : Nat) (xs : List Value) (hs : a.eval sl = v) (hown : OwnG w B e size v n xs) (vx : Value) (m : Nat) (news : List Value) (hxe : a.eval x = vx) (hx : Fed P w size vx m news)
    (h63 : n + m ≤ maxLen) (hbytes : (n + m) * bytes ≤ 140737488355328) (hbase : B ≤ w.heap.size)
    (h : ∀ v' w', OwnG w' B e size v' (n + m) (xs ++ news) → w.grownBy w' v.ownBlock → wpList P ops Q rest (a.put o.dst v') w') : wpList P ops Q (o :: rest) a w := by
  refine wpList_plain hgd fun K hK => ?_
  obtain ⟨v', w', hr, h2, h3, _⟩ := run_append_fed (P := P) w B t u o.type e i z size bytes ht hu hi hz hsize hby hzs v n xs hown vx m news hx h63 hbytes hbase
  unfold Oper.wp execOp
  simp only [ho, resolve, invoke, builtin, Sem.run_bind, Sem.run_pure, Result.andThen_ok, List.map_toArray, List.map_cons, List.map_nil, hs, hxe, hr]
  exact hK _ _ (h v' w' h2 h3)
/-- The same, as a step of a region that draws its order. -/
theorem step_append_fed {ops : Array Oper} {o : Oper} {a : Act} {K : Act → World → Prop} {Q : Exit → Act → World → Prop} {E : Prop} (hgd : o.guard = none) (s x : Operand) (t u : TypeId)
    (ho : o.op = .call { callee := .builtin .append, args := #[s, x], argTypes := #[t, u] })
    (w0 : World) (e : TypeId) (i : TypeInfo) (z : Value) (size bytes : Nat) (ht : P.underlying t = some (.slice e)) (hu : P.underlying u = some .string ∨ ∃ e', P.underlying u = some (.slice e')) (hi : P.info? e = some i) (hz : i.zero = some z)
    (hsize : i.size = size) (hby : i.bytes = bytes) (hzs : z.cells.size = size) (v : Value) (n : Nat) (xs : List Value) (hs : a.eval s = v) (hown : OwnG w w0.heap.size e size v n xs)
    (vx : Value) (m : Nat) (news : List Value) (hxe : a.eval x = vx) (hx : Fed P w size vx m news) (h63 : n + m ≤ maxLen) (hbytes : (n + m) * bytes ≤ 140737488355328) (hb0 : Below w0.heap.size w0 w)
    (h : ∀ v' w', OwnG w' w0.heap.size e size v' (n + m) (xs ++ news) → w.grownBy w' v.ownBlock → Below w0.heap.size w0 w' → K (a.put o.dst v') w') :
    if Region.wanted o (yielded ops a.tmps) = true then Oper.wp P o a w K Q else E := by
  have hw : Region.wanted o (yielded ops a.tmps) = true := by simp [Region.wanted, hgd]
  rw [if_pos hw]
  obtain ⟨v', w', hr, h2, h3, _⟩ := run_append_fed (P := P) w w0.heap.size t u o.type e i z size bytes ht hu hi hz hsize hby hzs v n xs hown vx m news hx h63 hbytes hb0.size
  unfold Oper.wp execOp
  simp only [ho, resolve, invoke, builtin, Sem.run_bind, Sem.run_pure, Result.andThen_ok, List.map_toArray, List.map_cons, List.map_nil, hs, hxe, hr]
  exact h v' w' h2 h3 (hb0.grown h3 hb0.size fun k hk => (hown.lt k hk).1)
end
end Go.Proofs.Ytondgdacjbfihaa
