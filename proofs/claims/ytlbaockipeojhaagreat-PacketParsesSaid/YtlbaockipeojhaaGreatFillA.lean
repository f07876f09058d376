/-
  A packet is filled: a contract.
-/
import Derived.Test.YtlbaockipeojhaaGreatCopy
import Derived.Test.YtlbaockipeojhaaGreatHd
import Derived.Test.YtlbaockipeojhaaGreatPkB
import Derived.Test.YtlbaockipeojhaaGreatCkBuild
import Derived.Laws.ResultCell
import Derived.BigRegion
namespace Go.Proofs.YtlbaockipeojhaaGreat
open Go.RowKit
set_option linter.unusedVariables false
set_option linter.unusedSimpArgs false
set_option maxRecDepth 100000

theorem pk_one (f t g : Nat) (A : Option Addr) (n k : Nat) : (#[.int .u16 (f : Int), .int .u16 (t : Int), .int .u32 (g : Int), .slice A n k] : Array Value).all (·.oneCell') = true := by simp [Value.oneCell']
theorem infoCk8 : (Tryz.prog.info? 52).map (fun i => (i.zero, i.size, i.bytes)) = some (some (.agg #[.int .i64 0, .int .i64 0, .int .u32 0, .int .u32 0, .int .u32 0, .int .u32 0, .int .u16 0, .int .u16 0, .int .u16 0, .int .u16 0, .slice none 0 0, .slice none 0 0, .slice none 0 0, .string ⟨#[]⟩]), 14, 128) := by kernel_rfl
/-- A packet with room: the empty one, the one to be handed back, the one that is filled, and its chunks. -/
structure FlS (n0 f t g : Nat) (V0 : Value) (w : World) (acc : List Cv) (U : Value) (W : World) : Prop where
  own : W.heap[n0]? = some (.cells (cellsP f t g V0) 26 (0, 0))
  out : W.heap[n0 + 1]? = some (.cells (cellsP 0 0 0 (.slice none 0 0)) 26 (0, 0))
  pk : W.heap[n0 + 2]? = some (.cells (cellsP f t g U) 26 (0, 0))
  row : OwnG W (n0 + 3) 52 14 U acc.length (flatK acc)
  parts : ∀ x ∈ acc, PartsF (n0 + 3) W x.c x.g x.d x.it
  below : Below n0 w W
  since : n0 + 3 ≤ W.heap.size
theorem FlS.later {n0 f t g : Nat} {V0 : Value} {w W W' : World} {acc : List Cv} {U : Value} (h : FlS n0 f t g V0 w acc U W) (hb : Below W.heap.size W W') : FlS n0 f t g V0 w acc U W' := by
  have hs := h.since
  exact ⟨(hb.block _ (by omega)).trans h.own, (hb.block _ (by omega)).trans h.out, (hb.block _ (by omega)).trans h.pk, h.row.later hb, fun x hx => (h.parts x hx).later hb, h.below.trans (hb.mono (by omega)), Nat.le_trans hs hb.size⟩
theorem FlS.drew {n0 f t g : Nat} {V0 : Value} {w W : World} {acc : List Cv} {U : Value} (h : FlS n0 f t g V0 w acc U W) : FlS n0 f t g V0 w acc U W.drew := h.later (Below.refl _ _).drew
theorem FlS.rk {n0 f t g : Nat} {V0 : Value} {w W : World} {acc : List Cv} {U : Value} (h : FlS n0 f t g V0 w acc U W) : Rk W U acc := ⟨rowK_of_own h.row, fun x hx => (h.parts x hx).now⟩
theorem FlS.e {n0 f t g : Nat} {V0 : Value} {w W : World} {acc : List Cv} {U : Value} (h : FlS n0 f t g V0 w acc U W) : W.cell? ⟨n0, 0, none⟩ = some (.int .u16 (f : Int)) ∧ W.cell? ⟨n0, 1, none⟩ = some (.int .u16 (t : Int)) ∧ W.cell? ⟨n0, 2, none⟩ = some (.int .u32 (g : Int)) ∧ W.cell? ⟨n0, 3, none⟩ = some V0 := by
  refine ⟨?_, ?_, ?_, ?_⟩ <;> (rw [cell_in h.own]; rfl)
theorem FlS.p {n0 f t g : Nat} {V0 : Value} {w W : World} {acc : List Cv} {U : Value} (h : FlS n0 f t g V0 w acc U W) : W.cell? ⟨n0 + 2, 0, none⟩ = some (.int .u16 (f : Int)) ∧ W.cell? ⟨n0 + 2, 1, none⟩ = some (.int .u16 (t : Int)) ∧ W.cell? ⟨n0 + 2, 2, none⟩ = some (.int .u32 (g : Int)) ∧ W.cell? ⟨n0 + 2, 3, none⟩ = some U := by
  refine ⟨?_, ?_, ?_, ?_⟩ <;> (rw [cell_in h.pk]; rfl)
theorem results_pk1 {P : Program} {fn : Func} {p u : Tmp} {ty : TypeId} (h : fn.results = #[.cell p ty, .tmp u]) (tmps : Array Value) (w : World) (g : Nat) (t : TypeId) (cs : Array Value) (fr : Nat × Nat) (d : TypeDesc)
    (hp : tmps.getD p undef = .pointer (some ⟨g, 0, none⟩)) (hg : w.heap[g]? = some (.cells cs t fr))
    (hu : P.underlying ty = some d) (hd : (match d with | .struct _ | .array _ _ => true | _ => false) = true) (hi : (P.info? ty).map (·.size) = some cs.size) :
    (results fn tmps).run P w = .ok (.tuple #[.agg cs, tmps.getD u undef]) w := by
  have hp' : tmps[p]?.getD undef = .pointer (some ⟨g, 0, none⟩) := by simpa using hp
  simp [results, h, hp', asAddr, run_loadVar_row w g t ty cs fr d hg hu hd hi]
/-- A row of chunks, with all that they lead to, in blocks from B on that are no packets. -/
def RkF (B : Nat) (W : World) (v : Value) (l : List Cv) : Prop :=
  ∀ W' : World, (∀ j cs e fz, B ≤ j → W.heap[j]? = some (.cells cs e fz) → e ≠ 26 → W'.heap[j]? = W.heap[j]?) → Rk W' v l
theorem RkF.now {B : Nat} {W : World} {v : Value} {l : List Cv} (h : RkF B W v l) : Rk W v l := h W fun _ _ _ _ _ _ _ => rfl
theorem RkF.keep {B : Nat} {W W' : World} {v : Value} {l : List Cv} (h : RkF B W v l) (hk : ∀ j cs e fz, B ≤ j → W.heap[j]? = some (.cells cs e fz) → e ≠ 26 → W'.heap[j]? = W.heap[j]?) : RkF B W' v l :=
  fun W'' h2 => h W'' fun j cs e fz hB hj he => by
    have e1 := hk j cs e fz hB hj he
    rw [h2 j cs e fz hB (e1.trans hj) he, e1]
theorem RkF.later {B : Nat} {W W' : World} {v : Value} {l : List Cv} (h : RkF B W v l) (hb : Below W.heap.size W W') : RkF B W' v l :=
  h.keep fun j cs e fz _ hj _ => hb.block j (Array.getElem?_eq_some_iff.1 hj).1
theorem RkF.base {B B' : Nat} {W : World} {v : Value} {l : List Cv} (h : RkF B' W v l) (hB : B ≤ B') : RkF B W v l :=
  fun W' hk => h W' fun j cs e fz h1 h2 h3 => hk j cs e fz (by omega) h2 h3
theorem FlS.gone {n0 f t g : Nat} {V0 : Value} {w W : World} {acc : List Cv} {U : Value} (h : FlS n0 f t g V0 w acc U W) (cs : Array Value) : RkF (n0 + 3) (W.setRow (n0 + 1) cs) U acc := by
  intro W' hW
  have e8 : ∀ j, n0 + 3 ≤ j → (W.setRow (n0 + 1) cs).heap[j]? = W.heap[j]? := fun j hj => setRow_other _ _ _ _ (by omega)
  have hk : ∀ j cs e fz, n0 + 3 ≤ j → W.heap[j]? = some (.cells cs e fz) → e ≠ 26 → W'.heap[j]? = W.heap[j]? := fun j cs e fz hj hc he => by
    rw [hW j cs e fz hj ((e8 j hj).trans hc) he, e8 j hj]
  refine ⟨rowK_of_own (h.row.keep fun k hkk => ?_), fun x hx => ((h.parts x hx).keep fun j cs e fz hj hc he => hk j cs e fz hj hc he.2).now⟩
  rcases h.row.2 with ⟨hv, _⟩ | ⟨g', cap, cur, fz', hv, hB, hh, _⟩
  · rw [hv] at hkk; cases hkk
  · rw [hv] at hkk
    cases hkk
    exact hk _ _ _ _ hB hh (by decide)
/-- While a copy is put in. -/
structure FlR (n0 f t g : Nat) (w : World) (U : Value) (bc : Nat) (CL : List Value) (W : World) : Prop where
  pk : W.heap[n0 + 2]? = some (.cells (cellsP f t g U) 26 (0, 0))
  ck : W.heap[bc]? = some (.cells CL.toArray 52 (0, 0))
  below : Below n0 w W
theorem FlR.later {n0 f t g : Nat} {w W W' : World} {U : Value} {bc : Nat} {CL : List Value} (h : FlR n0 f t g w U bc CL W) (hb : Below W.heap.size W W') : FlR n0 f t g w U bc CL W' := by
  have hs := (Array.getElem?_eq_some_iff.1 h.pk).1
  exact ⟨(hb.block _ hs).trans h.pk, (hb.block _ (Array.getElem?_eq_some_iff.1 h.ck).1).trans h.ck, h.below.trans (hb.mono (by omega))⟩
theorem FlR.range {n0 f t g : Nat} {w W : World} {U : Value} {bc : Nat} {CL : List Value} (h : FlR n0 f t g w U bc CL W) : W.rangeAt bc 0 CL := by
  intro j v hj
  rw [Nat.zero_add, cell_in h.ck]
  simpa using hj
theorem FlR.p3 {n0 f t g : Nat} {w W : World} {U : Value} {bc : Nat} {CL : List Value} (h : FlR n0 f t g w U bc CL W) : W.cell? ⟨n0 + 2, 3, none⟩ = some U := by rw [cell_in h.pk]; rfl
/-- .. and the chunk that is looked at. -/
structure FlC (n0 f t g : Nat) (V0 : Value) (w : World) (acc : List Cv) (U : Value) (bc : Nat) (CL : List Value) (x : Cv) (W : World) : Prop where
  base : FlS n0 f t g V0 w acc U W
  ck : W.heap[bc]? = some (.cells CL.toArray 52 (0, 0))
  parts : Parts W x.c x.g x.d x.it
  far : n0 + 3 ≤ bc
theorem FlC.later {n0 f t g : Nat} {V0 : Value} {w W W' : World} {acc : List Cv} {U : Value} {bc : Nat} {CL : List Value} {x : Cv} (h : FlC n0 f t g V0 w acc U bc CL x W) (hb : Below W.heap.size W W') : FlC n0 f t g V0 w acc U bc CL x W' :=
  ⟨h.base.later hb, (hb.block _ (Array.getElem?_eq_some_iff.1 h.ck).1).trans h.ck, h.parts.below hb, h.far⟩
theorem FlC.drew {n0 f t g : Nat} {V0 : Value} {w W : World} {acc : List Cv} {U : Value} {bc : Nat} {CL : List Value} {x : Cv} (h : FlC n0 f t g V0 w acc U bc CL x W) : FlC n0 f t g V0 w acc U bc CL x W.drew := h.later (Below.refl _ _).drew
theorem FlC.range {n0 f t g : Nat} {V0 : Value} {w W : World} {acc : List Cv} {U : Value} {bc : Nat} {CL : List Value} {x : Cv} (h : FlC n0 f t g V0 w acc U bc CL x W) : W.rangeAt bc 0 CL := by
  intro j v hj
  rw [Nat.zero_add, cell_in h.ck]
  simpa using hj
theorem flS_new (f t g : Nat) (V0 : Value) (w : World) (h : V0 = .slice none 0 0) : FlS w.heap.size f t g V0 w [] V0 (((w.alloc (.cells (cellsP f t g V0) 26)).alloc (.cells (cellsP 0 0 0 (.slice none 0 0)) 26)).alloc (.cells (cellsP f t g V0) 26)) := by
  subst h
  have key : ∀ (X : World) (o : Obj) (n : Nat), X.heap.size = n → (X.alloc o).heap[n]? = some o ∧ (X.alloc o).heap.size = n + 1 ∧ ∀ j, j < n → (X.alloc o).heap[j]? = X.heap[j]? := by
    intro X o n hn
    subst hn
    exact ⟨heap_alloc_new X o, World.size_alloc _ _, fun j hj => Below.heap_alloc _ _ _ hj⟩
  obtain ⟨a1, a2, a3⟩ := key w (.cells (cellsP f t g (.slice none 0 0)) 26) _ rfl
  obtain ⟨b1, b2, b3⟩ := key (w.alloc (.cells (cellsP f t g (.slice none 0 0)) 26)) (.cells (cellsP 0 0 0 (.slice none 0 0)) 26) _ a2
  obtain ⟨c1, c2, c3⟩ := key ((w.alloc (.cells (cellsP f t g (.slice none 0 0)) 26)).alloc (.cells (cellsP 0 0 0 (.slice none 0 0)) 26)) (.cells (cellsP f t g (.slice none 0 0)) 26) _ b2
  refine ⟨?_, ?_, c1, ?_, by simp, (((Below.refl _ _).alloc (Nat.le_refl _) _).alloc (by omega) _).alloc (by omega) _, by omega⟩
  · rw [c3 _ (by omega), b3 _ (by omega), a1]
  · rw [c3 _ (by omega), b1]
  · exact OwnG.nil _ _ _ _
theorem fillF_none {f t g : Nat} {most : Int} {l : List Cv} {k : Nat} (h : k < l.length) (acc : List Ck) (sz dn : Nat) (hn : noneB f t g most l[k].c = true) : fillF f t g most acc ((ckV l).drop k) sz dn = fillF f t g most acc ((ckV l).drop (k + 1)) sz (dn + 1) := by
  have hk : k < (ckV l).length := by simpa [ckV] using h
  have e : (ckV l)[k] = l[k].c := by simp [ckV]
  rw [List.drop_eq_getElem_cons hk, e]
  conv => lhs; unfold fillF
  rw [if_pos hn]
theorem fillF_full {f t g : Nat} {most : Int} {l : List Cv} {k : Nat} (h : k < l.length) (acc : List Ck) (sz dn : Nat) (hn : noneB f t g most l[k].c = false) (hf : fullB f t g most acc sz l[k].c = true) : fillF f t g most acc ((ckV l).drop k) sz dn = (acc, dn) := by
  have hk : k < (ckV l).length := by simpa [ckV] using h
  have e : (ckV l)[k] = l[k].c := by simp [ckV]
  rw [List.drop_eq_getElem_cons hk, e]
  conv => lhs; unfold fillF
  rw [if_neg (by rw [hn]; decide), if_pos hf]
theorem fillF_more {f t g : Nat} {most : Int} {l : List Cv} {k : Nat} (h : k < l.length) (acc : List Ck) (sz dn : Nat) (hn : noneB f t g most l[k].c = false) (hf : fullB f t g most acc sz l[k].c = false) : fillF f t g most acc ((ckV l).drop k) sz dn = fillF f t g most (acc ++ [l[k].c]) ((ckV l).drop (k + 1)) (sz + (buildC l[k].c).1.size) (dn + 1) := by
  have hk : k < (ckV l).length := by simpa [ckV] using h
  have e : (ckV l)[k] = l[k].c := by simp [ckV]
  rw [List.drop_eq_getElem_cons hk, e]
  conv => lhs; unfold fillF
  rw [if_neg (by rw [hn]; decide), if_neg (by rw [hf]; decide)]
theorem fillF_end {f t g : Nat} {most : Int} (l : List Cv) (acc : List Ck) (sz dn : Nat) : fillF f t g most acc ((ckV l).drop l.length) sz dn = (acc, dn) := by
  rw [List.drop_of_length_le (by simp [ckV])]
  rfl
theorem FlC.grown {n0 f t g : Nat} {V0 : Value} {w W W6 W7 : World} {acc : List Cv} {U : Value} {bc : Nat} {CL : List Value} {x : Cv} (h : FlC n0 f t g V0 w acc U bc CL x W) (hU : ∀ k, U.ownBlock = some k → k < bc) (hb : Below W.heap.size W W6) (hg : W6.grownBy W7 U.ownBlock) : FlR n0 f t g w U bc CL W7 := by
  have h6 := h.later hb
  have hs := h6.base.since
  have hlt : ∀ k, U.ownBlock = some k → n0 + 3 ≤ k := fun k hk => (h6.base.row.lt k hk).1
  have hbc := (Array.getElem?_eq_some_iff.1 h6.ck).1
  refine ⟨?_, ?_, ?_⟩
  · rw [hg.block _ (by omega) (fun e => by have := hlt _ e.symm; omega)]
    exact h6.base.pk
  · rw [hg.block _ hbc (fun e => by have := hU _ e.symm; omega)]
    exact h6.ck
  · exact h6.base.below.grown hg (by omega) fun k hk => by have := hlt k hk; omega
theorem ck_ones (c : Ck) (A B C : Option Addr) (i j k : Nat) : ∀ u ∈ [.int .i64 c.type, .int .i64 c.flags, .int .u32 (c.tsn : Int), .int .u32 (c.tag : Int), .int .u32 (c.window : Int), .int .u32 (c.ppid : Int), .int .u16 (c.stream : Int), .int .u16 (c.ssn : Int), .int .u16 (c.outs : Int), .int .u16 (c.ins : Int), .slice A c.gaps.length i, .slice B c.dups.length j, .slice C c.items.length k, .string c.text], Value.oneCell' u = true := by
  intro u hu
  simp only [List.mem_cons, List.not_mem_nil, or_false] at hu
  rcases hu with rfl | rfl | rfl | rfl | rfl | rfl | rfl | rfl | rfl | rfl | rfl | rfl | rfl | rfl <;> rfl
/-- A copy is put behind those that there are: the row grows, the packet takes the new slice. -/
theorem FlS.put {n0 f t g : Nat} {V0 : Value} {w W W6 W7 : World} {acc : List Cv} {U v7 : Value} {x : Cv} (h : FlS n0 f t g V0 w acc U W) (hb : Below W.heap.size W W6) (hp : PartsF (n0 + 3) W6 x.c x.g x.d x.it)
    (ho : OwnG W7 (n0 + 3) 52 14 v7 (acc.length + 1) (flatK acc ++ x.cells.toList)) (hg : W6.grownBy W7 U.ownBlock) : FlS n0 f t g V0 w (acc ++ [x]) v7 (W7.setCell ⟨n0 + 2, 3, none⟩ v7) := by
  have h6 := h.later hb
  have hs := h6.since
  have hlt : ∀ k, U.ownBlock = some k → n0 + 3 ≤ k := fun k hk => (h6.row.lt k hk).1
  have e7 : ∀ j, j < n0 + 3 → W7.heap[j]? = W6.heap[j]? := fun j hj => hg.block j (by omega) (fun e => by have := hlt j e.symm; omega)
  have e8 : ∀ j, j ≠ n0 + 2 → (W7.setCell ⟨n0 + 2, 3, none⟩ v7).heap[j]? = W7.heap[j]? := fun j hj => Below.heap_setCell _ _ _ _ hj
  have hkk : ∀ j cs e fz, n0 + 3 ≤ j → W6.heap[j]? = some (.cells cs e fz) → Plain8 e → (W7.setCell ⟨n0 + 2, 3, none⟩ v7).heap[j]? = W6.heap[j]? := fun j cs e fz hj hc he => by
    rw [e8 j (by omega)]
    refine hg.block j (Array.getElem?_eq_some_iff.1 hc).1 fun e' => ?_
    rcases h6.row.2 with ⟨hv, _⟩ | ⟨g', cap, cur, fz', hv, _, hh, _⟩
    · rw [hv] at e'; cases e'
    · rw [hv] at e'
      cases e'
      rw [hh] at hc
      cases hc
      exact he.1 rfl
  refine ⟨?_, ?_, ?_, ?_, ?_, ?_, ?_⟩
  · rw [e8 _ (by omega), e7 _ (by omega), h6.own]
  · rw [e8 _ (by omega), e7 _ (by omega), h6.out]
  · have := row_set ((e7 (n0 + 2) (by omega)).trans h6.pk) 3 v7
    simpa using this
  · rw [List.length_append, flatK_append, flatK_one]
    exact ho.keep fun k hk => e8 k (by have := (ho.lt k hk).1; omega)
  · intro y hy
    rcases List.mem_append.1 hy with hy | hy
    · exact (h6.parts y hy).keep hkk
    · obtain rfl := List.mem_singleton.1 hy
      exact hp.keep hkk
  · exact (h6.below.grown hg (by omega) fun k hk => by have := hlt k hk; omega).setCell (by show n0 ≤ n0 + 2; omega) _
  · have := hg.size
    simp [World.setCell]
    omega
end Go.Proofs.YtlbaockipeojhaaGreat
