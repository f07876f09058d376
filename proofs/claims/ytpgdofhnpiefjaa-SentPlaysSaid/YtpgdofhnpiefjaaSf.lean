/-
  Package sent: a piece that is sent again: contract.
-/
import Derived.Test.YtpgdofhnpiefjaaSe
namespace Go.Proofs.Ytpgdofhnpiefjaa
open Go.RowKit
set_option linter.unusedVariables false
set_option linter.unusedSimpArgs false
set_option maxRecDepth 100000

section
variable {P : Program} {ops : Array Oper} {rest : List Oper} {op : Oper} {a : Act} {w : World} {Q : Exit → Act → World → Prop} {g cap n : Nat} {T : TypeId} {l : List Pc}
/-- A field of piece i is stored, which has been turned already. -/
theorem stI {ty : TypeId} {x y : Operand} {u : Pc} (i k : Nat) (v : Value) (z : Pc) (hgd : op.guard = none) (ho : op.op = .store ty x y) (hx : a.eval x = .pointer (some ⟨g, i * 7 + k, none⟩)) (hy : a.eval y = v) (h : OwnS w g T cap n (l.set i u)) (hi : i < n) (hk : k < 7) (hz : (P.info? ty).map (·.size) = some 1) (h1 : v.oneCell' = true)
    (he : (cellsPc u).setIfInBounds k v = cellsPc z) (hK : ∀ W', OwnS W' g T cap n (l.set i z) → w.grownBy W' (some g) → wpList P ops Q rest (a.put op.dst undef) W') : wpList P ops Q (op :: rest) a w := by
  have hl : i < l.length := by have := h.len; rw [List.length_set] at this; omega
  refine stS i k v z hgd ho hx hy h hi hk hz h1 (by rw [List.getElem_set_self]; exact he) (fun W' h1 h2 => hK W' ?_ h2)
  rwa [List.set_set] at h1
end
theorem OwnS.celli {W : World} {g cap n i : Nat} {T : TypeId} {l : List Pc} {x : Pc} (h : OwnS W g T cap n (l.set i x)) (hi : i < n) (k : Nat) (v : Value) (hk : k < 7) (hv : (cellsPc x)[k]? = some v) : W.cell? ⟨g, i * 7 + k, none⟩ = some v := by
  have hl : i < l.length := by have := h.len; rw [List.length_set] at this; omega
  exact h.cellq hi (List.getElem?_set_self hl) k v hk hv
theorem three_open (w : World) (T T' T'' : TypeId) (cs zs ys : Array Value) : ∃ W, ((w.alloc (.cells cs T)).alloc (.cells zs T')).alloc (.cells ys T'') = W ∧ Hid (Bx W w.heap.size T cs) ∧ Hid (Bx W (w.heap.size + 1) T' zs) ∧ Hid (Bx W (w.heap.size + 1 + 1) T'' ys) ∧ Hid (Below w.heap.size w W) ∧ W.heap.size = w.heap.size + 3 := by
  obtain ⟨W2, rfl, H1, H2, HB, hs⟩ := two_open w T T' cs zs
  refine ⟨_, rfl, Lib.hid (H1.out.old _), Lib.hid (H2.out.old _), Lib.hid ?_, Lib.hid (HB.out.alloc (by omega) _), by rw [World.size_alloc, hs]⟩
  have h := Bx.fresh ((w.alloc (.cells cs T)).alloc (.cells zs T')) T'' ys
  rw [hs] at h
  exact h
theorem again_some {t : UInt32} {p now : Int} {l : List Pc} {i : Nat} (h : findL (hitA t) l = some i) (hi : i < l.length) : againL t p now l = (l.set i (againX p now l[i]), true) := by
  unfold againL
  rw [h]
  simp only
  rw [getElem!_pos l i hi]
theorem again_none {t : UInt32} {p now : Int} {l : List Pc} (h : findL (hitA t) l = none) : againL t p now l = (l, false) := by
  unfold againL
  rw [h]
theorem find_lt {f : Pc → Bool} {l : List Pc} {i : Nat} (h : findL f l = some i) : ∃ hi : i < l.length, f l[i] = true := by
  unfold findL at h
  rw [List.findIdx?_eq_some_iff_getElem] at h
  exact ⟨h.1, h.2.1⟩
set_option maxHeartbeats 2000000 in
theorem again_any (c : UInt32) (l : List Pc) (t : UInt32) (p now : Int) (hl : l.length ≤ 1000) (v : Value) (w : World) (h : RowP w v l) :
    Calls Try.prog 12 #[.agg #[.int .u32 (c.toNat : Int), v], .int .u32 (t.toNat : Int), .int .i64 p, .int .i64 now] w fun e w' => ∃ A k, e = .returned (.tuple #[.agg #[.int .u32 (c.toNat : Int), .slice A l.length k], .bool (againL t p now l).2]) ∧ RowP w' (.slice A l.length k) (againL t p now l).1 ∧ Fresh w.heap.size (.slice A l.length k) ∧ Below w.heap.size w w' := by
  obtain ⟨R, hR⟩ : ∃ R, againL t p now l = R := ⟨_, rfl⟩
  rw [hR]
  have HR := Lib.hid hR
  clear hR
  obtain ⟨W, hW, HA, HU, HZ, HB, hs⟩ := three_open w 27 22 27 #[.int .u32 (c.toNat : Int), v] #[.int .u32 (t.toNat : Int)] #[.int .u32 0, .slice none 0 0]
  have HC := Lib.hid (copied_any c l (by omega) v W (h.below HB.out))
  obtain ⟨A, cap, rfl, _, hmx, _⟩ := id h
  have HIX := Lib.hid (fun v W h hg => index_any l hl t (w.heap.size + 1) v W h hg)
  clear h
  go_enter Try.func12, Try.ntmps12
  go_wp2_with (first
    | ((with_reducible refine gate9 ?_); refine ldB rfl rfl rfl HA.out Try.underlying27 rfl infoS ?_))
  refine HC.out.mono ?_
  rintro e w1 ⟨A1, k1, rfl, hown, hb⟩
  replace HZ := Lib.hid (HZ.out.later hb)
  replace HU := Lib.hid (HU.out.later hb)
  replace HB := Lib.hid (HB.out.trans (hb.mono (by omega)))
  have HO := Lib.hid (OwnV.of_own (own_base hown (show w.heap.size + 3 ≤ W.heap.size by omega)))
  have hsw1 : w.heap.size + 3 ≤ w1.heap.size := by have := hb.size; omega
  have HLT := Lib.hid (own_lt hown)
  clear hb hown HC HA hW hs
  obtain ⟨W6, hW6, HZ6, HB6, hs6⟩ := one_open w1 27 #[.int .u32 0, .slice none 0 0]
  obtain ⟨g6, hg6⟩ : ∃ g, w1.heap.size = g := ⟨_, rfl⟩
  rw [hg6] at HZ6 hsw1 hs6 HLT
  replace HO := Lib.hid (HO.out.later HB6.out)
  replace HZ := Lib.hid (HZ.out.later HB6.out)
  replace HU := Lib.hid (HU.out.later HB6.out)
  replace HB := Lib.hid (HB.out.trans (HB6.out.mono HB.out.size))
  clear HB6
  cases hfd : findL (hitA t) l with
  | none =>
    have HIE : Hid (idxP (hitA t) l = -1) := Lib.hid (by unfold idxP; rw [hfd])
    have HAS := Lib.hid (HR.out.symm.trans (again_none (p := p) (now := now) hfd))
    clear hfd
    go_wp2_with (first
      | ((with_reducible refine gate9 ?_); refine stB (ty := 27) #[.int .u32 (c.toNat : Int), .slice A1 l.length k1] rfl rfl rfl rfl HZ6.out infoS rfl (cellsS_one _ _ _ _) ?_; intro w7 ht hg; replace HO := Lib.hid (HO.out.grown hg (fun k e _ => by intro e2; cases e2; have := HLT.out _ e; simp at this)); replace HZ := Lib.hid (HZ.out.kept hg (by omega)); replace HU := Lib.hid (HU.out.kept hg (by omega)); replace HB := Lib.hid (below_of_grown1 HB.out hg HB.out.size (by omega)); replace HZ6 := Lib.hid ht; clear ht hg; have c61 := HZ6.out.cell 1 (.slice A1 l.length k1) rfl)
      | (go_at_call 26; (with_reducible refine (HIX.out _ _ HO.out.row HU.out).mono ?_); rintro e w8 ⟨rfl, hb⟩; rw [HIE.out]; replace HO := Lib.hid (HO.out.later hb); replace HZ := Lib.hid (HZ.out.later hb); replace HZ6 := Lib.hid (HZ6.out.later hb); replace HB := Lib.hid (HB.out.trans (hb.mono HB.out.size)); clear hb c61)
      | ((with_reducible refine gate9 ?_); refine ldB rfl rfl rfl HZ6.out Try.underlying27 rfl infoS ?_)
      | ((with_reducible refine gate9 ?_); refine stB (ty := 27) #[.int .u32 (c.toNat : Int), .slice A1 l.length k1] rfl rfl rfl rfl HZ.out infoS rfl (cellsS_one _ _ _ _) ?_; intro w9 ht hg; replace HO := Lib.hid (HO.out.grown hg (fun k e _ => by intro e2; cases e2; have := HO.out.base _ e; simp at this; try omega)); replace HB := Lib.hid (below_of_grown1 HB.out hg HB.out.size (by omega)); replace HZ := Lib.hid ht; clear ht hg))
    exact bodyPost_ret (retST rfl rfl rfl rfl HZ.out) rfl ⟨A1, k1, by rw [HAS.out]; rfl, by rw [HAS.out]; exact HO.out.row, HO.out.fresh.less (by omega), HB.out⟩
  | some i =>
    have HIE : Hid (idxP (hitA t) l = (i : Int)) := Lib.hid (by unfold idxP; rw [hfd])
    obtain ⟨hil, hhit⟩ := find_lt hfd
    obtain ⟨g, rfl, hgB, hgl, hos⟩ := HO.out.low (by omega)
    have HL0 := Lib.hid (List.set_getElem_self hil)
    have hgg6 : g < g6 := HLT.out _ rfl
    have HS : Hid (OwnS W6 g 58 k1 l.length (l.set i l[i])) := Lib.hid (by rw [HL0.out]; exact hos)
    have HOV := Lib.hid HO.out.row
    have HAS := Lib.hid (again_some (p := p) (now := now) hfd hil)
    have hst : l[i].st = 3 := by have := hhit; simp [hitA] at this; exact this.2
    have q1 : (0 : Int) ≤ (i : Int) := by omega
    have q2 : (i : Int) < (l.length : Int) := by omega
    have q3 : (l.length : Int) ≤ 1000 := by omega
    replace HAS := Lib.hid (HR.out.symm.trans HAS.out)
    clear hfd hhit hos hgl HO
    have HX4 : Hid (againX p now l[i] = ⟨l[i].ts, l[i].sz, 1, l[i].mi, IntKind.i64.wrap (l[i].ti + 1), p, now⟩) := Lib.hid rfl
    rw [HX4.out] at HAS
    clear HX4
    generalize l[i] = x at *
    obtain ⟨ts, sz, st, mi, ti, pa, tm⟩ := x
    simp only at *
    subst hst
    obtain ⟨y, hy⟩ : ∃ y, IntKind.i64.wrap (ti + 1) = y := ⟨_, rfl⟩
    rw [hy] at HAS
    have hy2 : wrap64 (ti + 1) = y := by rw [← hy, IntKind.wrap_i64]; unfold wrap64; rfl
    clear hy
    go_wp2_with (first
      | ((with_reducible refine gate9 ?_); refine stB (ty := 27) #[.int .u32 (c.toNat : Int), .slice (some ⟨g, 0, none⟩) l.length k1] rfl rfl rfl rfl HZ6.out infoS rfl (cellsS_one _ _ _ _) ?_; intro w7 ht hg; replace HS := Lib.hid (HS.out.kept hg (by omega)); replace HOV := Lib.hid (by have h9 := HS.out.row; rw [HL0.out] at h9; exact h9); replace HZ := Lib.hid (HZ.out.kept hg (by omega)); replace HU := Lib.hid (HU.out.kept hg (by omega)); replace HB := Lib.hid (below_of_grown1 HB.out hg HB.out.size (by omega)); replace HZ6 := Lib.hid ht; clear ht hg; have c61 := HZ6.out.cell 1 (.slice (some ⟨g, 0, none⟩) l.length k1) rfl)
      | (go_at_call 26; (with_reducible refine (HIX.out _ _ HOV.out HU.out).mono ?_); rintro e w8 ⟨rfl, hb⟩; rw [HIE.out]; replace HS := Lib.hid (HS.out.later hb); replace HZ := Lib.hid (HZ.out.later hb); replace HZ6 := Lib.hid (HZ6.out.later hb); replace HB := Lib.hid (HB.out.trans (hb.mono HB.out.size)); replace c61 := HZ6.out.cell 1 (.slice (some ⟨g, 0, none⟩) l.length k1) rfl; clear hb)
      | ((with_reducible refine gate9 ?_); refine stI i 2 (.int .i64 1) (⟨ts, sz, 1, mi, ti, pa, tm⟩) rfl rfl rfl rfl HS.out hil (by decide) infoI rfl (by rfl) ?_; intro w9 ht hg; replace HZ := Lib.hid (HZ.out.kept hg (by omega)); replace HZ6 := Lib.hid (HZ6.out.kept hg (by omega)); replace HB := Lib.hid (below_of_grown1 HB.out hg HB.out.size (by omega)); replace HS := Lib.hid ht; clear ht hg)
      | ((with_reducible refine gate9 ?_); refine stI i 5 (.int .i64 p) (⟨ts, sz, 1, mi, ti, p, tm⟩) rfl rfl rfl rfl HS.out hil (by decide) infoI rfl (by rfl) ?_; intro w9 ht hg; replace HZ := Lib.hid (HZ.out.kept hg (by omega)); replace HZ6 := Lib.hid (HZ6.out.kept hg (by omega)); replace HB := Lib.hid (below_of_grown1 HB.out hg HB.out.size (by omega)); replace HS := Lib.hid ht; clear ht hg)
      | ((with_reducible refine gate9 ?_); refine stI i 6 (.int .i64 now) (⟨ts, sz, 1, mi, ti, p, now⟩) rfl rfl rfl rfl HS.out hil (by decide) infoI rfl (by rfl) ?_; intro w9 ht hg; replace HZ := Lib.hid (HZ.out.kept hg (by omega)); replace HZ6 := Lib.hid (HZ6.out.kept hg (by omega)); replace HB := Lib.hid (below_of_grown1 HB.out hg HB.out.size (by omega)); replace HS := Lib.hid ht; clear ht hg; have c4 := HS.out.celli hil 4 (.int .i64 ti) (by decide) rfl)
      | ((with_reducible refine gate9 ?_); refine stI i 4 (.int .i64 (wrap64 (ti + 1))) (⟨ts, sz, 1, mi, y, p, now⟩) rfl rfl rfl rfl HS.out hil (by decide) infoI rfl (by rw [hy2]; rfl) ?_; intro w9 ht hg; replace HZ := Lib.hid (HZ.out.kept hg (by omega)); replace HZ6 := Lib.hid (HZ6.out.kept hg (by omega)); replace HB := Lib.hid (below_of_grown1 HB.out hg HB.out.size (by omega)); replace HS := Lib.hid ht; clear ht hg)
      | ((with_reducible refine gate9 ?_); refine ldB rfl rfl rfl HZ6.out Try.underlying27 rfl infoS ?_)
      | ((with_reducible refine gate9 ?_); refine stB (ty := 27) #[.int .u32 (c.toNat : Int), .slice (some ⟨g, 0, none⟩) l.length k1] rfl rfl rfl rfl HZ.out infoS rfl (cellsS_one _ _ _ _) ?_; intro w9 ht hg; replace HS := Lib.hid (HS.out.kept hg (by omega)); replace HB := Lib.hid (below_of_grown1 HB.out hg HB.out.size (by omega)); replace HZ := Lib.hid ht; clear ht hg))
    exact bodyPost_ret (retST rfl rfl rfl rfl HZ.out) rfl ⟨some ⟨g, 0, none⟩, k1, by rw [HAS.out]; rfl, by rw [HAS.out]; exact HS.out.row, fresh_some (by omega), HB.out⟩
end Go.Proofs.Ytpgdofhnpiefjaa
