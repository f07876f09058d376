/-
  A chunk that shares no list and no text with the one that it is of: a contract.
-/
import Derived.Test.YtlbaockipeojhaaGreatClones
import Derived.Test.YtlbaockipeojhaaGreatFm
import Derived.Test.YtlbaockipeojhaaGreatWaits
import Derived.Test.YtlbaockipeojhaaGreatAs
import Derived.BigRegion
namespace Go.Proofs.YtlbaockipeojhaaGreat
open Go.RowKit
set_option linter.unusedVariables false
set_option linter.unusedSimpArgs false
set_option maxRecDepth 100000

theorem setCell_same {w : World} {b i : Nat} {cs : Array Value} {t : TypeId} {fz : Nat × Nat} {v : Value} (h : w.heap[b]? = some (.cells cs t fz)) (hv : cs[i]? = some v) : w.setCell ⟨b, i, none⟩ v = w := by
  have e : (w.setCell ⟨b, i, none⟩ v).heap = w.heap := by
    apply Array.ext_getElem?
    intro j
    by_cases hj : j = b
    · subst hj
      rw [row_set h, h]
      congr 2
      apply Array.ext_getElem?
      intro k
      by_cases hk : i = k
      · subst hk
        rw [Array.getElem?_setIfInBounds_self]
        have hlt := (Array.getElem?_eq_some_iff.1 hv).1
        rw [if_pos hlt, hv]
      · rw [Array.getElem?_setIfInBounds_ne hk]
    · exact Below.heap_setCell _ _ _ _ hj
  show ({ w with heap := (w.setCell ⟨b, i, none⟩ v).heap } : World) = w
  rw [e]
theorem setCell_id {w : World} {b i : Nat} {v : Value} (h : w.cell? ⟨b, i, none⟩ = some v) : w.setCell ⟨b, i, none⟩ v = w := by
  unfold World.cell? at h
  split at h
  · rename_i c t fz hb
    exact setCell_same hb (by simpa using h)
  · cases h
/-- A chunk, the chunk to be handed back, and the rows that were copied. -/
structure CpS (n0 : Nat) (c : Ck) (g d it : Value) (w W : World) : Prop where
  own : W.heap[n0]? = some (.cells (cellsC c g d it) 52 (0, 0))
  out : W.heap[n0 + 1]? = some (.cells #[.int .i64 0, .int .i64 0, .int .u32 0, .int .u32 0, .int .u32 0, .int .u32 0, .int .u16 0, .int .u16 0, .int .u16 0, .int .u16 0, .slice none 0 0, .slice none 0 0, .slice none 0 0, .string ⟨#[]⟩] 52 (0, 0))
  below : Below n0 w W
theorem CpS.later {n0 : Nat} {c : Ck} {g d it : Value} {w W W' : World} (h : CpS n0 c g d it w W) (hb : Below W.heap.size W W') : CpS n0 c g d it w W' := by
  have h1 := (Array.getElem?_eq_some_iff.1 h.own).1
  have h2 := (Array.getElem?_eq_some_iff.1 h.out).1
  exact ⟨(hb.block _ h1).trans h.own, (hb.block _ h2).trans h.out, h.below.trans (hb.mono (by omega))⟩
theorem CpS.size {n0 : Nat} {c : Ck} {g d it : Value} {w W : World} (h : CpS n0 c g d it w W) : n0 + 2 ≤ W.heap.size := by
  have h2 := (Array.getElem?_eq_some_iff.1 h.out).1
  omega
theorem CpS.at {n0 : Nat} {c : Ck} {g d it : Value} {w W : World} (h : CpS n0 c g d it w W) : W.cell? ⟨n0, 10, none⟩ = some g ∧ W.cell? ⟨n0, 11, none⟩ = some d ∧ W.cell? ⟨n0, 12, none⟩ = some it ∧ W.cell? ⟨n0, 13, none⟩ = some (.string c.text) := by
  refine ⟨?_, ?_, ?_, ?_⟩ <;> (rw [cell_in h.own]; rfl)
theorem CpS.free {n0 : Nat} {c : Ck} {g d it : Value} {w W : World} (h : CpS n0 c g d it w W) (i : Nat) : W.frozen? ⟨n0, i, none⟩ = false := frozen_of_row h.own i
theorem CpS.drew {n0 : Nat} {c : Ck} {g d it : Value} {w W : World} (h : CpS n0 c g d it w W) : CpS n0 c g d it w W.drew := ⟨h.own, h.out, h.below.drew⟩
theorem cpS_new (c : Ck) (g d it : Value) (w : World) : CpS w.heap.size c g d it w ((w.alloc (.cells (cellsC c g d it) 52)).alloc (.cells #[.int .i64 0, .int .i64 0, .int .u32 0, .int .u32 0, .int .u32 0, .int .u32 0, .int .u16 0, .int .u16 0, .int .u16 0, .int .u16 0, .slice none 0 0, .slice none 0 0, .slice none 0 0, .string ⟨#[]⟩] 52)) :=
  ⟨heap_second_at w _ _ rfl, heap_new_at _ _ (by rw [World.size_alloc]), below_two w _ _⟩
/-- The three slices put in. -/
theorem CpS.set3 {n0 : Nat} {c : Ck} {g d it : Value} {w W : World} (h : CpS n0 c g d it w W) (hn : w.heap.size = n0) (g' d' it' : Value) : CpS n0 c g' d' it' w (((W.setCell ⟨n0, 10, none⟩ g').setCell ⟨n0, 11, none⟩ d').setCell ⟨n0, 12, none⟩ it') := by
  refine ⟨?_, ?_, ?_⟩
  · have := row_set (row_set (row_set h.own 10 g') 11 d') 12 it'
    simpa using this
  · rw [Below.heap_setCell _ _ _ _ (by show n0 + 1 ≠ n0; omega), Below.heap_setCell _ _ _ _ (by show n0 + 1 ≠ n0; omega), Below.heap_setCell _ _ _ _ (by show n0 + 1 ≠ n0; omega)]
    exact h.out
  · exact ((h.below.setCell (Nat.le_refl _) _).setCell (Nat.le_refl _) _).setCell (Nat.le_refl _) _
theorem own_set3 {n0 : Nat} {W : World} {B : Nat} {e : TypeId} {size n : Nat} {v : Value} {xs : List Value} (h : OwnG W B e size v n xs) (hB : n0 < B) (g' d' it' : Value) : OwnG (((W.setCell ⟨n0, 10, none⟩ g').setCell ⟨n0, 11, none⟩ d').setCell ⟨n0, 12, none⟩ it') B e size v n xs :=
  h.keep fun k hk => by
    have := (h.lt k hk).1
    rw [Below.heap_setCell _ _ _ _ (by show k ≠ n0; omega), Below.heap_setCell _ _ _ _ (by show k ≠ n0; omega), Below.heap_setCell _ _ _ _ (by show k ≠ n0; omega)]
/-- Blocks that are neither rows of chunks nor packets. -/
def Plain8 (e : TypeId) : Prop := e ≠ 52 ∧ e ≠ 26
/-- The rows of a chunk lie in blocks from B on, none of which is a row of chunks, or a packet. -/
def PartsF (B : Nat) (W : World) (c : Ck) (g d it : Value) : Prop :=
  ∀ W' : World, (∀ j cs e fz, B ≤ j → W.heap[j]? = some (.cells cs e fz) → Plain8 e → W'.heap[j]? = W.heap[j]?) → Parts W' c g d it
theorem PartsF.now {B : Nat} {W : World} {c : Ck} {g d it : Value} (h : PartsF B W c g d it) : Parts W c g d it := h W fun _ _ _ _ _ _ _ => rfl
theorem PartsF.keep {B : Nat} {W W' : World} {c : Ck} {g d it : Value} (h : PartsF B W c g d it) (hk : ∀ j cs e fz, B ≤ j → W.heap[j]? = some (.cells cs e fz) → Plain8 e → W'.heap[j]? = W.heap[j]?) : PartsF B W' c g d it :=
  fun W'' h2 => h W'' fun j cs e fz hB hj he => by
    have e1 := hk j cs e fz hB hj he
    rw [h2 j cs e fz hB (e1.trans hj) he, e1]
theorem PartsF.later {B : Nat} {W W' : World} {c : Ck} {g d it : Value} (h : PartsF B W c g d it) (hb : Below W.heap.size W W') : PartsF B W' c g d it :=
  h.keep fun j cs e fz _ hj _ => hb.block j (Array.getElem?_eq_some_iff.1 hj).1
theorem PartsF.base {B B' : Nat} {W : World} {c : Ck} {g d it : Value} (h : PartsF B' W c g d it) (hB : B ≤ B') : PartsF B W c g d it :=
  fun W' hk => h W' fun j cs e fz h1 h2 h3 => hk j cs e fz (by omega) h2 h3
theorem own_same {W W' : World} {B : Nat} {e : TypeId} {size n : Nat} {v : Value} {xs : List Value} (h : OwnG W B e size v n xs) (he : Plain8 e) {B0 : Nat} (hB : B0 ≤ B)
    (hk : ∀ j cs e fz, B0 ≤ j → W.heap[j]? = some (.cells cs e fz) → Plain8 e → W'.heap[j]? = W.heap[j]?) : OwnG W' B e size v n xs := by
  rcases h with ⟨h1, h2 | ⟨g, cap, cur, fz, hv, hg, hh, r⟩⟩
  · exact ⟨h1, .inl h2⟩
  · exact ⟨h1, .inr ⟨g, cap, cur, fz, hv, hg, (hk g _ _ _ (by omega) hh he).trans hh, r⟩⟩
/-- A chunk is handed back; where it lies. -/
def GaveF (c : Ck) (w : World) (e : Ending) (w' : World) : Prop := ∃ g d it, e = .returned (.agg (cellsC c g d it)) ∧ PartsF w.heap.size w' c g d it ∧ Below w.heap.size w w'
/-- One of the items that were copied. -/
structure ItL (w w9 : World) (gi k : Nat) (xt : ByteArray) (ki n : Nat) (c : Ck) (g d : Value) (W : World) : Prop where
  base : CpS w.heap.size c g d (.slice (some ⟨gi, 0, none⟩) n ki) w W
  cell : W.cell? ⟨gi, k * 2 + 1, none⟩ = some (.string xt)
  free : W.frozen? ⟨gi, k * 2 + 1, none⟩ = false
  since : Below w9.heap.size w9 W
theorem block_at {w : World} {p : Addr} {v : Value} (h : w.cell? p = some v) : p.block < w.heap.size := World.block_lt_of_cell? _ _ h
theorem ItL.later {w w9 W W' : World} {gi k : Nat} {xt : ByteArray} {ki n : Nat} {c : Ck} {g d : Value} (h : ItL w w9 gi k xt ki n c g d W) (hb : Below W.heap.size W W') : ItL w w9 gi k xt ki n c g d W' := by
  have hlt := block_at h.cell
  refine ⟨h.base.later hb, (hb.cell hlt).trans h.cell, ?_, h.since.trans (hb.mono h.since.size)⟩
  have := h.free
  unfold World.frozen? at this ⊢
  rw [hb.block _ hlt]
  exact this
theorem ItL.drew {w w9 W : World} {gi k : Nat} {xt : ByteArray} {ki n : Nat} {c : Ck} {g d : Value} (h : ItL w w9 gi k xt ki n c g d W) : ItL w w9 gi k xt ki n c g d W.drew := ⟨h.base.drew, h.cell, h.free, h.since.drew⟩
set_option maxHeartbeats 8000000 in
theorem copyOf_any (c : Ck) (hc : FitC c) (g d it : Value) (w : World) (hp : Parts w c g d it) :
    Calls Tryz.prog 63 #[.agg (cellsC c g d it)] w (GaveF c w) := by
  have HG := Lib.hid (fun W hq => clone_gaps c.gaps (by have := hc.gl; omega) g W hq)
  have HD := Lib.hid (fun W hq => clone_nums c.dups (by have := hc.dl; omega) d W hq)
  have HI := Lib.hid (fun W hq => clone_items c.items hc.il it W hq)
  have HCT := Lib.hid (fun W => clone_any c.text W (by have := hc.tl; omega))
  have HCI := Lib.hid (fun x (hx : x ∈ c.items) W => clone_any x.2 W (by have := hc.iv x hx; omega))
  have HLI := Lib.hid hc.il
  have HP := Lib.hid hp
  have HN := Lib.hid (cpS_new c g d it w)
  have HMK := Lib.hid (fun (W : World) (g' d' it' : Value) (h : CpS w.heap.size c g' d' it' w W) => h)
  obtain ⟨⟨A1, k1, rfl⟩, ⟨A2, k2, rfl⟩, ⟨A3, k3, rfl⟩⟩ := hp.slices
  clear hp hc
  obtain ⟨ty, fl, tsn, tag, win, ppid, st, ssn, outs, ins, gaps, dups, items, text⟩ := c
  dsimp only [cellsC] at *
  go_enter Tryz.func63, Tryz.ntmps63
  go_wp2_with fail
  refine wp_region_noPanic ?_
  refine wp_region_waits (S := (CpS w.heap.size ⟨ty, fl, tsn, tag, win, ppid, st, ssn, outs, ins, gaps, dups, items, text⟩ (.slice A1 gaps.length k1) (.slice A2 dups.length k2) (.slice A3 items.length k3) w)) [10, 12, 14] (by kernel_rfl) ?_ (fun hHeld => ?_)
  · exact HN.out.drew
  refine wpAnyW_take (i := 0) (v := ?_) (by simp only [q9a, q9z]; rfl) (by kernel_rfl) (by kernel_rfl) (by kernel_rfl) (by kernel_rfl) (by kernel_rfl) (fun _ _ _ h => h) (Or.inl ⟨by rfl, ?_⟩) (by assumption) ?_
  rotate_left 1
  · (intro w' hSw; obtain ⟨c0, c1, c2, c3⟩ := hSw.at; clear hSw; (try dsimp only at hSw); go_simp; try with_reducible rfl)
  try simp only [Act.put, p9a, p9z, p9s]
  refine wpAnyW_take (i := 1) (v := ?_) (by simp only [q9a, q9s, q9z]; rfl) (by kernel_rfl) (by kernel_rfl) (by kernel_rfl) (by kernel_rfl) (by kernel_rfl) (fun _ _ _ h => h) (Or.inl ⟨by rfl, ?_⟩) (by assumption) ?_
  rotate_left 1
  · (intro w' hSw; obtain ⟨c0, c1, c2, c3⟩ := hSw.at; clear hSw; (try dsimp only at hSw); go_simp; try with_reducible rfl)
  try simp only [Act.put, p9a, p9z, p9s]
  refine wpAnyW_take (i := 3) (v := ?_) (by simp only [q9a, q9s, q9z]; rfl) (by kernel_rfl) (by kernel_rfl) (by kernel_rfl) (by kernel_rfl) (by kernel_rfl) (fun _ _ _ h => h) (Or.inl ⟨by rfl, ?_⟩) (by assumption) ?_
  rotate_left 1
  · (intro w' hSw; obtain ⟨c0, c1, c2, c3⟩ := hSw.at; clear hSw; (try dsimp only at hSw); go_simp; try with_reducible rfl)
  try simp only [Act.put, p9a, p9z, p9s]
  refine wpAnyW_take (i := 4) (v := ?_) (by simp only [q9a, q9s, q9z]; rfl) (by kernel_rfl) (by kernel_rfl) (by kernel_rfl) (by kernel_rfl) (by kernel_rfl) (fun _ _ _ h => h) (Or.inl ⟨by rfl, ?_⟩) (by assumption) ?_
  rotate_left 1
  · (intro w' hSw; obtain ⟨c0, c1, c2, c3⟩ := hSw.at; clear hSw; (try dsimp only at hSw); go_simp; try with_reducible rfl)
  try simp only [Act.put, p9a, p9z, p9s]
  refine wpAnyW_take (i := 6) (v := ?_) (by simp only [q9a, q9s, q9z]; rfl) (by kernel_rfl) (by kernel_rfl) (by kernel_rfl) (by kernel_rfl) (by kernel_rfl) (fun _ _ _ h => h) (Or.inl ⟨by rfl, ?_⟩) (by assumption) ?_
  rotate_left 1
  · (intro w' hSw; obtain ⟨c0, c1, c2, c3⟩ := hSw.at; clear hSw; (try dsimp only at hSw); go_simp; try with_reducible rfl)
  try simp only [Act.put, p9a, p9z, p9s]
  refine wpAnyW_take (i := 7) (v := ?_) (by simp only [q9a, q9s, q9z]; rfl) (by kernel_rfl) (by kernel_rfl) (by kernel_rfl) (by kernel_rfl) (by kernel_rfl) (fun _ _ _ h => h) (Or.inl ⟨by rfl, ?_⟩) (by assumption) ?_
  rotate_left 1
  · (intro w' hSw; obtain ⟨c0, c1, c2, c3⟩ := hSw.at; clear hSw; (try dsimp only at hSw); go_simp; try with_reducible rfl)
  try simp only [Act.put, p9a, p9z, p9s]
  refine wpAnyW_held (i := 2) (by kernel_rfl) (by simp only [q9a, q9s, q9z]; rfl) (fun K hK => ?_)
  go_simp
  refine (HG.out _ (HP.out.below hHeld.below).gaps).mono ?_
  rintro _ w2 ⟨g', rfl, ho2, hb2⟩
  obtain ⟨G1, kg, rfl, -⟩ := ho2.slice
  have HO2 := Lib.hid ho2
  have hz2 : w.heap.size + 2 ≤ _ := hHeld.size
  have hS := hHeld.later hb2
  clear hHeld hb2 ho2
  go_wp2_with fail
  refine hK.out _ _ ?_ (fun hHeld => ?_)
  · exact hS
  clear hK K
  try simp only [Act.put, p9a, p9z, p9s]
  refine wpAnyW_takeY (i := 9) (v := ?_) (by simp only [q9a, q9s, q9z]; rfl) (by kernel_rfl) (by kernel_rfl) (by kernel_rfl) (by kernel_rfl) (fun _ _ _ h => h) (Or.inl ⟨by rfl, ?_⟩) (fun _ => by assumption) ?_
  rotate_left 1
  · (intro w' hSw; clear hSw; go_simp; try with_reducible rfl)
  try simp only [Act.put, p9a, p9z, p9s]
  refine wpAnyW_held (i := 5) (by kernel_rfl) (by simp only [q9a, q9s, q9z]; rfl) (fun K hK => ?_)
  go_simp
  refine (HD.out _ (HP.out.below hHeld.below).dups).mono ?_
  rintro _ w5 ⟨d', rfl, ho5, hb5⟩
  obtain ⟨D1, kd, rfl, -⟩ := ho5.slice
  have HO5 := Lib.hid ho5
  replace HO2 := Lib.hid (HO2.out.later hb5)
  have hz5 := hHeld.size
  have hS := hHeld.later hb5
  clear hHeld hb5 ho5
  go_wp2_with fail
  refine hK.out _ _ ?_ (fun hHeld => ?_)
  · exact hS
  clear hK K
  try simp only [Act.put, p9a, p9z, p9s]
  refine wpAnyW_held (i := 8) (by kernel_rfl) (by simp only [q9a, q9s, q9z]; rfl) (fun K hK => ?_)
  go_simp
  refine (HI.out _ (HP.out.below hHeld.below).items).mono ?_
  rintro _ w8 ⟨i', rfl, ho8, hb8⟩
  obtain ⟨I1, ki, rfl, -⟩ := ho8.slice
  have HO8 := Lib.hid ho8
  replace HO2 := Lib.hid (HO2.out.later hb8)
  replace HO5 := Lib.hid (HO5.out.later hb8)
  have hz8 := hHeld.size
  have hS := hHeld.later hb8
  clear hHeld hb8 ho8
  go_wp2_with fail
  refine hK.out _ _ ?_ (fun hHeld => ?_)
  · exact hS
  clear hK K
  try simp only [Act.put, p9a, p9z, p9s]
  refine wpAnyW_freed (i := 10) (by kernel_rfl) (by kernel_rfl) (by simp only [q9a, q9s, q9z]; rfl) (fun K hK => ?_)
  have HE := Lib.hid hHeld
  clear hHeld
  have f0 := HE.out.free 10
  obtain ⟨e0, e1, e2, e3⟩ := HE.out.at
  go_simp
  refine hK.out _ _ ?_
  clear hK K
  try simp only [Act.put, p9a, p9z, p9s]
  refine wpAnyW_takeY (i := 11) (v := ?_) (by simp only [q9a, q9s, q9z]; rfl) (by kernel_rfl) (by kernel_rfl) (by kernel_rfl) (by kernel_rfl) (fun _ _ _ h => h) (Or.inl ⟨by rfl, ?_⟩) (not_waits (by kernel_rfl)) ?_
  rotate_left 1
  · (intro w' hSw; clear hSw; go_simp; try with_reducible rfl)
  try simp only [Act.put, p9a, p9z, p9s]
  refine wpAnyW_freed (i := 12) (by kernel_rfl) (by kernel_rfl) (by simp only [q9a, q9s, q9z]; rfl) (fun K hK => ?_)
  have r1 := row_set HE.out.own 10 (.slice G1 gaps.length kg)
  have e4 : (w8.setCell ⟨w.heap.size, 10, none⟩ (.slice G1 gaps.length kg)).cell? ⟨w.heap.size, 11, none⟩ = some (.slice A2 dups.length k2) := by rw [cell_in r1]; rfl
  have f1 := frozen_of_row r1 11
  go_simp
  refine hK.out _ _ ?_
  clear hK K
  try simp only [Act.put, p9a, p9z, p9s]
  refine wpAnyW_takeY (i := 13) (v := ?_) (by simp only [q9a, q9s, q9z]; rfl) (by kernel_rfl) (by kernel_rfl) (by kernel_rfl) (by kernel_rfl) (fun _ _ _ h => h) (Or.inl ⟨by rfl, ?_⟩) (not_waits (by kernel_rfl)) ?_
  rotate_left 1
  · (intro w' hSw; clear hSw; go_simp; try with_reducible rfl)
  try simp only [Act.put, p9a, p9z, p9s]
  refine wpAnyW_freed (i := 14) (by kernel_rfl) (by kernel_rfl) (by simp only [q9a, q9s, q9z]; rfl) (fun K hK => ?_)
  have r2 := row_set r1 11 (.slice D1 dups.length kd)
  have e5 : ((w8.setCell ⟨w.heap.size, 10, none⟩ (.slice G1 gaps.length kg)).setCell ⟨w.heap.size, 11, none⟩ (.slice D1 dups.length kd)).cell? ⟨w.heap.size, 12, none⟩ = some (.slice A3 items.length k3) := by rw [cell_in r2]; rfl
  have f2 := frozen_of_row r2 12
  clear r1
  go_simp
  refine hK.out _ _ ?_
  clear hK K
  try simp only [Act.put, p9a, p9z, p9s]
  refine wpAnyW_done (by kernel_rfl) ?_ _
  refine NoPanic.normal ?_
  clear r2 e0 e1 e2 e3 e4 e5 f0 f1 f2
  have HM := Lib.hid (HE.out.set3 rfl (.slice G1 gaps.length kg) (.slice D1 dups.length kd) (.slice I1 items.length ki))
  replace HO2 := Lib.hid (own_set3 (n0 := w.heap.size) (HO2.out.base (B' := w.heap.size + 2) hz2) (by omega) (.slice G1 gaps.length kg) (.slice D1 dups.length kd) (.slice I1 items.length ki))
  replace HO5 := Lib.hid (own_set3 (n0 := w.heap.size) (HO5.out.base (B' := w.heap.size + 2) hz5) (by omega) (.slice G1 gaps.length kg) (.slice D1 dups.length kd) (.slice I1 items.length ki))
  replace HO8 := Lib.hid (own_set3 (n0 := w.heap.size) (HO8.out.base (B' := w.heap.size + 2) hz8) (by omega) (.slice G1 gaps.length kg) (.slice D1 dups.length kd) (.slice I1 items.length ki))
  generalize ((w8.setCell ⟨w.heap.size, 10, none⟩ (.slice G1 gaps.length kg)).setCell ⟨w.heap.size, 11, none⟩ (.slice D1 dups.length kd)).setCell ⟨w.heap.size, 12, none⟩ (.slice I1 items.length ki) = w9 at *
  clear HE HG HD HI HN hz2 hz5 hz8
  have c12 := HM.out.at.2.2.1
  go_wp2_with fail
  go_loopw [19] (fun i wr => ∃ k : Nat, k ≤ items.length ∧ i = .int .i64 k ∧ Hid (CpS w.heap.size ⟨ty, fl, tsn, tag, win, ppid, st, ssn, outs, ins, gaps, dups, items, text⟩ (.slice G1 gaps.length kg) (.slice D1 dups.length kd) (.slice I1 items.length ki) w wr ∧ Below w9.heap.size w9 wr))
    (fun i _ => items.length - (intOf i).toNat)
  case atStart => exact ⟨0, Nat.zero_le _, rfl, Lib.hid ⟨HM.out, Below.refl _ _⟩⟩
  case round =>
    obtain ⟨k, hk, rfl, HQ⟩ := hrel
    have hHeld := HQ.out.1
    have hbq := HQ.out.2
    have hli : (items.length : Int) ≤ 100000 := by have := HLI.out; omega
    by_cases hlt : k < items.length
    · obtain ⟨A', kk, hv, -, -, hg⟩ := HO8.out.slice
      cases hv
      obtain ⟨gi, rfl, hgB, hgl⟩ := hg (by omega)
      have ho := HO8.out.later hbq
      obtain ⟨e1, e2⟩ := flatI_at items k hlt
      have hcell := ho.cells _ _ e2
      have HX := Lib.hid (HCI.out _ (List.getElem_mem hlt))
      have hfr : wr.frozen? ⟨gi, k * 2 + 1, none⟩ = false := ho.free (by omega)
      generalize items[k] = x at *
      obtain ⟨xa, xt⟩ := x
      dsimp only at hcell HX
      have HL := Lib.hid (show ItL w w9 gi k xt ki items.length ⟨ty, fl, tsn, tag, win, ppid, st, ssn, outs, ins, gaps, dups, items, text⟩ (.slice G1 gaps.length kg) (.slice D1 dups.length kd) wr from ⟨hHeld, hcell, hfr, hbq⟩)
      have q1 : (k : Int) < (items.length : Int) := by omega
      have q2 : (0 : Int) ≤ (k : Int) := by omega
      have c12 := hHeld.at.2.2.1
      clear hg ho e1 e2 hcell hfr hHeld hbq HQ HM hgB hgl c12
      go_wp2_with fail
      refine wp_region_noPanic ?_
      refine wp_region_held_drew (S := (ItL w w9 gi k xt ki items.length ⟨ty, fl, tsn, tag, win, ppid, st, ssn, outs, ins, gaps, dups, items, text⟩ (.slice G1 gaps.length kg) (.slice D1 dups.length kd))) (by kernel_rfl) ?_ (fun hHeld => ?_)
      · exact HL.out.drew
      refine k9 0 ?_ (y := ?_) (h := ?_)
      rotate_left 1
      · (intro w' hSw; have c1 := hSw.cell; have c2 := hSw.base.at.2.2.1; clear hSw; go_simp; try with_reducible rfl)
      try simp only [Act.put, p9a, p9z, p9s]
      refine k9 1 ?_ (y := ?_) (h := ?_)
      rotate_left 1
      · (intro w' hSw; have c1 := hSw.cell; have c2 := hSw.base.at.2.2.1; clear hSw; go_simp; try with_reducible rfl)
      try simp only [Act.put, p9a, p9z, p9s]
      refine k9 2 ?_ (y := ?_) (h := ?_)
      rotate_left 1
      · (intro w' hSw; have c1 := hSw.cell; have c2 := hSw.base.at.2.2.1; clear hSw; go_simp; try with_reducible rfl)
      try simp only [Act.put, p9a, p9z, p9s]
      refine k9 3 ?_ (y := ?_) (h := ?_)
      rotate_left 1
      · (intro w' hSw; have c1 := hSw.cell; have c2 := hSw.base.at.2.2.1; clear hSw; go_simp; try with_reducible rfl)
      try simp only [Act.put, p9a, p9z, p9s]
      refine k9 4 ?_ (y := ?_) (h := ?_)
      rotate_left 1
      · (intro w' hSw; have c1 := hSw.cell; have c2 := hSw.base.at.2.2.1; clear hSw; go_simp; try with_reducible rfl)
      try simp only [Act.put, p9a, p9z, p9s]
      refine k9 5 ?_ (y := ?_) (h := ?_)
      rotate_left 1
      · (intro w' hSw; have c1 := hSw.cell; have c2 := hSw.base.at.2.2.1; clear hSw; go_simp; try with_reducible rfl)
      try simp only [Act.put, p9a, p9z, p9s]
      refine k9 6 ?_ (y := ?_) (h := ?_)
      rotate_left 1
      · (intro w' hSw; have c1 := hSw.cell; have c2 := hSw.base.at.2.2.1; clear hSw; go_simp; try with_reducible rfl)
      try simp only [Act.put, p9a, p9z, p9s]
      refine k9 7 ?_ (y := ?_) (h := ?_)
      rotate_left 1
      · (intro w' hSw; have c1 := hSw.cell; have c2 := hSw.base.at.2.2.1; clear hSw; go_simp; try with_reducible rfl)
      try simp only [Act.put, p9a, p9z, p9s]
      refine k9 8 ?_ (y := ?_) (h := ?_)
      rotate_left 1
      · (intro w' hSw; have c1 := hSw.cell; have c2 := hSw.base.at.2.2.1; clear hSw; go_simp; try with_reducible rfl)
      try simp only [Act.put, p9a, p9z, p9s]
      refine wpAnyH_ready (rs := [9]) (by kernel_rfl) (by simp) ?_
      refine AllReadyH.cons (by simp only [q9a, q9s, q9z]; rfl) (fun K hK => ?_) AllReadyH.nil
      go_simp
      refine (HX.out _).mono ?_
      rintro _ w10 ⟨rfl, hb10⟩
      have hS := hHeld.later hb10
      clear hHeld hb10
      go_wp2_with fail
      refine hK.out _ _ ?_ (fun hHeld => ?_)
      · exact hS
      clear hK K
      try simp only [Act.put, p9a, p9z, p9s]
      refine k9 10 ?_ (y := ?_) (h := ?_)
      rotate_left 1
      · (intro w' hSw; have c1 := hSw.cell; have c2 := hSw.base.at.2.2.1; clear hSw; go_simp; try with_reducible rfl)
      try simp only [Act.put, p9a, p9z, p9s]
      refine k9 11 ?_ (y := ?_) (h := ?_)
      rotate_left 1
      · (intro w' hSw; have c1 := hSw.cell; have c2 := hSw.base.at.2.2.1; clear hSw; go_simp; try with_reducible rfl)
      try simp only [Act.put, p9a, p9z, p9s]
      refine wpAnyH_ready (rs := [12]) (by kernel_rfl) (by simp) ?_
      refine AllReadyH.cons (by simp only [q9a, q9s, q9z]; rfl) (fun K hK => ?_) AllReadyH.nil
      have hq := setCell_id hHeld.cell
      have hc := hHeld.cell
      have hf := hHeld.free
      have hS := hHeld
      go_simp
      refine hK.out _ _ ?_ (fun hHeld => ?_)
      · exact hS
      clear hK K
      try simp only [Act.put, p9a, p9z, p9s]
      refine wpAnyH_done (by kernel_rfl) ?_ _
      refine NoPanic.normal ?_
      clear hHeld
      clear hq hc hf
      have HE := Lib.hid (And.intro hS.base hS.since)
      clear hS hHeld
      go_wp2_with fail
      go_roundw
      case rel => exact ⟨k + 1, by omega, by go_num, HE⟩
      case measure => simp [intOf]; omega
    · obtain rfl : k = items.length := by omega
      have c13 := hHeld.at.2.2.2
      dsimp only at c13
      go_wp2_with fail
      refine (HCT.out _).mono ?_
      rintro _ w10 ⟨rfl, hb10⟩
      have hS := hHeld.later hb10
      have HS := Lib.hid hS
      have HO2' := Lib.hid ((HO2.out.later hbq).later hb10)
      have HO5' := Lib.hid ((HO5.out.later hbq).later hb10)
      have HO8' := Lib.hid ((HO8.out.later hbq).later hb10)
      have e13 := hS.at.2.2.2
      have f13 := hS.free 13
      have s13 := setCell_id e13
      dsimp only at e13 s13
      have HONE : Hid ((cellsC ⟨ty, fl, tsn, tag, win, ppid, st, ssn, outs, ins, gaps, dups, items, text⟩ (.slice G1 gaps.length kg) (.slice D1 dups.length kd) (.slice I1 items.length ki)).all (·.oneCell') = true) := Lib.hid (by simp [Value.oneCell'])
      have HCS := Lib.hid ckSize
      clear hb10 hS hHeld hbq HQ c13 HM HO2 HO5 HO8 c12 HCT
      dsimp only [cellsC] at HONE
      go_wp2_with (first
        | (refine wpList_load_row rfl 52 (.tmp 1) rfl w.heap.size rfl 52 _ (0, 0) _ HS.out.own Tryz.underlying52 rfl HCS.out ?_)
        | (refine wpList_store_row rfl 52 (.tmp 2) (.tmp 39) rfl (w.heap.size + 1) _ rfl rfl 52 _ HS.out.out HCS.out rfl HONE.out ?_))
      have HB2 := Lib.hid (below_setRow (g := w.heap.size + 1) HS.out.below (by omega) #[.int .i64 ty, .int .i64 fl, .int .u32 (tsn : Int), .int .u32 (tag : Int), .int .u32 (win : Int), .int .u32 (ppid : Int), .int .u16 (st : Int), .int .u16 (ssn : Int), .int .u16 (outs : Int), .int .u16 (ins : Int), .slice G1 gaps.length kg, .slice D1 dups.length kd, .slice I1 items.length ki, .string text])
      have hkeep : ∀ {e : TypeId} {size n : Nat} {v : Value} {xs : List Value}, OwnG w10 (w.heap.size + 2) e size v n xs → OwnG (w10.setRow (w.heap.size + 1) #[.int .i64 ty, .int .i64 fl, .int .u32 (tsn : Int), .int .u32 (tag : Int), .int .u32 (win : Int), .int .u32 (ppid : Int), .int .u16 (st : Int), .int .u16 (ssn : Int), .int .u16 (outs : Int), .int .u16 (ins : Int), .slice G1 gaps.length kg, .slice D1 dups.length kd, .slice I1 items.length ki, .string text]) (w.heap.size + 2) e size v n xs := fun h => h.keep fun j hj => setRow_other _ _ _ _ (by have := (h.lt j hj).1; omega)
      exact bodyPost_ret (v := .agg #[.int .i64 ty, .int .i64 fl, .int .u32 (tsn : Int), .int .u32 (tag : Int), .int .u32 (win : Int), .int .u32 (ppid : Int), .int .u16 (st : Int), .int .u16 (ssn : Int), .int .u16 (outs : Int), .int .u16 (ins : Int), .slice G1 gaps.length kg, .slice D1 dups.length kd, .slice I1 items.length ki, .string text]) (results_cell_row Tryz.results63 _ _ (w.heap.size + 1) _ #[.int .i64 ty, .int .i64 fl, .int .u32 (tsn : Int), .int .u32 (tag : Int), .int .u32 (win : Int), .int .u32 (ppid : Int), .int .u16 (st : Int), .int .u16 (ssn : Int), .int .u16 (outs : Int), .int .u16 (ins : Int), .slice G1 gaps.length kg, .slice D1 dups.length kd, .slice I1 items.length ki, .string text] _ _ (by rfl) (setRow_heap _ _ #[.int .i64 0, .int .i64 0, .int .u32 0, .int .u32 0, .int .u32 0, .int .u32 0, .int .u16 0, .int .u16 0, .int .u16 0, .int .u16 0, .slice none 0 0, .slice none 0 0, .slice none 0 0, .string ⟨#[]⟩] _ _ _ HS.out.out) Tryz.underlying52 rfl HCS.out) rfl
        ⟨_, _, _, rfl, fun W' hW => ⟨rowG_of_own (own_same (hkeep HO2'.out) ⟨by decide, by decide⟩ (by omega) hW), rowN_of_own (own_same (hkeep HO5'.out) ⟨by decide, by decide⟩ (by omega) hW), rowI_of_own (own_same (hkeep HO8'.out) ⟨by decide, by decide⟩ (by omega) hW)⟩, HB2.out⟩
end Go.Proofs.YtlbaockipeojhaaGreat
