/-
  Chunks as the document has them, and packets: contracts.
-/
import Derived.Test.YtlbaockipeojhaaGreatAs2
import Derived.Test.YtlbaockipeojhaaGreatPc
import Derived.Test.YtlbaockipeojhaaGreatFm
import Derived.Test.YtlbaockipeojhaaGreatAs
import Derived.Test.YtlbaockipeojhaaGreatCkRows
import Derived.Test.YtlbaockipeojhaaGreatHd
import Derived.Test.YtlbaockipeojhaaGreatWaits
namespace Go.Proofs.YtlbaockipeojhaaGreat
open Go.RowKit
set_option linter.unusedVariables false
set_option linter.unusedSimpArgs false
set_option maxRecDepth 100000

theorem infoRk8 : (Tryz.prog.info? 74).map (fun i => (i.zero, i.size, i.bytes)) = some (some (.agg #[.int .i64 0, .int .i64 0, .int .u32 0, .int .u32 0, .int .u32 0, .int .u32 0, .int .u16 0, .int .u16 0, .int .u16 0, .int .u16 0, .slice none 0 0, .slice none 0 0, .slice none 0 0, .string ⟨#[]⟩]), 14, 128) := by kernel_rfl
/-- The rows of a chunk lie in blocks of D, and not in the block of this slice. -/
def PartsG (D : Nat → Prop) (U : Value) (W : World) (c : Ck) (g d it : Value) : Prop :=
  ∀ W' : World, W.heap.size ≤ W'.heap.size → (∀ j, D j → j < W.heap.size → U.ownBlock ≠ some j → W'.heap[j]? = W.heap[j]?) → Parts W' c g d it
theorem PartsG.later {D : Nat → Prop} {U : Value} {W W' : World} {c : Ck} {g d it : Value} (h : PartsG D U W c g d it) (hb : Below W.heap.size W W') : PartsG D U W' c g d it :=
  fun W'' hs hk => h W'' (Nat.le_trans hb.size hs) fun j hB hj hU => (hk j hB (Nat.lt_of_lt_of_le hj hb.size) hU).trans (hb.block j hj)
theorem PartsG.put {D : Nat → Prop} {U U' : Value} {W6 W7 : World} {c : Ck} {g d it : Value} (h : PartsG D U W6 c g d it) (hg : W6.grownBy W7 U.ownBlock) (hw : ∀ k, U'.ownBlock = some k → U.ownBlock = some k ∨ k = W6.heap.size) : PartsG D U' W7 c g d it :=
  fun W' hs hk => h W' (Nat.le_trans hg.size hs) fun j hB hj hU => by
    rw [hk j hB (Nat.lt_of_lt_of_le hj hg.size) (fun e => by
      rcases hw j e with h1 | h1
      · exact hU h1
      · omega)]
    exact hg.block j hj (fun e => hU e.symm)
/-- The chunks that were made of some that lie below b0, from n0 on. -/
structure AlS (b0 n0 : Nat) (w : World) (acc : List Cv) (U : Value) (W : World) : Prop where
  row : OwnG W n0 74 14 U acc.length (flatK acc)
  parts : ∀ x ∈ acc, PartsG (fun j => j < b0 ∨ n0 ≤ j) U W x.c x.g x.d x.it
  below : Below n0 w W
  since : n0 ≤ W.heap.size
theorem AlS.later {b0 n0 : Nat} {w W W' : World} {acc : List Cv} {U : Value} (h : AlS b0 n0 w acc U W) (hb : Below W.heap.size W W') : AlS b0 n0 w acc U W' :=
  ⟨h.row.later hb, fun x hx => (h.parts x hx).later hb, h.below.trans (hb.mono h.since), Nat.le_trans h.since hb.size⟩
theorem AlS.put {b0 n0 : Nat} {w W6 W7 : World} {acc : List Cv} {U v7 : Value} {x : Cv} (h : AlS b0 n0 w acc U W6) (hp : PartsG (fun j => j < b0 ∨ n0 ≤ j) U W6 x.c x.g x.d x.it)
    (ho : OwnG W7 n0 74 14 v7 (acc.length + 1) (flatK acc ++ x.cells.toList)) (hg : W6.grownBy W7 U.ownBlock) (hw : ∀ k, v7.ownBlock = some k → U.ownBlock = some k ∨ k = W6.heap.size) : AlS b0 n0 w (acc ++ [x]) v7 W7 := by
  refine ⟨?_, ?_, h.below.grown hg h.since fun k hk => (h.row.lt k hk).1, Nat.le_trans h.since hg.size⟩
  · rw [List.length_append, flatK_append, flatK_one]
    exact ho
  · intro y hy
    rcases List.mem_append.1 hy with hy | hy
    · exact (h.parts y hy).put hg hw
    · obtain rfl := List.mem_singleton.1 hy
      exact hp.put hg hw
theorem PartsG.made {n0 : Nat} {U : Value} {w0 W4 W : World} {c : Ck} {g d it it' : Value} (h0 : Parts w0 c g d it') (h : Parts W c g d it) (ha : ∀ j, it.ownBlock = some j → W4.heap.size ≤ j) (hU : ∀ k, U.ownBlock = some k → n0 ≤ k ∧ k < W4.heap.size) (hb : Below w0.heap.size w0 W) (h1 : w0.heap.size ≤ n0) (h2 : n0 ≤ W4.heap.size) : PartsG (fun j => j < w0.heap.size ∨ n0 ≤ j) U W c g d it := by
  intro W' hs hk
  have hold : ∀ b, b < w0.heap.size → W'.heap[b]? = w0.heap[b]? := fun b hb' => by
    rw [hk b (.inl hb') (Nat.lt_of_lt_of_le hb' hb.size) (fun e => by have := (hU b e).1; omega)]
    exact hb.block b hb'
  have hsz := Nat.le_trans hb.size hs
  exact ⟨h0.gaps.lt hsz fun b hb' _ => hold b hb', h0.dups.lt hsz fun b hb' _ => hold b hb', h.items.lt hs fun b hb' e => hk b (.inr (by have := ha b e; omega)) hb' fun e' => by have h1 := ha b e; have h2 := (hU b e').2; omega⟩
set_option maxHeartbeats 16000000 in
theorem all_any (l : List Cv) (hl : l.length ≤ 100000) (hit : ∀ x ∈ l, x.c.items.length ≤ 100000) (V : Value) (w0 : World) (h : Rk w0 V l) (w : World) (hb0 : Below w0.heap.size w0 w) :
    Calls Tryz.prog 31 #[V] w fun e w' => ∃ V' l', e = .returned V' ∧ (∀ W', w'.heap.size ≤ W'.heap.size → (∀ j, (j < w0.heap.size ∨ w.heap.size ≤ j) → j < w'.heap.size → W'.heap[j]? = w'.heap[j]?) → Rk W' V' l') ∧ ckV l' = ckV l ∧ Below w.heap.size w w' := by
  obtain ⟨i0, hi0, hz0, hz1, hz2⟩ := info_parts infoRk8
  have HI := Lib.hid hi0
  have HZ0 := Lib.hid hz0
  have HZ1 := Lib.hid hz1
  have HZ2 := Lib.hid hz2
  clear hi0 hz0 hz1 hz2
  have HS0 := Lib.hid (show AlS w0.heap.size w.heap.size w [] (.slice none 0 0) w from ⟨OwnG.nil _ _ _ _, by simp, Below.refl _ _, Nat.le_refl _⟩)
  have HB0 := Lib.hid hb0
  have HK := Lib.hid h
  have HIT := Lib.hid hit
  obtain ⟨A, cap, rfl, hcap, hmax, hcells⟩ := h.row
  have HC := Lib.hid hcells
  have hlm : (l.length : Int) ≤ 100000 := by omega
  clear hcells h hit hb0
  go_enter Tryz.func31, Tryz.ntmps31
  go_wp2_with fail
  go_loopw [3, 4] (fun u i wr => ∃ (k : Nat) (acc : List Cv), k ≤ l.length ∧ i = .int .i64 k ∧ acc.length ≤ k ∧ Hid (AlS w0.heap.size w.heap.size w acc u wr ∧ ckV acc = ckV (l.take k)))
    (fun _ i _ => l.length - (intOf i).toNat)
  case atStart => exact ⟨0, [], Nat.zero_le _, rfl, Nat.le_refl _, Lib.hid ⟨HS0.out, rfl⟩⟩
  case round =>
    obtain ⟨k, acc, hk, rfl, hac, HQ⟩ := hrel
    obtain ⟨hs, hck⟩ := HQ.out
    obtain ⟨UA, uk, rfl, -⟩ := hs.row.slice
    by_cases hlt : k < l.length
    · obtain ⟨b, off, rfl, hb, hr⟩ := HC.out (by omega)
      have hp0 := HK.out.parts _ (List.getElem_mem hlt)
      have hil := HIT.out _ (List.getElem_mem hlt)
      have hnx : ckV (l.take (k + 1)) = ckV (l.take k) ++ [l[k].c] := by rw [List.take_succ_eq_append_getElem hlt]; unfold ckV; rw [List.map_append]; rfl
      obtain ⟨CL, hL⟩ := hasL l[k]
      have hr' : wr.rangeAt b (off + k * 14) CL := by rw [← hL.cells]; exact rangeAt_below (hr k hlt) hb (HB0.out.trans (hs.below.mono HB0.out.size))
      clear hr
      generalize l[k] = x at *
      obtain ⟨c, g, d, it⟩ := x
      dsimp only at hp0 hil hnx
      have HR := Lib.hid hr'
      have HL := Lib.hid hL
      have HT := Lib.hid (show Calls Tryz.prog 58 #[.agg CL.toArray] wr (GaveA c g d wr) from by
        rw [← hL.arr]; exact as_gave c hil g d it wr (hp0.below (HB0.out.trans (hs.below.mono HB0.out.size))))
      have HP0 := Lib.hid hp0
      have HS := Lib.hid hs
      have HU := Lib.hid (fun k (hk : (Value.slice UA acc.length uk).ownBlock = some k) => hs.row.lt k hk)
      have HNX := Lib.hid (hnx.trans (by rw [← hck]))
      have q1 : (k : Int) < (l.length : Int) := by omega
      have q2 : (0 : Int) ≤ (k : Int) := by omega
      clear hr' hL hs hck hnx hp0 HQ HC HK HIT HS0
      go_wp2_with (first
        | (refine wpList_load_mid rfl 52 (.tmp 14) rfl b (off + k * 14) rfl CL _ HR.out Tryz.underlying52 rfl HL.out.size ?_))
      refine HT.out.mono ?_
      rintro _ w2 ⟨i', rfl, hp2, ha2, hb2⟩
      have HPN := Lib.hid (PartsG.made HP0.out hp2 ha2 HU.out ((HB0.out.trans (HS.out.below.mono HB0.out.size)).trans (hb2.mono (Nat.le_trans HB0.out.size HS.out.since))) HB0.out.size HS.out.since)
      obtain ⟨⟨A1, k1, rfl⟩, ⟨A2, k2, rfl⟩, ⟨A3, k3, rfl⟩⟩ := hp2.slices
      have HS2 := Lib.hid (HS.out.later hb2)
      clear hp2 ha2 hb2 HT HS HR HP0 HU
      dsimp only [cellsC] at *
      have HS6 := Lib.hid (HS2.out.later ((Below.refl _ _).alloc (Nat.le_refl _) (.cells #[.int .i64 c.type, .int .i64 c.flags, .int .u32 (c.tsn : Int), .int .u32 (c.tag : Int), .int .u32 (c.window : Int), .int .u32 (c.ppid : Int), .int .u16 (c.stream : Int), .int .u16 (c.ssn : Int), .int .u16 (c.outs : Int), .int .u16 (c.ins : Int), .slice A1 c.gaps.length k1, .slice A2 c.dups.length k2, .slice A3 c.items.length k3, .string c.text] 74)))
      have HPN6 := Lib.hid (HPN.out.later ((Below.refl _ _).alloc (Nat.le_refl _) (.cells #[.int .i64 c.type, .int .i64 c.flags, .int .u32 (c.tsn : Int), .int .u32 (c.tag : Int), .int .u32 (c.window : Int), .int .u32 (c.ppid : Int), .int .u16 (c.stream : Int), .int .u16 (c.ssn : Int), .int .u16 (c.outs : Int), .int .u16 (c.ins : Int), .slice A1 c.gaps.length k1, .slice A2 c.dups.length k2, .slice A3 c.items.length k3, .string c.text] 74)))
      have HONE5 := Lib.hid (ck_ones c A1 A2 A3 k1 k2 k3)
      go_wp2_with (at_builtin; refine wpList_append_where _ rfl _ _ 33 33 rfl w.heap.size 74 i0 _ 14 128 Tryz.underlying33 (.inr ⟨_, Tryz.underlying33⟩) HI.out HZ0.out HZ1.out HZ2.out rfl _ acc.length (flatK acc) rfl HS6.out.row (.slice (some ⟨w2.heap.size, 0, none⟩) 1 1) 1 [.int .i64 c.type, .int .i64 c.flags, .int .u32 (c.tsn : Int), .int .u32 (c.tag : Int), .int .u32 (c.window : Int), .int .u32 (c.ppid : Int), .int .u16 (c.stream : Int), .int .u16 (c.ssn : Int), .int .u16 (c.outs : Int), .int .u16 (c.ins : Int), .slice A1 c.gaps.length k1, .slice A2 c.dups.length k2, .slice A3 c.items.length k3, .string c.text] rfl (Fed.block (heap_alloc_new _ _) rfl HONE5.out) ?c3 ?c4 ?c5 ?_)
      case c3 => unfold maxLen; omega
      case c4 => omega
      case c5 => exact HS6.out.since
      intro v7 w7 hown7 hg7 hw7
      have HN := Lib.hid (AlS.put (x := ⟨c, .slice A1 c.gaps.length k1, .slice A2 c.dups.length k2, .slice A3 c.items.length k3⟩) HS6.out HPN6.out hown7 hg7 (by rw [World.size_alloc]; exact hw7))
      obtain ⟨VA, vk, rfl, -⟩ := hown7.slice
      clear hown7 hg7 hw7
      go_wp2_with fail
      go_roundw
      case rel => exact ⟨k + 1, acc ++ [⟨c, .slice A1 c.gaps.length k1, .slice A2 c.dups.length k2, .slice A3 c.items.length k3⟩], by omega, by go_num, by rw [List.length_append, List.length_singleton]; omega, Lib.hid ⟨HN.out, by rw [HNX.out]; simp [ckV]⟩⟩
      case measure => simp [intOf]; omega
    · obtain rfl : k = l.length := by omega
      rw [List.take_length] at hck
      have HS := Lib.hid hs
      have HCK := Lib.hid hck
      clear hs hck HQ
      go_wp2_with fail
      go_ret
      exact ⟨_, acc, rfl, fun W' hs hk => ⟨rowK_of_own (HS.out.row.keep fun j hj => hk j (.inr (HS.out.row.lt j hj).1) (HS.out.row.lt j hj).2), fun x hx => HS.out.parts x hx W' hs fun j hD hj _ => hk j hD hj⟩, HCK.out, HS.out.below⟩
/-- A packet and the place for another one. -/
structure RfS (f t g : Nat) (V : Value) (w W : World) : Prop where
  own : W.heap[w.heap.size]? = some (.cells (cellsP f t g V) 26 (0, 0))
  out : W.heap[w.heap.size + 1]? = some (.cells #[.int .u16 0, .int .u16 0, .int .u32 0, .slice none 0 0] 35 (0, 0))
  below : Below w.heap.size w W
theorem RfS.later {f t g : Nat} {V : Value} {w W W' : World} (h : RfS f t g V w W) (hb : Below W.heap.size W W') : RfS f t g V w W' :=
  ⟨(hb.block _ (Array.getElem?_eq_some_iff.1 h.own).1).trans h.own, (hb.block _ (Array.getElem?_eq_some_iff.1 h.out).1).trans h.out, h.below.trans (hb.mono h.below.size)⟩
theorem RfS.c {f t g : Nat} {V : Value} {w W : World} (h : RfS f t g V w W) : W.cell? ⟨w.heap.size, 0, none⟩ = some (.int .u16 (f : Int)) ∧ W.cell? ⟨w.heap.size, 1, none⟩ = some (.int .u16 (t : Int)) ∧ W.cell? ⟨w.heap.size, 2, none⟩ = some (.int .u32 (g : Int)) ∧ W.cell? ⟨w.heap.size, 3, none⟩ = some V := by
  refine ⟨?_, ?_, ?_, ?_⟩ <;> (rw [cell_in h.own]; rfl)
theorem pk8Size : (Tryz.prog.info? 35).map (·.size) = some 4 := by kernel_rfl
theorem rfS_new (f t g : Nat) (V : Value) (w : World) : RfS f t g V w ((w.alloc (.cells (cellsP f t g V) 26)).alloc (.cells #[.int .u16 0, .int .u16 0, .int .u32 0, .slice none 0 0] 35)) :=
  ⟨heap_second_at w _ _ rfl, heap_new_at _ _ (by rw [World.size_alloc]), below_two w _ _⟩
set_option maxHeartbeats 16000000 in
theorem ref_any (f t g : Nat) (V : Value) (l : List Cv) (hl : l.length ≤ 100000) (hit : ∀ x ∈ l, x.c.items.length ≤ 100000) (w : World) (h : Rk w V l) :
    Calls Tryz.prog 9 #[.agg (cellsP f t g V)] w fun e w' => ∃ V' l', e = .returned (.agg (cellsP f t g V')) ∧ Rk w' V' l' ∧ ckV l' = ckV l ∧ Below w.heap.size w w' := by
  have HA := Lib.hid (fun W hW => all_any l hl hit V w h W hW)
  have HK := Lib.hid h
  have HPS := Lib.hid pk8Size
  have HS := Lib.hid (rfS_new f t g V w)
  obtain ⟨A, cap, rfl, hcap, hmax, hcells⟩ := h.row
  clear h hcells hl hit
  dsimp only [cellsP] at *
  go_enter Tryz.func9, Tryz.ntmps9
  go_wp2_with fail
  refine wp_region_noPanic ?_
  refine wp_region_waits (S := (RfS f t g (.slice A l.length cap) w)) [10] (by kernel_rfl) ?_ (fun hHeld => ?_)
  · exact HS.out.later (Below.refl _ _).drew
  refine wpAnyW_take (i := 0) (v := ?_) (by simp only [q9a, q9z]; rfl) (by kernel_rfl) (by kernel_rfl) (by kernel_rfl) (by kernel_rfl) (by kernel_rfl) (fun _ _ _ h => h) (Or.inl ⟨by rfl, ?_⟩) (by assumption) ?_
  rotate_left 1
  · (intro w' hSw; obtain ⟨c0, c1, c2, c3⟩ := hSw.c; clear hSw; (try dsimp only at hSw); go_simp; try with_reducible rfl)
  try simp only [Act.put, p9a, p9z, p9s]
  refine wpAnyW_take (i := 1) (v := ?_) (by simp only [q9a, q9s, q9z]; rfl) (by kernel_rfl) (by kernel_rfl) (by kernel_rfl) (by kernel_rfl) (by kernel_rfl) (fun _ _ _ h => h) (Or.inl ⟨by rfl, ?_⟩) (by assumption) ?_
  rotate_left 1
  · (intro w' hSw; obtain ⟨c0, c1, c2, c3⟩ := hSw.c; clear hSw; (try dsimp only at hSw); go_simp; try with_reducible rfl)
  try simp only [Act.put, p9a, p9z, p9s]
  refine wpAnyW_take (i := 2) (v := ?_) (by simp only [q9a, q9s, q9z]; rfl) (by kernel_rfl) (by kernel_rfl) (by kernel_rfl) (by kernel_rfl) (by kernel_rfl) (fun _ _ _ h => h) (Or.inl ⟨by rfl, ?_⟩) (by assumption) ?_
  rotate_left 1
  · (intro w' hSw; obtain ⟨c0, c1, c2, c3⟩ := hSw.c; clear hSw; (try dsimp only at hSw); go_simp; try with_reducible rfl)
  try simp only [Act.put, p9a, p9z, p9s]
  refine wpAnyW_take (i := 3) (v := ?_) (by simp only [q9a, q9s, q9z]; rfl) (by kernel_rfl) (by kernel_rfl) (by kernel_rfl) (by kernel_rfl) (by kernel_rfl) (fun _ _ _ h => h) (Or.inl ⟨by rfl, ?_⟩) (by assumption) ?_
  rotate_left 1
  · (intro w' hSw; obtain ⟨c0, c1, c2, c3⟩ := hSw.c; clear hSw; (try dsimp only at hSw); go_simp; try with_reducible rfl)
  try simp only [Act.put, p9a, p9z, p9s]
  refine wpAnyW_take (i := 4) (v := ?_) (by simp only [q9a, q9s, q9z]; rfl) (by kernel_rfl) (by kernel_rfl) (by kernel_rfl) (by kernel_rfl) (by kernel_rfl) (fun _ _ _ h => h) (Or.inl ⟨by rfl, ?_⟩) (by assumption) ?_
  rotate_left 1
  · (intro w' hSw; obtain ⟨c0, c1, c2, c3⟩ := hSw.c; clear hSw; (try dsimp only at hSw); go_simp; try with_reducible rfl)
  try simp only [Act.put, p9a, p9z, p9s]
  refine wpAnyW_take (i := 5) (v := ?_) (by simp only [q9a, q9s, q9z]; rfl) (by kernel_rfl) (by kernel_rfl) (by kernel_rfl) (by kernel_rfl) (by kernel_rfl) (fun _ _ _ h => h) (Or.inl ⟨by rfl, ?_⟩) (by assumption) ?_
  rotate_left 1
  · (intro w' hSw; obtain ⟨c0, c1, c2, c3⟩ := hSw.c; clear hSw; (try dsimp only at hSw); go_simp; try with_reducible rfl)
  try simp only [Act.put, p9a, p9z, p9s]
  refine wpAnyW_take (i := 6) (v := ?_) (by simp only [q9a, q9s, q9z]; rfl) (by kernel_rfl) (by kernel_rfl) (by kernel_rfl) (by kernel_rfl) (by kernel_rfl) (fun _ _ _ h => h) (Or.inl ⟨by rfl, ?_⟩) (by assumption) ?_
  rotate_left 1
  · (intro w' hSw; obtain ⟨c0, c1, c2, c3⟩ := hSw.c; clear hSw; (try dsimp only at hSw); go_simp; try with_reducible rfl)
  try simp only [Act.put, p9a, p9z, p9s]
  refine wpAnyW_take (i := 7) (v := ?_) (by simp only [q9a, q9s, q9z]; rfl) (by kernel_rfl) (by kernel_rfl) (by kernel_rfl) (by kernel_rfl) (by kernel_rfl) (fun _ _ _ h => h) (Or.inl ⟨by rfl, ?_⟩) (by assumption) ?_
  rotate_left 1
  · (intro w' hSw; obtain ⟨c0, c1, c2, c3⟩ := hSw.c; clear hSw; (try dsimp only at hSw); go_simp; try with_reducible rfl)
  try simp only [Act.put, p9a, p9z, p9s]
  refine wpAnyW_held (i := 8) (by kernel_rfl) (by simp only [q9a, q9s, q9z]; rfl) (fun K hK => ?_)
  go_simp
  refine (HA.out _ hHeld.below).mono ?_
  rintro _ w2 ⟨V', l', rfl, hrk, hck, hb2⟩
  obtain ⟨VA, vk, rfl, -⟩ := (hrk _ (Nat.le_refl _) fun _ _ _ => rfl).slice
  have hS := hHeld.later hb2
  clear hHeld
  go_wp2_with fail
  refine hK.out _ _ ?_ (fun hHeld => ?_)
  · exact hS
  clear hK K
  try simp only [Act.put, p9a, p9z, p9s]
  refine wpAnyW_take (i := 9) (v := ?_) (by simp only [q9a, q9s, q9z]; rfl) (by kernel_rfl) (by kernel_rfl) (by kernel_rfl) (by kernel_rfl) (by kernel_rfl) (fun _ _ _ h => h) (Or.inl ⟨by rfl, ?_⟩) (by assumption) ?_
  rotate_left 1
  · (intro w' hSw; obtain ⟨c0, c1, c2, c3⟩ := hSw.c; clear hSw; (try dsimp only at hSw); go_simp; try with_reducible rfl)
  try simp only [Act.put, p9a, p9z, p9s]
  refine wpAnyW_freed (i := 10) (by kernel_rfl) (by kernel_rfl) (by simp only [q9a, q9s, q9z]; rfl) (fun K hK => ?_)
  rw [if_pos (by rfl)]
  have HE := Lib.hid hHeld
  clear hHeld
  have HONE := Lib.hid (pk_one f t g VA l'.length vk)
  refine wp_store_row 35 (.tmp 2) (.tmp 12) rfl (w.heap.size + 1) #[.int .u16 (f : Int), .int .u16 (t : Int), .int .u32 (g : Int), .slice VA l'.length vk] rfl rfl 35 _ HE.out.out HPS.out rfl HONE.out ?_
  refine hK.out _ _ ?_
  clear hK K
  try simp only [Act.put, p9a, p9z, p9s]
  refine wpAnyW_done (by kernel_rfl) ?_ _
  refine NoPanic.normal ?_
  have HB2 := below_setRow (g := w.heap.size + 1) HE.out.below (by omega) #[.int .u16 (f : Int), .int .u16 (t : Int), .int .u32 (g : Int), .slice VA l'.length vk]
  have HG := hrk (w2.setRow (w.heap.size + 1) #[.int .u16 (f : Int), .int .u16 (t : Int), .int .u32 (g : Int), .slice VA l'.length vk]) (by simp) (fun j hj hlt => setRow_other _ _ _ _ (by have hj' : j < w.heap.size ∨ w.heap.size + 2 ≤ j := (by simpa [World.size_alloc] using hj); omega))
  go_wp2_with fail
  exact bodyPost_ret (v := .agg #[.int .u16 (f : Int), .int .u16 (t : Int), .int .u32 (g : Int), .slice VA l'.length vk]) (results_cell_row Tryz.results9 _ _ (w.heap.size + 1) _ #[.int .u16 (f : Int), .int .u16 (t : Int), .int .u32 (g : Int), .slice VA l'.length vk] _ _ (by rfl) (setRow_heap _ _ _ _ _ _ HE.out.out) Tryz.underlying35 rfl HPS.out) rfl ⟨_, l', rfl, HG, hck, HB2⟩
end Go.Proofs.YtlbaockipeojhaaGreat
