/-
  Of a right state each number may be another one, and it is read as that: any state (with a text of at most 300 bytes) that is right, any two numbers that are not 0; others are not asked of.
-/
import Derived.Test.YthfiebdpoleeeaaDoorLift
import Derived.Test.YthfiebdpoleeeaaDoorSn9
import Derived.Test.YthfiebdpoleeeaaDoorLaid
import Derived.Test.YthfiebdpoleeeaaDoorCards
import Derived.Test.YthfiebdpoleeeaaDoorTie
import Derived.SevenTiedAt
import Derived.Test.YthfiebdpoleeeaaDoorAr9
import Derived.Deep.LoopGhost
import Derived.Great.BuildSlice
namespace Go.Proofs.YthfiebdpoleeeaaDoor.cookieParts
open Go.ChangeShapes Go.WideShapes Go.ChangeAt Go.RowKit
set_option linter.unusedVariables false

/-- The goal is a list of operations: to be tried ahead of a law on one. -/
theorem gate9 {P : Program} {ops : Array Oper} {l : List Oper} {a : Act} {w : World} {Q : Exit → Act → World → Prop} (h : wpList P ops Q l a w) : wpList P ops Q l a w := h
/-- A list of eight operations: where a walk is to stop. -/
theorem stopL {P : Program} {ops : Array Oper} {l : List Oper} {a : Act} {w : World} {Q : Exit → Act → World → Prop} (e : l.length = 8) (h : Hid (wpList P ops Q l a w)) : wpList P ops Q l a w := h.out
/-- Six states lie in block b. -/
def SixS (W : World) (b : Nat) (S : Nat → St) : Prop := ∃ cs : Array Value, W.heap[b]? = some (.cells cs 25 (0, 0)) ∧ cs.size = 84 ∧ ∀ i, i < 6 → ∀ j, j < 14 → cs[i * 14 + j]? = (cellsS (S i))[j]?
theorem SixS.lt {W : World} {b : Nat} {S : Nat → St} (h : SixS W b S) : b < W.heap.size := by
  obtain ⟨cs, h1, _⟩ := h
  exact (Array.getElem?_eq_some_iff.1 h1).1
theorem SixS.later {W W' : World} {b : Nat} {S : Nat → St} (h : SixS W b S) (hb : Below W.heap.size W W') : SixS W' b S := by
  have hl := h.lt
  obtain ⟨cs, h1, h2⟩ := h
  exact ⟨cs, (hb.block b hl).trans h1, h2⟩
theorem SixS.field {W : World} {b : Nat} {S : Nat → St} (h : SixS W b S) (i j : Nat) (hi : i < 6) (hj : j < 14) : W.cell? ⟨b, i * 14 + j, none⟩ = (cellsS (S i))[j]? := by
  obtain ⟨cs, h1, h2, h3⟩ := h
  rw [cell_in h1]
  exact h3 i hi j hj
theorem SixS.frozen {W : World} {b : Nat} {S : Nat → St} (h : SixS W b S) (n : Nat) : W.frozen? ⟨b, n, none⟩ = false := by
  obtain ⟨cs, h1, _⟩ := h
  exact frozen_of_row h1 n
theorem cellsS_size (s : St) : (cellsS s).size = 14 := rfl
theorem SixS.range {W : World} {b : Nat} {S : Nat → St} (h : SixS W b S) (i : Nat) (hi : i < 6) : W.rangeAt b (i * 14) (cellsS (S i)).toList := by
  intro j v hj
  rw [Array.getElem?_toList] at hj
  have hl : j < 14 := (Array.getElem?_eq_some_iff.1 hj).1
  rw [h.field i j hi hl]
  exact hj
theorem SixS.set {W : World} {b : Nat} {S : Nat → St} (h : SixS W b S) (i j : Nat) (v : Value) (s' : St) (hi : i < 6) (hj : j < 14) (hs : cellsS s' = (cellsS (S i)).setIfInBounds j v) :
    SixS (W.setCell ⟨b, i * 14 + j, none⟩ v) b (fun k => if k = i then s' else S k) := by
  obtain ⟨cs, h1, h2, h3⟩ := h
  refine ⟨cs.setIfInBounds (i * 14 + j) v, row_set9 h1 _ _, by rw [Array.size_setIfInBounds, h2], fun k hk l hl => ?_⟩
  rw [Array.getElem?_setIfInBounds]
  show _ = (cellsS (if k = i then s' else S k))[l]?
  by_cases e : i * 14 + j = k * 14 + l
  · have e1 : k = i := by omega
    have e2 : l = j := by omega
    subst e1 e2
    rw [if_pos rfl, if_pos (by omega), if_pos rfl, hs, Array.getElem?_setIfInBounds, if_pos rfl, if_pos (by rw [cellsS_size]; exact hl)]
  · rw [if_neg e, h3 k hk l hl]
    by_cases e1 : k = i
    · subst e1
      rw [if_pos rfl, hs, Array.getElem?_setIfInBounds, if_neg (by omega)]
    · rw [if_neg e1]
theorem six_fill (s : St) : ∃ ie z r, Tryd.prog.info? 25 = some ie ∧ ie.zero = some z ∧ ie.size = 14 ∧
    Instr.fill (fun i => some (i * ie.size, ie.size)) ((Array.range (6 * ie.size)).map (z.cells[· % z.cells.size]!)) [(0, .agg (cellsS s)), (1, .agg (cellsS s)), (2, .agg (cellsS s)), (3, .agg (cellsS s)), (4, .agg (cellsS s)), (5, .agg (cellsS s))] = some r ∧
    r.size = 84 ∧ ∀ i, i < 6 → ∀ j, j < 14 → r[i * 14 + j]? = (cellsS s)[j]? := by
  have hsz := size14
  have hz : ((Tryd.prog.info? 25).bind (·.zero)).isSome = true := by kernel_rfl
  cases hie : Tryd.prog.info? 25 with
  | none => simp [hie] at hsz
  | some ie =>
    simp only [hie, Option.map_some, Option.some.injEq, Option.bind_some] at hsz hz
    obtain ⟨z, hzz⟩ := Option.isSome_iff_exists.1 hz
    obtain ⟨r, h1, h2, h3⟩ := Great.fill_dense (s := 14) (by omega) (List.replicate 6 (Value.agg (cellsS s))) 0 ((Array.range (6 * 14)).map (z.cells[· % z.cells.size]!)) (fun v hv => by rw [List.eq_of_mem_replicate hv]; rfl) (by simp)
    refine ⟨ie, z, r, rfl, hzz, hsz, ?_, by rw [h2]; simp, fun i hi j hj => ?_⟩
    · rw [hsz]
      exact h1
    · rw [h3, if_pos ⟨by omega, by simp; omega⟩]
      have e1 : (i * 14 + j) / 14 = i := by omega
      have e2 : (i * 14 + j) % 14 = j := by omega
      rw [e1, e2, Nat.sub_zero, List.getElem?_replicate, if_pos hi]
      rfl
/-- Right states with as long a text. -/
def GoodS (n : Nat) (s : St) : Prop := WfS s ∧ rightS s = true ∧ s.peer.size = n
theorem good_upd {n i : Nat} {S : Nat → St} {s' : St} (h : ∀ k, GoodS n (S k)) (hs : GoodS n s') (k : Nat) : GoodS n (if k = i then s' else S k) := by
  by_cases e : k = i
  · rw [if_pos e]; exact hs
  · rw [if_neg e]; exact h k
abbrev kB : ByteArray := ⟨#[107, 101, 121]⟩
set_option maxHeartbeats 1000000 in
set_option maxRecDepth 100000 in
theorem walk (s : St) (hs : InS s) (a b : Nat) (ha : a < 4294967296) (hb : b < 65536) (w : World) (hK : Kub w) :
    Calls Tryd.prog 8 #[.agg (cellsS s), .int .u32 a, .int .u16 b] w fun e w' => e = .returned (.bool true) ∧ Below w.heap.size w w' := by
  have HS := Lib.hid (StS.new 25 s w)
  have HI := Lib.hid (sizeS s)
  have HK := Lib.hid hK
  have HSH := Lib.hid (fun W => short_any s W)
  have HRG := Lib.hid (fun W => right_any9 s W)
  clear hK
  cases hsh : shortB s with
  | false =>
    rw [hsh] at HSH
    clear hsh hs HRG
    go_enter Tryd.func8, Tryd.ntmps8
    go_wp2_with fail
    refine (shown_any _ (HK.out.later HS.out.below)).mono ?_
    rintro e w1 ⟨rfl, hb1⟩
    replace HS := Lib.hid (HS.out.later hb1)
    clear hb1
    go_wp2_with (refine wpList_load_want (by rfl) 25 (.tmp 3) rfl w.heap.size rfl 25 (cellsS s) (0, 0) _ HS.out.own Tryd.underlying25 rfl HI.out ?_)
    refine (HSH.out _).mono ?_
    rintro e w2 ⟨rfl, hb1⟩
    replace HS := Lib.hid (HS.out.later hb1)
    clear hb1
    go_wp2_with fail
    go_ret
    exact ⟨rfl, HS.out.below⟩
  | true =>
  rw [hsh] at HSH
  have hp : (s.peer.size : Int) ≤ 300 := of_decide_eq_true hsh
  cases hr : rightS s with
  | false =>
    rw [hr] at HRG
    clear hsh hs hr hp
    go_enter Tryd.func8, Tryd.ntmps8
    go_wp2_with fail
    refine (shown_any _ (HK.out.later HS.out.below)).mono ?_
    rintro e w1 ⟨rfl, hb1⟩
    replace HS := Lib.hid (HS.out.later hb1)
    clear hb1
    go_wp2_with (refine wpList_load_want (by rfl) 25 (.tmp 3) rfl w.heap.size rfl 25 (cellsS s) (0, 0) _ HS.out.own Tryd.underlying25 rfl HI.out ?_)
    refine (HSH.out _).mono ?_
    rintro e w2 ⟨rfl, hb1⟩
    replace HS := Lib.hid (HS.out.later hb1)
    clear hb1
    go_wp2_with (refine wpList_load_want (by rfl) 25 (.tmp 3) rfl w.heap.size rfl 25 (cellsS s) (0, 0) _ HS.out.own Tryd.underlying25 rfl HI.out ?_)
    refine (HRG.out _).mono ?_
    rintro e w3 ⟨rfl, hb1⟩
    replace HS := Lib.hid (HS.out.later hb1)
    clear hb1
    go_wp2_with fail
    go_ret
    exact ⟨rfl, HS.out.below⟩
  | true =>
  rw [hr] at HRG
  by_cases h0 : a = 0
  · subst h0
    clear hsh hs hr hp
    go_enter Tryd.func8, Tryd.ntmps8
    go_wp2_with fail
    refine (shown_any _ (HK.out.later HS.out.below)).mono ?_
    rintro e w1 ⟨rfl, hb1⟩
    replace HS := Lib.hid (HS.out.later hb1)
    clear hb1
    go_wp2_with (refine wpList_load_want (by rfl) 25 (.tmp 3) rfl w.heap.size rfl 25 (cellsS s) (0, 0) _ HS.out.own Tryd.underlying25 rfl HI.out ?_)
    refine (HSH.out _).mono ?_
    rintro e w2 ⟨rfl, hb1⟩
    replace HS := Lib.hid (HS.out.later hb1)
    clear hb1
    go_wp2_with (refine wpList_load_want (by rfl) 25 (.tmp 3) rfl w.heap.size rfl 25 (cellsS s) (0, 0) _ HS.out.own Tryd.underlying25 rfl HI.out ?_)
    refine (HRG.out _).mono ?_
    rintro e w3 ⟨rfl, hb1⟩
    replace HS := Lib.hid (HS.out.later hb1)
    clear hb1
    go_wp2_with fail
    go_ret
    exact ⟨rfl, HS.out.below⟩
  by_cases h1 : b = 0
  · subst h1
    have h0' : ((a : Int) == 0) = false := beq_eq_false_iff_ne.2 (by omega)
    clear hsh hs hr hp h0
    go_enter Tryd.func8, Tryd.ntmps8
    go_wp2_with fail
    refine (shown_any _ (HK.out.later HS.out.below)).mono ?_
    rintro e w1 ⟨rfl, hb1⟩
    replace HS := Lib.hid (HS.out.later hb1)
    clear hb1
    go_wp2_with (refine wpList_load_want (by rfl) 25 (.tmp 3) rfl w.heap.size rfl 25 (cellsS s) (0, 0) _ HS.out.own Tryd.underlying25 rfl HI.out ?_)
    refine (HSH.out _).mono ?_
    rintro e w2 ⟨rfl, hb1⟩
    replace HS := Lib.hid (HS.out.later hb1)
    clear hb1
    go_wp2_with (refine wpList_load_want (by rfl) 25 (.tmp 3) rfl w.heap.size rfl 25 (cellsS s) (0, 0) _ HS.out.own Tryd.underlying25 rfl HI.out ?_)
    refine (HRG.out _).mono ?_
    rintro e w3 ⟨rfl, hb1⟩
    replace HS := Lib.hid (HS.out.later hb1)
    clear hb1
    go_wp2_with fail
    go_ret
    exact ⟨rfl, HS.out.below⟩
  have h0' : ((a : Int) == 0) = false := beq_eq_false_iff_ne.2 (by omega)
  have h1' : ((b : Int) == 0) = false := beq_eq_false_iff_ne.2 (by omega)
  obtain ⟨ie, z, r, i1, i2, i3, i4, i5, i6⟩ := six_fill s
  have hR := right_of hr
  have hw := hs.wf
  have G0 : ∀ k : Nat, GoodS s.peer.size ((fun _ => s) k) := fun _ => ⟨hw, hr, rfl⟩
  have G1 := good_upd (i := 0) (s' := { s with a0 := a }) G0 ⟨⟨ha, hw.a1, hw.a2, hw.a3, hw.a4, hw.a5, hw.a6, hw.b0, hw.b1, hw.b2, hw.b3⟩, right_mk ⟨h0, hR.a1, hR.b0, hR.b1, hR.b2, hR.b3, hR.peer, hR.made, hR.life⟩, rfl⟩
  have G2 := good_upd (i := 1) (s' := { s with a3 := a }) G1 ⟨⟨hw.a0, hw.a1, hw.a2, ha, hw.a4, hw.a5, hw.a6, hw.b0, hw.b1, hw.b2, hw.b3⟩, right_mk ⟨hR.a0, hR.a1, hR.b0, hR.b1, hR.b2, hR.b3, hR.peer, hR.made, hR.life⟩, rfl⟩
  have G3 := good_upd (i := 2) (s' := { s with a5 := a }) G2 ⟨⟨hw.a0, hw.a1, hw.a2, hw.a3, hw.a4, ha, hw.a6, hw.b0, hw.b1, hw.b2, hw.b3⟩, right_mk ⟨hR.a0, hR.a1, hR.b0, hR.b1, hR.b2, hR.b3, hR.peer, hR.made, hR.life⟩, rfl⟩
  have G4 := good_upd (i := 3) (s' := { s with a6 := a }) G3 ⟨⟨hw.a0, hw.a1, hw.a2, hw.a3, hw.a4, hw.a5, ha, hw.b0, hw.b1, hw.b2, hw.b3⟩, right_mk ⟨hR.a0, hR.a1, hR.b0, hR.b1, hR.b2, hR.b3, hR.peer, hR.made, hR.life⟩, rfl⟩
  have G5 := good_upd (i := 4) (s' := { s with b1 := b }) G4 ⟨⟨hw.a0, hw.a1, hw.a2, hw.a3, hw.a4, hw.a5, hw.a6, hw.b0, hb, hw.b2, hw.b3⟩, right_mk ⟨hR.a0, hR.a1, hR.b0, h1, hR.b2, hR.b3, hR.peer, hR.made, hR.life⟩, rfl⟩
  have G6 := good_upd (i := 5) (s' := { s with b3 := b }) G5 ⟨⟨hw.a0, hw.a1, hw.a2, hw.a3, hw.a4, hw.a5, hw.a6, hw.b0, hw.b1, hw.b2, hb⟩, right_mk ⟨hR.a0, hR.a1, hR.b0, hR.b1, hR.b2, h1, hR.peer, hR.made, hR.life⟩, rfl⟩
  have HF := Lib.hid i4
  have HJ1 := Lib.hid i1
  have HJ2 := Lib.hid i2
  have HZ := Lib.hid i3
  have HG6 := Lib.hid G6
  have HSX : Hid (∀ w3 : World, SixS (w3.alloc (.cells r 25)) w3.heap.size (fun _ => s)) := Lib.hid fun w3 => ⟨r, heap_alloc_new w3 _, i5, i6⟩
  clear hsh hs hr h0 h1 i1 i2 i3 i4 i5 i6 hR hw G0 G1 G2 G3 G4 G5 G6 ha hb
  go_enter Tryd.func8, Tryd.ntmps8
  go_wp2_with fail
  refine (shown_any _ (HK.out.later HS.out.below)).mono ?_
  rintro e w1 ⟨rfl, hb1⟩
  replace HS := Lib.hid (HS.out.later hb1)
  clear hb1
  go_wp2_with (refine wpList_load_want (by rfl) 25 (.tmp 3) rfl w.heap.size rfl 25 (cellsS s) (0, 0) _ HS.out.own Tryd.underlying25 rfl HI.out ?_)
  refine (HSH.out _).mono ?_
  rintro e w2 ⟨rfl, hb1⟩
  replace HS := Lib.hid (HS.out.later hb1)
  clear hb1
  go_wp2_with (refine wpList_load_want (by rfl) 25 (.tmp 3) rfl w.heap.size rfl 25 (cellsS s) (0, 0) _ HS.out.own Tryd.underlying25 rfl HI.out ?_)
  refine (HRG.out _).mono ?_
  rintro e w3 ⟨rfl, hb1⟩
  replace HS := Lib.hid (HS.out.later hb1)
  clear hb1
  obtain ⟨W0, hW0⟩ : ∃ W, W = w3.alloc (.cells r 25) := ⟨_, rfl⟩
  have H0 := HSX.out w3
  have HB0 := HS.out.below.alloc HS.out.below.size (.cells r 25)
  have hbs := HS.out.below.size
  rw [← hW0] at H0 HB0
  have HW0 := Lib.hid hW0
  clear hW0
  clear HSX
  have d0 : W0.cell? ⟨w3.heap.size, 0, none⟩ = some (.int .u32 s.a0) := H0.field 0 0 (by decide) (by decide)
  have e0 : W0.frozen? ⟨w3.heap.size, 0, none⟩ = false := H0.frozen 0
  have H1 := H0.set 0 0 (.int .u32 a) { s with a0 := a } (by decide) (by decide) rfl
  have HB1 := below_setCell9 HB0 w3.heap.size 0 (.int .u32 a) hbs
  obtain ⟨W1, hW1⟩ : ∃ W, W = W0.setCell ⟨w3.heap.size, 0, none⟩ (.int .u32 a) := ⟨_, rfl⟩
  rw [show 0 * 14 + 0 = 0 from rfl, ← hW1] at H1
  rw [← hW1] at HB1
  have s1 := hW1.symm
  have d1 : W1.cell? ⟨w3.heap.size, 17, none⟩ = some (.int .u32 s.a3) := H1.field 1 3 (by decide) (by decide)
  have e1 : W1.frozen? ⟨w3.heap.size, 17, none⟩ = false := H1.frozen 17
  have H2 := H1.set 1 3 (.int .u32 a) { s with a3 := a } (by decide) (by decide) rfl
  have HB2 := below_setCell9 HB1 w3.heap.size 17 (.int .u32 a) hbs
  obtain ⟨W2, hW2⟩ : ∃ W, W = W1.setCell ⟨w3.heap.size, 17, none⟩ (.int .u32 a) := ⟨_, rfl⟩
  rw [show 1 * 14 + 3 = 17 from rfl, ← hW2] at H2
  rw [← hW2] at HB2
  have s2 := hW2.symm
  have d2 : W2.cell? ⟨w3.heap.size, 33, none⟩ = some (.int .u32 s.a5) := H2.field 2 5 (by decide) (by decide)
  have e2 : W2.frozen? ⟨w3.heap.size, 33, none⟩ = false := H2.frozen 33
  have H3 := H2.set 2 5 (.int .u32 a) { s with a5 := a } (by decide) (by decide) rfl
  have HB3 := below_setCell9 HB2 w3.heap.size 33 (.int .u32 a) hbs
  obtain ⟨W3, hW3⟩ : ∃ W, W = W2.setCell ⟨w3.heap.size, 33, none⟩ (.int .u32 a) := ⟨_, rfl⟩
  rw [show 2 * 14 + 5 = 33 from rfl, ← hW3] at H3
  rw [← hW3] at HB3
  have s3 := hW3.symm
  have d3 : W3.cell? ⟨w3.heap.size, 48, none⟩ = some (.int .u32 s.a6) := H3.field 3 6 (by decide) (by decide)
  have e3 : W3.frozen? ⟨w3.heap.size, 48, none⟩ = false := H3.frozen 48
  have H4 := H3.set 3 6 (.int .u32 a) { s with a6 := a } (by decide) (by decide) rfl
  have HB4 := below_setCell9 HB3 w3.heap.size 48 (.int .u32 a) hbs
  obtain ⟨W4, hW4⟩ : ∃ W, W = W3.setCell ⟨w3.heap.size, 48, none⟩ (.int .u32 a) := ⟨_, rfl⟩
  rw [show 3 * 14 + 6 = 48 from rfl, ← hW4] at H4
  rw [← hW4] at HB4
  have s4 := hW4.symm
  have d4 : W4.cell? ⟨w3.heap.size, 64, none⟩ = some (.int .u16 s.b1) := H4.field 4 8 (by decide) (by decide)
  have e4 : W4.frozen? ⟨w3.heap.size, 64, none⟩ = false := H4.frozen 64
  have H5 := H4.set 4 8 (.int .u16 b) { s with b1 := b } (by decide) (by decide) rfl
  have HB5 := below_setCell9 HB4 w3.heap.size 64 (.int .u16 b) hbs
  obtain ⟨W5, hW5⟩ : ∃ W, W = W4.setCell ⟨w3.heap.size, 64, none⟩ (.int .u16 b) := ⟨_, rfl⟩
  rw [show 4 * 14 + 8 = 64 from rfl, ← hW5] at H5
  rw [← hW5] at HB5
  have s5 := hW5.symm
  have d5 : W5.cell? ⟨w3.heap.size, 80, none⟩ = some (.int .u16 s.b3) := H5.field 5 10 (by decide) (by decide)
  have e5 : W5.frozen? ⟨w3.heap.size, 80, none⟩ = false := H5.frozen 80
  have H6 := H5.set 5 10 (.int .u16 b) { s with b3 := b } (by decide) (by decide) rfl
  have HB6 := below_setCell9 HB5 w3.heap.size 80 (.int .u16 b) hbs
  obtain ⟨W6, hW6⟩ : ∃ W, W = W5.setCell ⟨w3.heap.size, 80, none⟩ (.int .u16 b) := ⟨_, rfl⟩
  rw [show 5 * 14 + 10 = 80 from rfl, ← hW6] at H6
  rw [← hW6] at HB6
  have s6 := hW6.symm
  have HX : Hid (∃ S : Nat → St, SixS W6 w3.heap.size S ∧ ∀ k, GoodS s.peer.size (S k)) := Lib.hid ⟨_, H6, HG6.out⟩
  have HBW := Lib.hid HB6
  clear H0 HB0 H1 HB1 H2 HB2 H3 HB3 H4 HB4 H5 HB5 H6 HB6 HG6 hW1 hW2 hW3 hW4 hW5 hW6
  go_wp2_with (with_reducible refine gate9 ?_; with_reducible refine stopL (by decide) ?_)
  refine Lib.hid ?_
  refine wpList_load_want (by rfl) 25 (.tmp 3) rfl w.heap.size rfl 25 (cellsS s) (0, 0) _ HS.out.own Tryd.underlying25 rfl HI.out ?_
  try simp only [Act.put, List.setIfInBounds_toArray, List.set_cons_zero, List.set_cons_succ]
  refine wpList_load_want (by rfl) 25 (.tmp 3) rfl w.heap.size rfl 25 (cellsS s) (0, 0) _ HS.out.own Tryd.underlying25 rfl HI.out ?_
  try simp only [Act.put, List.setIfInBounds_toArray, List.set_cons_zero, List.set_cons_succ]
  refine wpList_load_want (by rfl) 25 (.tmp 3) rfl w.heap.size rfl 25 (cellsS s) (0, 0) _ HS.out.own Tryd.underlying25 rfl HI.out ?_
  try simp only [Act.put, List.setIfInBounds_toArray, List.set_cons_zero, List.set_cons_succ]
  refine wpList_load_want (by rfl) 25 (.tmp 3) rfl w.heap.size rfl 25 (cellsS s) (0, 0) _ HS.out.own Tryd.underlying25 rfl HI.out ?_
  try simp only [Act.put, List.setIfInBounds_toArray, List.set_cons_zero, List.set_cons_succ]
  refine wpList_load_want (by rfl) 25 (.tmp 3) rfl w.heap.size rfl 25 (cellsS s) (0, 0) _ HS.out.own Tryd.underlying25 rfl HI.out ?_
  try simp only [Act.put, List.setIfInBounds_toArray, List.set_cons_zero, List.set_cons_succ]
  refine wpList_load_want (by rfl) 25 (.tmp 3) rfl w.heap.size rfl 25 (cellsS s) (0, 0) _ HS.out.own Tryd.underlying25 rfl HI.out ?_
  try simp only [Act.put, List.setIfInBounds_toArray, List.set_cons_zero, List.set_cons_succ]
  refine wpList_buildSlice rfl 63 25 6 _ rfl r ie z Tryd.underlying63 HJ1.out HJ2.out (by rw [HZ.out]; decide) (by rw [HZ.out]; decide) (by rw [Array.toList_map]; exact HF.out) ?_
  try simp only [Act.put, List.setIfInBounds_toArray, List.set_cons_zero, List.set_cons_succ]
  rw [← HW0.out]
  go_wp2_with fail
  obtain ⟨S, hX, hG⟩ := HX.out
  have HP : Hid (SixS W6 w3.heap.size S ∧ Below w.heap.size w W6) := Lib.hid ⟨hX, HBW.out⟩
  have HG := Lib.hid hG
  clear hX hG HX HBW HS HF HZ HJ1 HJ2 HW0 d0 d1 d2 d3 d4 d5 e0 e1 e2 e3 e4 e5 s1 s2 s3 s4 s5 s6 h0' h1'
  generalize w3.heap.size = B at *
  generalize s.peer.size = np at *
  clear HI HSH HRG
  go_loopw [10] (fun i wr => ∃ k : Nat, k ≤ 6 ∧ i = .int .i64 k ∧ Hid (SixS wr B S ∧ Below w.heap.size w wr)) (fun i _ => 6 - (intOf i).toNat)
  case atStart => exact ⟨0, by omega, rfl, HP⟩
  case round =>
    obtain ⟨k, hk, rfl, HX⟩ := hrel
    by_cases hlt : k < 6
    · obtain ⟨g1, g2, g3⟩ := HG.out k
      have HR := Lib.hid (HX.out.1.range k hlt)
      have hbu := fun W (h : Kub W) => build_any9 kB (S k) g1 (by decide) W h
      rw [buildK_right kB g2] at hbu
      have hcs := cookie_size kB (S k)
      have hrd := fun W (h : Kub W) => read_any9 kB (cookieB kB (S k)) (by decide) (by omega) W h
      rw [read_back g1 g2] at hrd
      have HBU := Lib.hid hbu
      have HRD := Lib.hid hrd
      have HSZ := Lib.hid (sizeS (S k))
      have HE := Lib.hid (cellsS_one (S k))
      have hq := fun W => neq_same (S k) W
      clear hbu hrd hcs g1 g2 g3
      generalize cookieB kB (S k) = C at *
      have z0 : (0 : Int) ≤ (k : Int) := by omega
      have z1 : (k : Int) < 6 := by omega
      go_wp2_with (refine wpList_load_mid rfl 25 (.tmp 78) rfl B (k * 14) rfl (cellsS (S k)).toList _ HR.out Tryd.underlying25 rfl HSZ.out ?_)
      refine (HBU.out _ (HK.out.later HX.out.2)).mono ?_
      rintro e w4 ⟨rfl, hb4⟩
      have HX4 : Hid (SixS w4 B S ∧ Below w.heap.size w w4) := Lib.hid ⟨HX.out.1.later hb4, HX.out.2.trans (hb4.mono HX.out.2.size)⟩
      clear hb4 HX HR HBU
      go_wp2_with fail
      refine (HRD.out _ (HK.out.later HX4.out.2)).mono ?_
      rintro e w5 ⟨rfl, hb5⟩
      have HX5 : Hid (SixS (w5.alloc (.cells (cellsS (S k)) 25)) B S ∧ Below w.heap.size w (w5.alloc (.cells (cellsS (S k)) 25))) :=
        Lib.hid (have h1 := HX4.out.2.trans (hb5.mono HX4.out.2.size); ⟨(HX4.out.1.later hb5).later ((Below.refl _ _).alloc (Nat.le_refl _) _), h1.alloc h1.size _⟩)
      have HO5 := Lib.hid (heap_alloc_new w5 (.cells (cellsS (S k)) 25))
      clear hb5 HX4 HRD
      go_wp2_with (refine wpList_store_row rfl 25 (.tmp 13) (.tmp 86) rfl w5.heap.size (cellsS (S k)) rfl rfl 25 #[.int .u32 0, .int .u32 0, .int .u32 0, .int .u32 0, .int .u32 0, .int .u32 0, .int .u32 0, .int .u16 0, .int .u16 0, .int .u16 0, .int .u16 0, .string ⟨#[]⟩, .int .i64 0, .int .i64 0] (heap_alloc_new _ _) HSZ.out rfl HE.out ?_; rw [World.setRow_alloc_new])
      refine wp_region_noPanic ?_
      refine wp_region_held_drew (S := fun W' => SixS W' B S ∧ W'.heap[w5.heap.size]? = some (.cells (cellsS (S k)) 25 (0, 0))) (by kernel_rfl) ?_ (fun hHeld => ?_)
      · exact ⟨HX5.out.1, HO5.out⟩
      refine k9 0 ?_ (y := ?_) (h := ?_)
      rotate_left 1
      · (intro w' hSw; (try dsimp only at hSw); go_simp; try with_reducible rfl)
      try simp only [Act.put, List.setIfInBounds_toArray, List.set_cons_zero, List.set_cons_succ]
      refine k9 1 ?_ (y := ?_) (h := ?_)
      rotate_left 1
      · (intro w' hSw; (try dsimp only at hSw); go_simp; try with_reducible rfl)
      try simp only [Act.put, List.setIfInBounds_toArray, List.set_cons_zero, List.set_cons_succ]
      refine k9 2 ?_ (y := ?_) (h := ?_)
      rotate_left 1
      · (intro w' hSw; (try dsimp only at hSw); go_simp; try with_reducible rfl)
      try simp only [Act.put, List.setIfInBounds_toArray, List.set_cons_zero, List.set_cons_succ]
      refine k9 3 ?_ (y := ?_) (h := ?_)
      rotate_left 1
      · (intro w' hSw; (try dsimp only at hSw); go_simp; try with_reducible rfl)
      try simp only [Act.put, List.setIfInBounds_toArray, List.set_cons_zero, List.set_cons_succ]
      refine k9 4 ?_ (y := ?_) (h := ?_)
      rotate_left 1
      · (intro w' hSw; (try dsimp only at hSw); go_simp; try with_reducible rfl)
      try simp only [Act.put, List.setIfInBounds_toArray, List.set_cons_zero, List.set_cons_succ]
      refine k9 5 ?_ (y := ?_) (h := ?_)
      rotate_left 1
      · (intro w' hSw; (try dsimp only at hSw); go_simp; try with_reducible rfl)
      try simp only [Act.put, List.setIfInBounds_toArray, List.set_cons_zero, List.set_cons_succ]
      refine k9 6 ?_ (y := ?_) (h := ?_)
      rotate_left 1
      · (intro w' hSw; (try dsimp only at hSw); go_simp; try with_reducible rfl)
      try simp only [Act.put, List.setIfInBounds_toArray, List.set_cons_zero, List.set_cons_succ]
      refine k7 7 _ (y := yieldsIf_load_mid (by rfl) 25 (.tmp 13) rfl _ 0 (by rfl) _ _ (fun W h => range_of_row h.2) Tryd.underlying25 rfl HSZ.out) (h := ?_)
      try simp only [Act.put, List.setIfInBounds_toArray, List.set_cons_zero, List.set_cons_succ]
      refine k9 8 ?_ (y := ?_) (h := ?_)
      rotate_left 1
      · (intro w' hSw; (try dsimp only at hSw); go_simp; try with_reducible rfl)
      try simp only [Act.put, List.setIfInBounds_toArray, List.set_cons_zero, List.set_cons_succ]
      refine k9 9 ?_ (y := ?_) (h := ?_)
      rotate_left 1
      · (intro w' hSw; (try dsimp only at hSw); go_simp; try with_reducible rfl)
      try simp only [Act.put, List.setIfInBounds_toArray, List.set_cons_zero, List.set_cons_succ]
      refine k9 10 ?_ (y := ?_) (h := ?_)
      rotate_left 1
      · (intro w' hSw; (try dsimp only at hSw); go_simp; try with_reducible rfl)
      try simp only [Act.put, List.setIfInBounds_toArray, List.set_cons_zero, List.set_cons_succ]
      refine k7 11 _ (y := yieldsIf_load_mid (by rfl) 25 (.tmp 98) rfl _ (k * 14) (by rfl) _ _ (fun W h => h.1.range k hlt) Tryd.underlying25 rfl HSZ.out) (h := ?_)
      try simp only [Act.put, List.setIfInBounds_toArray, List.set_cons_zero, List.set_cons_succ]
      refine k9 12 ?_ (y := ?_) (h := ?_)
      rotate_left 1
      · (intro w' hSw; (try dsimp only at hSw); go_simp; try with_reducible rfl)
      try simp only [Act.put, List.setIfInBounds_toArray, List.set_cons_zero, List.set_cons_succ]
      refine k9 13 ?_ (y := ?_) (h := ?_)
      rotate_left 1
      · (intro w' hSw; (try dsimp only at hSw); go_simp; try with_reducible rfl)
      try simp only [Act.put, List.setIfInBounds_toArray, List.set_cons_zero, List.set_cons_succ]
      refine wpAnyH_done (by kernel_rfl) ?_ _
      refine NoPanic.normal ?_
      clear hHeld
      go_wp2_with fail
      go_roundw
      case rel => exact ⟨k + 1, by omega, by go_num, Lib.hid ⟨HX5.out.1, HX5.out.2.drew⟩⟩
      case measure => simp [intOf]; omega
    · obtain rfl : k = 6 := by omega
      go_wp2_with fail
      go_ret
      exact ⟨rfl, HX.out.2⟩

set_option maxRecDepth 100000 in
theorem lifted (os : Os) (started : os.Started) (H : Type) (enc : TypeId × Value → H) :
    ReturnsInHanded {} Tryd.checked os 8 .any (fun w args => (Rows.cookiePartsSpec.pre enc Tryd.prog Tryd.f8 [] false w args ∧ laidMetH Tryd.prog laidK w) ∧ sizedMet enc Tryd.prog Tryd.f8 (OpenSpec.ofChange Rows.cookiePartsSpec) false w args) (Rows.cookiePartsSpec.post enc Tryd.prog Tryd.f8 false true false false) := by
  refine returnsInHanded_of_change_and (C := Tryd.checked) (X := fun w _ => laidMetH Tryd.prog laidK w) (fun _ _ _ hh h => h.of_heap hh) own started (by kernel_rfl) Tryd.func8
    (ChangeSpec.witness_shaped (enc := enc) (C := Tryd.checked) (os := os) (X := fun w _ => laidMetH Tryd.prog laidK w) false (World.doorLaid Tryd.prog 14 os) #[.agg #[.int .u32 0, .int .u32 0, .int .u32 0, .int .u32 0, .int .u32 0, .int .u32 0, .int .u32 0, .int .u16 0, .int .u16 0, .int .u16 0, .int .u16 0, .string ⟨#[]⟩, .int .i64 0, .int .i64 0], .int .u32 0, .int .u16 0] 8 rfl (World.shaped_of_RefB (by kernel_rfl) (by kernel_rfl)) (by kernel_rfl) (by kernel_rfl) (by kernel_rfl) (door_met os _)) ?_
  intro W base args ds gs before hval0 hW _ hreach hL _
  have hval : ∀ (j : Nat) t v, Tryd.f8.params[j]? = some t → args[j]? = some v → Value.okWide Tryd.prog W .any base t v := hval0
  obtain ⟨p, q, hA0, _, _, _, _⟩ := id hW
  have hA : DataW.TrodAll enc Tryd.prog W 0 (fun _ => true) true Tryd.f8.params.toList args.toList ds p := hA0
  rw [Tryd.params8] at hA hval
  obtain ⟨v0, vs0, d0, ds0, p0, q0, hargs, rfl, rfl, h0, r0⟩ := trodAll_cons hA
  obtain ⟨v1, vs1, d1, ds1, p1, q1, rfl, rfl, rfl, h1, r1⟩ := trodAll_cons r0
  obtain ⟨v2, vs2, d2, ds2, p2, q2, rfl, rfl, rfl, h2, r2⟩ := trodAll_cons r1
  obtain ⟨rfl, rfl, rfl⟩ := trodAll_nil r2
  obtain rfl : args = #[v0, v1, v2] := by cases args; simp_all
  obtain ⟨s0, rfl, i0⟩ := state_in (hval 0 25 v0 rfl rfl) h0
  obtain ⟨a1, rfl, rfl, rfl, w1⟩ := open_int Tryd.underlying22 (hval 1 22 v1 rfl rfl) h1
  obtain ⟨n1, rfl, b1⟩ := nat_u32 w1
  obtain ⟨a2, rfl, rfl, rfl, w2⟩ := open_int Tryd.underlying23 (hval 2 23 v2 rfl rfl) h2
  obtain ⟨n2, rfl, b2⟩ := nat_u16 w2
  refine (walk s0 i0 n1 n2 b1 b2 W (kub_of_laid hL)).mono fun e W' ⟨he, hg⟩ => ?_
  subst he
  exact ⟨_, rfl, law_post laidOut Tryd.underlying4 (by kernel_rfl) (by kernel_rfl) rfl hW (by simp [Rows.cookiePartsSpec]) hg⟩

theorem row_proved : Rows.CookiePartsSaid :=
  OpenClaim.holds_of_wide 8 Tryd.f8 rfl rfl rfl rfl rfl rfl rfl ⟨rfl, rfl, rfl, rfl, rfl⟩ rfl rfl rfl rfl rfl (by kernel_rfl) Tryd.func8 (by kernel_rfl)
    (of_decide_eq_true (by kernel_rfl)) (by unfold Func.isWrapper; first | (rw [if_pos (by decide +kernel)]; kernel_rfl) | (rw [if_neg (by decide +kernel)]; exact ⟨rfl, rfl⟩))
    (fun os started H enc _ => lifted os started H enc)

theorem proved : Rows.CookiePartsCardSaid :=
  Claim7.holds_tied_plain_at .later [] [.data] true _ _
    row_proved (fun _ h => by cases h) (by kernel_rfl) (fun _ h => by cases h) cookieParts_row_tie rfl ⟨rfl, rfl⟩ (by kernel_rfl) rfl
    (fun f fn hf hfn => by
      obtain rfl : f = 8 := Option.some.inj ((show Tryd.prog.funcNamed "towline/towlinelaw9.CookieParts" = some 8 by kernel_rfl).symm.trans hf) |>.symm
      obtain rfl : fn = Tryd.f8 := (Option.some.inj (Tryd.func8.symm.trans hfn)).symm
      exact ⟨by kernel_rfl, fun j t ht => by
        rw [Tryd.params8] at ht
        have hm : t ∈ [25, 23, 22] := by have := Array.mem_of_getElem? ht; simp at this; simp; first | omega | (rcases this with h | h <;> simp [h]) | (rcases this with h | h | h <;> simp [h]) | (rcases this with h | h | h | h <;> simp [h])
        have hall : ([25, 23, 22].all fun u => !Tryd.prog.wantsStandIn u) = true := by kernel_rfl
        exact (show Tryd.prog.wantsStandIn t = false by simpa using List.all_eq_true.1 hall t hm)⟩)
    (by kernel_rfl)
#print axioms proved
end Go.Proofs.YthfiebdpoleeeaaDoor.cookieParts
