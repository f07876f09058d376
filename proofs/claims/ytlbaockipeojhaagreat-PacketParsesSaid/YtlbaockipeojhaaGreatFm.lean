/-
  Whether a packet is right, but for what chunk says of its chunks, and for its bytes: a contract; chunks of a row behind a letter.
-/
import Derived.Test.YtlbaockipeojhaaGreatTakes
import Derived.Deep.MidRow
namespace Go.Proofs.YtlbaockipeojhaaGreat
open Go.RowKit
set_option linter.unusedVariables false
set_option linter.unusedSimpArgs false
set_option maxRecDepth 100000

/-- A chunk of a row behind a letter: its cells. -/
structure HasL (x : Cv) (CL : List Value) : Prop where
  cells : x.cells.toList = CL
  arr : cellsC x.c x.g x.d x.it = CL.toArray
  size : (Tryz.prog.info? 52).map (·.size) = some CL.length
  sizeA : (Tryz.prog.info? 52).map (·.size) = some CL.toArray.size
  fourteen : CL.toArray.size = 14
theorem hasL (x : Cv) : ∃ CL, HasL x CL := ⟨_, rfl, rfl, ckSize, ckSize, rfl⟩
theorem HasL.one {x : Cv} {CL : List Value} (h : HasL x CL) {w : World} (hp : Parts w x.c x.g x.d x.it) : CL.toArray.all (·.oneCell') = true := by
  rw [← h.arr]
  exact hp.one
theorem RowK.take {w : World} {A : Option Addr} {n cap : Nat} {l : List Cv} (h : RowK w (.slice A n cap) l) {k : Nat} (hk : k ≤ l.length) : RowK w (.slice A k cap) (l.take k) := by
  obtain ⟨A', cap', hv, hc, hm, hcells⟩ := h
  cases hv
  have e : (l.take k).length = k := by rw [List.length_take]; omega
  refine ⟨A, cap, by rw [e], by omega, hm, fun hp => ?_⟩
  obtain ⟨b, off, hA, hb, hr⟩ := hcells (by omega)
  refine ⟨b, off, hA, hb, fun j hj => ?_⟩
  rw [List.getElem_take]
  exact hr j (by omega)
theorem formed_not8 {f t g : Nat} {l : List Cv} {k : Nat} (h : k < l.length) (hx : takesB f t g (typesV (l.take k)) l[k].c.type = false) : formedP f t g (typesV l) = false :=
  formedP_not (i := k) (by rw [typesV_length]; exact h) (by rw [typesV_take, typesV_at _ h]; exact hx)
theorem formed_is8 {f t g : Nat} {l : List Cv} (hx : ∀ k (h : k < l.length), takesB f t g (typesV (l.take k)) l[k].c.type = true) : formedP f t g (typesV l) = decide (0 < l.length) := by
  have := formedP_is (f := f) (t := t) (g := g) (ts := typesV l) fun i hi => by
    rw [typesV_length] at hi
    rw [typesV_take, typesV_at _ hi]
    exact hx i hi
  rw [typesV_length] at this
  exact this
/-- Where a packet and a copy of it lie. -/
structure FmS (n0 f t g : Nat) (V : Value) (w W : World) : Prop where
  own : W.heap[n0]? = some (.cells (cellsP f t g V) 26 (0, 0))
  front : ∃ u, W.heap[n0 + 1]? = some (.cells (cellsP f t g u) 26 (0, 0))
  below : Below n0 w W
  size : n0 + 2 ≤ W.heap.size
theorem FmS.later {n0 f t g : Nat} {V : Value} {w W W' : World} (h : FmS n0 f t g V w W) (hb : Below W.heap.size W W') : FmS n0 f t g V w W' := by
  obtain ⟨h1, ⟨u, h2⟩, h3, h4⟩ := h
  exact ⟨(hb.block _ (by omega)).trans h1, ⟨u, (hb.block _ (by omega)).trans h2⟩, h3.trans (hb.mono (by omega)), Nat.le_trans h4 hb.size⟩
theorem ckZero : (#[.int .i64 0, .int .i64 0, .int .u32 0, .int .u32 0, .int .u32 0, .int .u32 0, .int .u16 0, .int .u16 0, .int .u16 0, .int .u16 0, .slice none 0 0, .slice none 0 0, .slice none 0 0, .string ⟨#[]⟩] : Array Value).size = 14 := rfl
set_option maxHeartbeats 8000000 in
theorem formed_any8 (f t g : Nat) (V : Value) (l : List Cv) (hl : l.length ≤ 100000) (w : World) (h : Rk w V l) :
    Calls Tryz.prog 19 #[.agg (cellsP f t g V)] w fun e w' => e = .returned (.bool (formedP f t g (typesV l))) ∧ Below w.heap.size w w' := by
  have HN := Lib.hid (fun k (hk : k < l.length) => formed_not8 (f := f) (t := t) (g := g) hk)
  have HY := Lib.hid (fun hx => formed_is8 (f := f) (t := t) (g := g) (l := l) hx)
  have HK := Lib.hid h
  obtain ⟨A, cap, rfl, hcap, hmax, hcells⟩ := h.row
  have HC := Lib.hid hcells
  have hlm : (l.length : Int) ≤ 4611686018427387904 := by omega
  clear hcells h
  generalize formedP f t g (typesV l) = q at *
  dsimp only [cellsP] at *
  go_enter Tryz.func19, Tryz.ntmps19
  go_wp2_with fail
  have HS := Lib.hid (show FmS w.heap.size f t g (.slice A l.length cap) w ((w.alloc (.cells #[.int .u16 (f : Int), .int .u16 (t : Int), .int .u32 (g : Int), .slice A l.length cap] 26)).alloc (.cells #[.int .u16 (f : Int), .int .u16 (t : Int), .int .u32 (g : Int), .slice A l.length cap] 26)) from by
    refine ⟨heap_second_at w _ _ rfl, ⟨_, heap_new_at _ _ (by rw [World.size_alloc])⟩, below_two w _ _, by simp [World.size_alloc]⟩)
  generalize ((w.alloc (.cells #[.int .u16 (f : Int), .int .u16 (t : Int), .int .u32 (g : Int), .slice A l.length cap] 26)).alloc (.cells #[.int .u16 (f : Int), .int .u16 (t : Int), .int .u32 (g : Int), .slice A l.length cap] 26)) = w0 at *
  go_loopw [10] (fun i wr => ∃ k : Nat, k ≤ l.length ∧ i = .int .i64 k ∧ Hid (FmS w.heap.size f t g (.slice A l.length cap) w wr ∧ ∀ j (hj : j < l.length), j < k → takesB f t g (typesV (l.take j)) l[j].c.type = true))
    (fun i _ => l.length - (intOf i).toNat)
  case atStart => exact ⟨0, Nat.zero_le _, rfl, Lib.hid ⟨HS.out, fun j hj hk => absurd hk (Nat.not_lt_zero _)⟩⟩
  case round =>
    obtain ⟨k, hk, rfl, HR⟩ := hrel
    obtain ⟨hs, hall⟩ := HR.out
    have HALL := Lib.hid hall
    clear hall HR HS
    by_cases hlt : k < l.length
    · obtain ⟨b, off, rfl, hb, hr⟩ := HC.out (by omega)
      have hp := (HK.out.parts _ (List.getElem_mem hlt)).below hs.below
      obtain ⟨CL, hL⟩ := hasL l[k]
      have hr' : wr.rangeAt b (off + k * 14) CL := by rw [← hL.cells]; exact rangeAt_below (hr k hlt) hb hs.below
      have HR := Lib.hid hr'
      have HL := Lib.hid hL
      have HONE := Lib.hid (hL.one hp)
      have HN1 := Lib.hid (HN.out k hlt)
      have HT := Lib.hid (show ∀ W, Below w.heap.size w W → Calls Tryz.prog 40 #[.agg #[.int .u16 (f : Int), .int .u16 (t : Int), .int .u32 (g : Int), .slice (some ⟨b, off, none⟩) k cap], .agg CL.toArray] W fun e w' => e = .returned (.bool (takesB f t g (typesV (l.take k)) l[k].c.type)) ∧ Below W.heap.size W w' from fun W hW => by
        rw [← hL.arr]
        exact takes_any f t g _ _ _ _ _ _ W ((HK.out.below hW).row.take (by omega)) ((HK.out.parts _ (List.getElem_mem hlt)).below hW))
      have HALL2 := Lib.hid (show takesB f t g (typesV (l.take k)) l[k].c.type = true → ∀ j (hj : j < l.length), j < k + 1 → takesB f t g (typesV (l.take j)) l[j].c.type = true from fun hx j hj hk' => by
        by_cases e : j = k
        · subst e; exact hx
        · exact HALL.out j hj (by omega))
      generalize takesB f t g (typesV (l.take k)) l[k].c.type = r at *
      have HFS := Lib.hid hs
      obtain ⟨u, hfront⟩ := hs.front
      have hsz := hs.size
      have HA1 : Below wr.heap.size wr (wr.alloc (.cells CL.toArray 52)) := (Below.refl _ _).alloc (Nat.le_refl _) _
      have hown1 := (HA1.block w.heap.size (by omega)).trans hs.own
      have hfr1 := (HA1.block (w.heap.size + 1) (by omega)).trans hfront
      have c3 : (wr.alloc (.cells CL.toArray 52)).cell? ⟨w.heap.size, 3, none⟩ = some (.slice (some ⟨b, off, none⟩) l.length cap) := by rw [cell_in hown1]; rfl
      have d3 : (wr.alloc (.cells CL.toArray 52)).cell? ⟨w.heap.size + 1, 3, none⟩ = some u := by rw [cell_in hfr1]; rfl
      have f3 : (wr.alloc (.cells CL.toArray 52)).frozen? ⟨w.heap.size + 1, 3, none⟩ = false := frozen_of_row hfr1 3
      have hfr2 := row_set hfr1 3 (.slice (some ⟨b, off, none⟩) k cap)
      have hown2 := (Below.heap_setCell (wr.alloc (.cells CL.toArray 52)) ⟨w.heap.size + 1, 3, none⟩ (.slice (some ⟨b, off, none⟩) k cap) w.heap.size (by show w.heap.size ≠ w.heap.size + 1; omega)).trans hown1
      have HSN := Lib.hid (show FmS w.heap.size f t g (.slice (some ⟨b, off, none⟩) l.length cap) w ((wr.alloc (.cells CL.toArray 52)).setCell ⟨w.heap.size + 1, 3, none⟩ (.slice (some ⟨b, off, none⟩) k cap)) from
        ⟨hown2, ⟨_, hfr2⟩, Below.setCell ((hs.below.alloc (by omega) _)) (by show w.heap.size ≤ w.heap.size + 1; omega) _, by simp [World.setCell, World.size_alloc]; omega⟩)
      have d0' : ((wr.alloc (.cells CL.toArray 52)).setCell ⟨w.heap.size + 1, 3, none⟩ (.slice (some ⟨b, off, none⟩) k cap)).cell? ⟨w.heap.size + 1, 0, none⟩ = some (.int .u16 (f : Int)) := by rw [cell_in hfr2]; rfl
      have d1' : ((wr.alloc (.cells CL.toArray 52)).setCell ⟨w.heap.size + 1, 3, none⟩ (.slice (some ⟨b, off, none⟩) k cap)).cell? ⟨w.heap.size + 1, 1, none⟩ = some (.int .u16 (t : Int)) := by rw [cell_in hfr2]; rfl
      have d2' : ((wr.alloc (.cells CL.toArray 52)).setCell ⟨w.heap.size + 1, 3, none⟩ (.slice (some ⟨b, off, none⟩) k cap)).cell? ⟨w.heap.size + 1, 2, none⟩ = some (.int .u32 (g : Int)) := by rw [cell_in hfr2]; rfl
      have d3' : ((wr.alloc (.cells CL.toArray 52)).setCell ⟨w.heap.size + 1, 3, none⟩ (.slice (some ⟨b, off, none⟩) k cap)).cell? ⟨w.heap.size + 1, 3, none⟩ = some (.slice (some ⟨b, off, none⟩) k cap) := by rw [cell_in hfr2]; rfl
      have q1 : (k : Int) < (l.length : Int) := by omega
      have q2 : (0 : Int) ≤ (k : Int) := by omega
      have q3 : (k : Int) ≤ (cap : Int) := by omega
      clear hr hr' hp hL hs hfront HC HK HN HY HA1 hown1 hfr1 hfr2 hown2 HFS
      go_wp2_with (first
        | (refine wpList_load_mid rfl 52 (.tmp 13) rfl b (off + k * 14) rfl CL _ HR.out Tryz.underlying52 rfl HL.out.size ?_)
        | (refine wpList_store_row rfl 52 (.tmp 5) (.tmp 14) rfl wr.heap.size CL.toArray rfl rfl 52 _ (heap_alloc_new _ _) HL.out.sizeA (ckZero.trans HL.out.fourteen.symm) HONE.out ?_; rw [World.setRow_alloc_new])
        | (refine wpList_load_row rfl 52 (.tmp 5) rfl wr.heap.size rfl 52 CL.toArray (0, 0) _ (by rw [Below.heap_setCell _ _ _ _ (by show wr.heap.size ≠ w.heap.size + 1; omega)]; exact heap_alloc_new _ _) Tryz.underlying52 rfl HL.out.sizeA ?_))
      refine (HT.out _ HSN.out.below).mono ?_
      rintro _ w3 ⟨rfl, hb3⟩
      have HS3 := Lib.hid (HSN.out.below.trans (hb3.mono (by have := HSN.out.size; omega)))
      have HS4 := Lib.hid (HSN.out.later hb3)
      clear c3 d3 f3 d0' d1' d2' d3' hb3 HSN
      cases r
      · obtain rfl := HN1.out rfl
        go_wp2_with fail
        go_ret
        exact ⟨rfl, HS3.out⟩
      · have HALL3 := Lib.hid (HALL2.out rfl)
        go_wp2_with fail
        go_roundw
        case rel => exact ⟨k + 1, by omega, by go_num, Lib.hid ⟨HS4.out, HALL3.out⟩⟩
        case measure => simp [intOf]; omega
    · obtain rfl : k = l.length := by omega
      obtain rfl := HY.out (fun j hj => HALL.out j hj hj)
      have c3 : wr.cell? ⟨w.heap.size, 3, none⟩ = some (.slice A l.length cap) := by rw [cell_in hs.own]; rfl
      have HB := Lib.hid hs.below
      have q1 : decide (0 < l.length) = decide ((0 : Int) < (l.length : Int)) := by rw [decide_eq_decide]; omega
      go_wp2_with fail
      go_ret
      exact ⟨rfl, HB.out⟩
end Go.Proofs.YtlbaockipeojhaaGreat
