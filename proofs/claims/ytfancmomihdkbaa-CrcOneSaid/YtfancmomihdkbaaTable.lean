/-
  The table of the bytes' steps, as package crc makes it: 256 numbers, each the step of its place.
-/
import Derived.Test.YtfancmomihdkbaaProg
import Derived.Test.YtfancmomihdkbaaMath
import Derived.WalkKit
import Derived.Lib.Hide
import Derived.Deep.WholeRow
import Derived.Below
import Derived.IntWalk
import Derived.Deep.Draws
import Derived.StillTailTactics
namespace Go.Proofs.Ytfancmomihdkbaa
open Go.RowKit
set_option linter.unusedVariables false

/-- A row of 256 numbers of 32 bits. -/
def rowOf (f : Nat → Nat) : Array Value := ((List.range 256).map fun i => Value.int .u32 ((f i : Nat) : Int)).toArray
theorem rowOf_size (f : Nat → Nat) : (rowOf f).size = 256 := by simp [rowOf]
theorem rowOf_at (f : Nat → Nat) {i : Nat} (h : i < 256) : (rowOf f)[i]? = some (.int .u32 ((f i : Nat) : Int)) := by simp [rowOf, h]
theorem rowOf_none (f : Nat → Nat) {i : Nat} (h : ¬ i < 256) : (rowOf f)[i]? = none := by simp [rowOf]; omega
theorem rowOf_zero : Array.replicate 256 (Value.int .u32 0) = rowOf fun _ => 0 := by
  apply Array.ext_getElem?
  intro i
  by_cases h : i < 256
  · rw [rowOf_at _ h]; simp [h]
  · rw [rowOf_none _ h]; simp [h]
theorem rowOf_set (f g : Nat → Nat) {x v : Nat} (h : x < 256) (hg : ∀ i, i < 256 → g i = if i = x then v else f i) : (rowOf f).setIfInBounds x (.int .u32 (v : Int)) = rowOf g := by
  apply Array.ext_getElem?
  intro i
  rw [Array.getElem?_setIfInBounds, rowOf_size]
  by_cases hi : i < 256
  · rw [rowOf_at g hi, hg i hi]
    by_cases e : x = i
    · subst e; simp [h]
    · simp [e, show ¬ i = x by omega, rowOf_at f hi]
  · rw [rowOf_none g hi]
    by_cases e : x = i
    · omega
    · simp [e, rowOf_none f hi]
theorem rowOf_one (f : Nat → Nat) : (rowOf f).all (·.oneCell') = true := by
  rw [Array.all_eq_true]
  intro i hi
  rw [rowOf_size] at hi
  have h := rowOf_at f hi
  rw [Array.getElem?_eq_getElem (by rw [rowOf_size]; exact hi)] at h
  rw [Option.some.inj h]
  rfl

theorem ret_u32 {a b : Int} (h : a = b) : Ending.returned (.int .u32 a) = .returned (.int .u32 b) := by rw [h]
theorem halve_any (n : Nat) (hn : n < 4294967296) (w : World) : Calls Try.prog 20 #[.int .u32 (n : Int)] w fun e w' => e = .returned (.int .u32 (half n : Nat)) ∧ w = w' := by
  have ha : bits .and .u32 (n : Int) 1 = ((n % 2 : Nat) : Int) := by
    have := u32_and_nat n 1 hn (by omega)
    rw [nat_mask1] at this
    exact this
  have hx : bits .xor .u32 ((n : Int) / 2) 2197175160 = ((n / 2 ^^^ 2197175160 : Nat) : Int) := u32_xor_nat (n / 2) 2197175160 (by omega) (by omega)
  by_cases h : n % 2 = 1
  · have hq := Lib.hid (half_odd h)
    have h1 : ((n : Int) % 2 == 1) = true := by simp; omega
    go_enter Try.func20, Try.ntmps20
    go_wp2
    go_ret
    exact ⟨ret_u32 (by rw [hq.out]), rfl⟩
  · have hq := Lib.hid (half_even (show n % 2 = 0 by omega))
    have h1 : ((n : Int) % 2 == 1) = false := by simp; omega
    go_enter Try.func20, Try.ntmps20
    go_wp2
    go_ret
    exact ⟨ret_u32 (by rw [hq.out]; omega), rfl⟩

/-- The table after k of the eight halvings of its powers of two. -/
def tab1 (k : Nat) (i : Nat) : Nat := if i &&& (i - 1) = 0 ∧ 2 ^ (8 - k) ≤ i then step i else 0
/-- The register and the bit after k halvings. -/
def reg1 : Nat → Nat
  | 0 => 1
  | k + 1 => half (reg1 k)
def bit1 (k : Nat) : Nat := 2 ^ (8 - k) / 2
/-- The table with all places below k. -/
def tab2 (k : Nat) (i : Nat) : Nat := if i < k ∨ i &&& (i - 1) = 0 then step i else 0
/-- k but for its lowest bit. -/
def rest2 (k : Nat) : Nat := if k = 0 then 0 else k &&& (k - 1)
theorem reg1_lt (k : Nat) : reg1 k < 4294967296 := by
  induction k with
  | zero => decide
  | succ k ih => exact half_lt ih
theorem bit1_facts : ∀ k, k < 8 → bit1 (k + 1) = bit1 k / 2 ∧ bit1 k < 256 ∧ 0 < bit1 k := by decide
theorem tab1_next : ∀ k, k < 8 → ∀ i, i < 256 → tab1 (k + 1) i = if i = bit1 k then half (reg1 k) else tab1 k i := by decide +kernel
theorem tab1_first : ∀ i, i < 256 → tab1 0 i = 0 := by decide +kernel
theorem tab2_first : ∀ i, i < 256 → tab2 0 i = tab1 8 i := by decide +kernel
theorem tab2_parts : ∀ k, k < 256 → rest2 k < 256 ∧ k ^^^ rest2 k < 256 ∧ tab2 k (rest2 k) = step (rest2 k) ∧ tab2 k (k ^^^ rest2 k) = step (k ^^^ rest2 k) := by decide +kernel
theorem tab2_xor {k : Nat} (hk : k < 256) : tab2 k (rest2 k) ^^^ tab2 k (k ^^^ rest2 k) = step k := by
  obtain ⟨_, _, h3, h4⟩ := tab2_parts k hk
  rw [h3, h4, ← step_xor, show rest2 k ^^^ (k ^^^ rest2 k) = k ^^^ (rest2 k ^^^ rest2 k) by ac_rfl, Nat.xor_self, Nat.xor_zero]
theorem tab2_next {k : Nat} (hk : k < 256) (i : Nat) : tab2 (k + 1) i = if i = k then step k else tab2 k i := by
  unfold tab2
  by_cases e : i = k
  · subst e; simp
  · rw [if_neg e]
    by_cases h : i < k ∨ i &&& (i - 1) = 0
    · rw [if_pos h, if_pos (h.imp_left fun _ => by omega)]
    · rw [if_neg h, if_neg (fun h' => h (h'.imp_left fun _ => by omega))]
theorem tab2_last {i : Nat} (h : i < 256) : tab2 256 i = step i := by unfold tab2; rw [if_pos (.inl h)]
theorem and_rest : ∀ k : Nat, k < 256 → bits .and .i64 (k : Int) ((k : Int) - 1) = ((rest2 k : Nat) : Int) := by decide +kernel
theorem xor_rest : ∀ k : Nat, k < 256 → bits .xor .i64 (k : Int) ((rest2 k : Nat) : Int) = ((k ^^^ rest2 k : Nat) : Int) := by decide +kernel
theorem rowOf_congr {f g : Nat → Nat} (h : ∀ i, i < 256 → f i = g i) : rowOf f = rowOf g := by
  unfold rowOf
  congr 1
  apply List.map_congr_left
  intro i hi
  rw [h i (by simpa using hi)]

/-- Block g is a row of 256 numbers. -/
def Tab (w : World) (g : Nat) (f : Nat → Nat) : Prop := w.heap[g]? = some (.cells (rowOf f) 37 (0, 0))
theorem Tab.cell {w : World} {g : Nat} {f : Nat → Nat} (h : Tab w g f) {i : Nat} (hi : i < 256) : w.cell? ⟨g, i, none⟩ = some (.int .u32 ((f i : Nat) : Int)) := by
  rw [cell_of_row w g i _ _ _ h, rowOf_at f hi]
theorem Tab.free {w : World} {g : Nat} {f : Nat → Nat} (h : Tab w g f) (i : Nat) : w.frozen? ⟨g, i, none⟩ = false := frozen_of_row w g i _ _ h
theorem Tab.drewN {w : World} {g : Nat} {f : Nat → Nat} (h : Tab w g f) (n : Nat) : Tab (w.drewN n) g f := h
theorem Tab.congr {w : World} {g : Nat} {f f' : Nat → Nat} (h : Tab w g f) (e : ∀ i, i < 256 → f i = f' i) : Tab w g f' := by unfold Tab at h ⊢; rw [← rowOf_congr e]; exact h
theorem Tab.lt {w : World} {g : Nat} {f : Nat → Nat} (h : Tab w g f) : g < w.heap.size := (Array.getElem?_eq_some_iff.1 h).1
theorem Tab.store {w : World} {g : Nat} {f f' : Nat → Nat} (h : Tab w g f) {x v : Nat} (hx : x < 256) (e : ∀ i, i < 256 → f' i = if i = x then v else f i) : Tab (w.setCell ⟨g, x, none⟩ (.int .u32 (v : Int))) g f' := by
  unfold Tab
  rw [heap_setCell_same w g x _ _ _ h, rowOf_set f f' hx e]
theorem Tab.far {w : World} {g : Nat} {f : Nat → Nat} (h : Tab w g f) (p : Addr) (v : Value) (hp : g ≠ p.block) : Tab (w.setCell p v) g f := by
  unfold Tab
  rw [heap_setCell_other w p g v hp]
  exact h
theorem Tab.below {B : Nat} {w w' : World} {g : Nat} {f : Nat → Nat} (h : Tab w g f) (hb : Below B w w') (hg : g < B) : Tab w' g f := (hb.block g hg).trans h
theorem below_setRow {B : Nat} {w w' : World} (h : Below B w w') {g : Nat} (hg : B ≤ g) (cs : Array Value) : Below B w (w'.setRow g cs) :=
  ⟨h.os, h.tape, h.output, by simpa using h.size, fun k hk => (setRow_other w' g k cs (by omega)).trans (h.block k hk)⟩
theorem infoT : (Try.prog.info? 37).map (fun i => (i.zero, i.size)) = some (some (.agg (Array.replicate 256 (Value.int .u32 0))), 256) := by kernel_rfl
set_option maxRecDepth 100000 in
set_option maxHeartbeats 1000000 in
theorem table_any (w : World) : Calls Try.prog 18 #[] w fun e w' => e = .returned (.agg (rowOf step)) ∧ Below w.heap.size w w' := by
  obtain ⟨hz, hsz⟩ := zero_of_info infoT
  rw [rowOf_zero] at hz
  go_enter Try.func18, Try.ntmps18
  go_wp2
  obtain ⟨w1, h1⟩ : ∃ w1, w1 = (w.alloc (Obj.cells (rowOf fun x => 0) 37)).alloc (Obj.cells (rowOf fun x => 0) 37) := ⟨_, rfl⟩
  rw [← h1]
  have hT : Tab w1 (w.heap.size + 1) (tab1 0) := by subst h1; exact Tab.congr (f := fun _ => 0) (heap_alloc2_new w _ _) fun i hi => (tab1_first i hi).symm
  have hR : Tab w1 w.heap.size (fun _ => 0) := by subst h1; exact heap_alloc2_old w _ _
  have hB : Below w.heap.size w w1 := by subst h1; exact ((Below.refl _ _).alloc (Nat.le_refl _) _).alloc (by simp) _
  have H0 := Lib.hid (And.intro hT (And.intro hR hB))
  clear hT hR hB h1
  go_loopw [2, 3] (fun r b wr => ∃ k : Nat, k ≤ 8 ∧ r = .int .u32 ((reg1 k : Nat) : Int) ∧ b = .int .i64 ((bit1 k : Nat) : Int) ∧ Hid (Tab wr (w.heap.size + 1) (tab1 k) ∧ Tab wr w.heap.size (fun _ => 0) ∧ Below w.heap.size w wr)) (fun _ b _ => (intOf b).toNat)
  case atStart => exact ⟨0, by omega, rfl, rfl, H0⟩
  case round =>
    obtain ⟨k, hk, rfl, rfl, HT⟩ := hrel
    by_cases hlt : k < 8
    · obtain ⟨hb1, hb2, hb3⟩ := bit1_facts k hlt
      have hr := reg1_lt k
      have H1 := Lib.hid hb1
      clear hb1
      have hc := (HT.out.1).free (bit1 k)
      have hcc := (HT.out.1).cell hb2
      go_wp2_with (go_at_call 20; refine (halve_any _ (by omega) _).mono ?_; rintro e w' ⟨rfl, rfl⟩)
      go_roundw
      case rel =>
        refine ⟨k + 1, by omega, rfl, by rw [H1.out]; go_num, Lib.hid ⟨HT.out.1.store hb2 (tab1_next k hlt), HT.out.2.1.far _ _ (by simp), HT.out.2.2.setCell (by simp) _⟩⟩
      case measure => simp [intOf]; omega
    · obtain rfl : k = 8 := by omega
      have hb0 : ((bit1 8 : Nat) : Int) = 0 := rfl
      rw [hb0]
      clear hb0
      go_wp2_with fail
      have HT1 : Hid (Tab wr (w.heap.size + 1) (tab2 0) ∧ Tab wr w.heap.size (fun _ => 0) ∧ Below w.heap.size w wr) := Lib.hid ⟨HT.out.1.congr fun i hi => (tab2_first i hi).symm, HT.out.2⟩
      clear HT H0
      obtain ⟨wa, ha⟩ : ∃ wa, wa = wr := ⟨_, rfl⟩
      rw [← ha] at HT1 ⊢
      clear ha wr
      go_loopw [15] (fun i wr => ∃ k : Nat, k ≤ 256 ∧ i = .int .i64 k ∧ Hid (Tab wr (w.heap.size + 1) (tab2 k) ∧ Tab wr w.heap.size (fun _ => 0) ∧ Below w.heap.size w wr)) (fun i _ => 256 - (intOf i).toNat)
      case atStart => exact ⟨0, by omega, rfl, HT1⟩
      case round =>
        obtain ⟨k, hk, rfl, HT⟩ := hrel
        by_cases hlt : k < 256
        · obtain ⟨hp1, hp2, hz1, hz2⟩ := tab2_parts k hlt
          have hq := tab2_xor hlt
          have hm := and_rest k hlt
          have hx := xor_rest k hlt
          have hcm := (HT.out.1).cell hp1
          have hcp := (HT.out.1).cell hp2
          have hl1 : tab2 k (rest2 k) < 4294967296 := by rw [hz1]; exact step_lt (by omega)
          have hl2 : tab2 k (k ^^^ rest2 k) < 4294967296 := by rw [hz2]; exact step_lt (by omega)
          have hxx := u32_xor_nat _ _ hl1 hl2
          rw [hq] at hxx
          clear hq hl1 hl2 hz1 hz2
          generalize tab2 k (rest2 k) = x at *
          generalize tab2 k (k ^^^ rest2 k) = y at *
          generalize k ^^^ rest2 k = p at *
          generalize rest2 k = m at *
          have hm0 : (0 : Int) ≤ (m : Int) := by omega
          have hm1 : (m : Int) < 256 := by omega
          have hq0 : (0 : Int) ≤ (p : Int) := by omega
          have hq1 : (p : Int) < 256 := by omega
          have hk0 : (0 : Int) ≤ (k : Int) := by omega
          have hk1 : (k : Int) < 256 := by omega
          go_wp2_with fail
          go_still_tail 11, (by kernel_rfl)
          change wpList _ _ _ _ _ wr.drew
          have HD : Hid (Tab wr.drew (w.heap.size + 1) (tab2 k) ∧ Tab wr.drew w.heap.size (fun _ => 0) ∧ Below w.heap.size w wr.drew) := Lib.hid ⟨HT.out.1, HT.out.2.1, HT.out.2.2.drew⟩
          clear hcm hcp hm hx
          generalize wr.drew = wd at *
          have hfr := (HD.out.1).free k
          have hck := (HD.out.1).cell hlt
          go_wp2_with fail
          go_roundw
          case rel =>
            refine ⟨k + 1, by omega, by go_num, Lib.hid ⟨HD.out.1.store hlt (fun i _ => tab2_next hlt i), HD.out.2.1.far _ _ (by simp), HD.out.2.2.setCell (by simp) _⟩⟩
          case measure => simp [intOf]; omega
        · obtain rfl : k = 256 := by omega
          have HT2 : Hid (Tab wr (w.heap.size + 1) step ∧ Tab wr w.heap.size (fun _ => 0) ∧ Below w.heap.size w wr) := Lib.hid ⟨HT.out.1.congr fun i hi => tab2_last hi, HT.out.2⟩
          clear HT HT1
          have hT := HT2.out.1
          have hR := HT2.out.2.1
          have HI : Hid ((Try.prog.info? 37).map (·.size) = some (rowOf step).size) := Lib.hid (by rw [rowOf_size]; exact hsz)
          have HO : Hid ((rowOf fun _ => 0).size = (rowOf step).size) := Lib.hid (by rw [rowOf_size, rowOf_size])
          have HE := Lib.hid (rowOf_one step)
          have HZ := Lib.hid hz
          clear hz hsz
          unfold Tab at hT hR
          have HT3 := Lib.hid hT
          have HR3 := Lib.hid hR
          clear hT hR
          go_wp2_with (first
            | (refine wpList_load_row rfl 37 (.tmp 1) rfl (w.heap.size + 1) rfl 37 (rowOf step) (0, 0) _ HT3.out Try.underlying37 rfl HI.out ?_)
            | (refine wpList_store_row rfl 37 (.tmp 0) (.tmp 34) rfl w.heap.size (rowOf step) rfl rfl 37 (rowOf fun _ => 0) HR3.out HI.out HO.out HE.out ?_))
          refine bodyPost_ret (v := .agg (rowOf step)) (results_cell_row (P := Try.prog) rfl _ _ w.heap.size 37 (rowOf step) (0, 0) _ rfl ?_ Try.underlying37 rfl HI.out) rfl ⟨rfl, ?_⟩
          · exact setRow_heap _ _ _ _ _ _ HR3.out
          · exact below_setRow HT2.out.2.2 (Nat.le_refl _) _
end Go.Proofs.Ytfancmomihdkbaa
