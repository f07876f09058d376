/-
  The check sum of chapter 2 as plain functions on numbers and lists of bytes, and what is true of them: one halving is linear over xor and tells apart all registers, and so do whole texts. No program is named here. The table of the bytes' steps, as package crc makes it: 256 numbers, each the step of its place. Package crc's Update and Sum, and the document's: each returns the sum of the text, whatever text.
-/
import Derived.Test.YtlbaockipeojhaaGreatMem
import Derived.WalkKit
import Derived.Laws.BitsAllLaws
import Derived.Lib.Hide
import Derived.Deep.WholeRow
import Derived.Below
import Derived.IntWalk
import Derived.Deep.Draws
import Derived.StillTailTactics
section
namespace Go.Proofs.YtlbaockipeojhaaGreat
set_option linter.unusedVariables false

/-- One bit dropped from the register. -/
def half (r : Nat) : Nat := if r % 2 = 1 then r / 2 ^^^ 2197175160 else r / 2
/-- Eight bits dropped. -/
def step (r : Nat) : Nat := half (half (half (half (half (half (half (half r)))))))
/-- The register behind a text. -/
def behind (r : Nat) (l : List UInt8) : Nat := l.foldl (fun r b => step (r ^^^ b.toNat)) r
/-- A sum gone on with. -/
def crc (c : Nat) (l : List UInt8) : Nat := 4294967295 - behind (4294967295 - c) l

theorem xor_lt {a b : Nat} (ha : a < 4294967296) (hb : b < 4294967296) : a ^^^ b < 4294967296 := Nat.xor_lt_two_pow (n := 32) ha hb
theorem xor_lt8 {a b : Nat} (ha : a < 256) (hb : b < 256) : a ^^^ b < 256 := Nat.xor_lt_two_pow (n := 8) ha hb
theorem half_lt {r : Nat} (h : r < 4294967296) : half r < 4294967296 := by
  unfold half; split
  · exact xor_lt (by omega) (by omega)
  · omega
theorem step_lt {r : Nat} (h : r < 4294967296) : step r < 4294967296 := by
  unfold step; exact half_lt (half_lt (half_lt (half_lt (half_lt (half_lt (half_lt (half_lt h)))))))
theorem behind_lt {r : Nat} (h : r < 4294967296) (l : List UInt8) : behind r l < 4294967296 := by
  induction l generalizing r with
  | nil => exact h
  | cons b l ih => exact ih (step_lt (xor_lt h (by have := b.toNat_lt; omega)))
theorem crc_lt (c : Nat) (l : List UInt8) : crc c l < 4294967296 := by unfold crc; omega

theorem xor_div2 (a b : Nat) : (a ^^^ b) / 2 = a / 2 ^^^ b / 2 := by
  have := Nat.shiftRight_xor_distrib (a := a) (b := b) (i := 1)
  simpa [Nat.shiftRight_eq_div_pow] using this
theorem xor_mod2 (a b : Nat) : (a ^^^ b) % 2 = (a % 2 + b % 2) % 2 := by
  have h := Nat.testBit_xor a b 0
  have e : ∀ n : Nat, n % 2 = if n.testBit 0 then 1 else 0 := by
    intro n
    rw [Nat.testBit_zero]
    by_cases hn : n % 2 = 1 <;> simp [hn]; omega
  rw [e (a ^^^ b), e a, e b, h]
  cases a.testBit 0 <;> cases b.testBit 0 <;> rfl
theorem half_xor (a b : Nat) : half (a ^^^ b) = half a ^^^ half b := by
  unfold half
  rw [xor_div2, xor_mod2]
  have self : (2197175160 : Nat) ^^^ 2197175160 = 0 := Nat.xor_self _
  generalize (2197175160 : Nat) = p at self ⊢
  rcases Nat.mod_two_eq_zero_or_one a with ha | ha <;> rcases Nat.mod_two_eq_zero_or_one b with hb | hb <;> simp only [ha, hb]
  · rfl
  · show a / 2 ^^^ b / 2 ^^^ p = a / 2 ^^^ (b / 2 ^^^ p); ac_rfl
  · show a / 2 ^^^ b / 2 ^^^ p = a / 2 ^^^ p ^^^ b / 2; ac_rfl
  · show a / 2 ^^^ b / 2 = a / 2 ^^^ p ^^^ (b / 2 ^^^ p)
    rw [show a / 2 ^^^ p ^^^ (b / 2 ^^^ p) = (a / 2 ^^^ b / 2) ^^^ (p ^^^ p) by ac_rfl, self, Nat.xor_zero]
theorem step_xor (a b : Nat) : step (a ^^^ b) = step a ^^^ step b := by unfold step; simp only [half_xor]
theorem half_even {r : Nat} (h : r % 2 = 0) : half r = r / 2 := by unfold half; rw [if_neg (by omega)]
theorem half_odd {r : Nat} (h : r % 2 = 1) : half r = r / 2 ^^^ 2197175160 := by unfold half; rw [if_pos h]
/-- Nothing but whole bytes: eight halvings drop a byte of noughts. -/
theorem half_twice (x : Nat) : half (2 * x) = x := by rw [half_even (by omega)]; omega
theorem step_high (q : Nat) : step (256 * q) = q := by
  rw [show 256 * q = 2 * (2 * (2 * (2 * (2 * (2 * (2 * (2 * q))))))) by omega]
  unfold step
  simp only [half_twice]
/-- A byte at a time, out of a table of the bytes' steps. -/
theorem step_table (r b : Nat) (hb : b < 256) : step (r ^^^ b) = step (r % 256 ^^^ b) ^^^ r / 256 := by
  have h1 : r = 256 * (r / 256) ^^^ r % 256 := by
    have h2 : 256 * (r / 256) + r % 256 = 256 * (r / 256) ^^^ r % 256 := by
      have := Nat.two_pow_add_eq_or_of_lt (i := 8) (b := r % 256) (by omega) (r / 256)
      rw [show (2 : Nat) ^ 8 = 256 by rfl] at this
      rw [this]
      apply Nat.eq_of_testBit_eq
      intro i
      rw [Nat.testBit_or, Nat.testBit_xor, show 256 * (r / 256) = (r / 256) <<< 8 by rw [Nat.shiftLeft_eq]; omega, Nat.testBit_shiftLeft, show r % 256 = r % 2 ^ 8 by rfl, Nat.testBit_mod_two_pow]
      by_cases hi : i < 8
      · simp [hi, show ¬ 8 ≤ i by omega]
      · simp [hi]
    omega
  have h3 : r ^^^ b = 256 * (r / 256) ^^^ (r % 256 ^^^ b) := by
    rw [← Nat.xor_assoc, ← h1]
  rw [h3, step_xor, step_high, Nat.xor_comm]

theorem behind_append (r : Nat) (l m : List UInt8) : behind r (l ++ m) = behind (behind r l) m := by unfold behind; rw [List.foldl_append]
theorem behind_snoc (r : Nat) (l : List UInt8) (b : UInt8) : behind r (l ++ [b]) = step (behind r l ^^^ b.toNat) := by rw [behind_append]; rfl
theorem not_xor {x : Nat} (h : x < 4294967296) : 4294967295 - x = x ^^^ 4294967295 := by
  apply Nat.eq_of_testBit_eq
  intro i
  have h2 : x < 2 ^ 32 := h
  rw [show 4294967295 - x = 2 ^ 32 - (x + 1) by omega, Nat.testBit_two_pow_sub_succ h2, Nat.testBit_xor, show (4294967295 : Nat) = 2 ^ 32 - 1 by rfl, Nat.testBit_two_pow_sub_one]
  by_cases hi : i < 32
  · simp [hi]
  · have := Nat.testBit_lt_two_pow (x := x) (i := i) (Nat.lt_of_lt_of_le h2 (Nat.pow_le_pow_right (by omega) (by omega)))
    simp [hi, this]
end Go.Proofs.YtlbaockipeojhaaGreat
end
section
namespace Go.Proofs.YtlbaockipeojhaaGreat
open Go.RowKit
set_option linter.unusedVariables false

/-- A row of 256 numbers of 32 bits. -/
def rowOf (f : Nat → Nat) : Array Value := ((List.range 256).map fun i => Value.int .u32 ((f i : Nat) : Int)).toArray
theorem rowOf_size (f : Nat → Nat) : (rowOf f).size = 256 := by simp [rowOf]
theorem rowOf_at (f : Nat → Nat) {i : Nat} (h : i < 256) : (rowOf f)[i]? = some (.int .u32 ((f i : Nat) : Int)) := by simp [rowOf, h]
theorem rowOf_none (f : Nat → Nat) {i : Nat} (h : ¬ i < 256) : (rowOf f)[i]? = none := by simp [rowOf]; omega
theorem rowOf_zero : Array.replicate 256 (Value.int .u32 0) = rowOf fun _ => 0 := by
  apply Array.ext_getElem?
  intro i
  by_cases h : i < 256
  · rw [rowOf_at _ h]; simp [h]
  · rw [rowOf_none _ h]; simp [h]
theorem rowOf_set (f g : Nat → Nat) {x v : Nat} (h : x < 256) (hg : ∀ i, i < 256 → g i = if i = x then v else f i) : (rowOf f).setIfInBounds x (.int .u32 (v : Int)) = rowOf g := by
  apply Array.ext_getElem?
  intro i
  rw [Array.getElem?_setIfInBounds, rowOf_size]
  by_cases hi : i < 256
  · rw [rowOf_at g hi, hg i hi]
    by_cases e : x = i
    · subst e; simp [h]
    · simp [e, show ¬ i = x by omega, rowOf_at f hi]
  · rw [rowOf_none g hi]
    by_cases e : x = i
    · omega
    · simp [e, rowOf_none f hi]
theorem rowOf_one (f : Nat → Nat) : (rowOf f).all (·.oneCell') = true := by
  rw [Array.all_eq_true]
  intro i hi
  rw [rowOf_size] at hi
  have h := rowOf_at f hi
  rw [Array.getElem?_eq_getElem (by rw [rowOf_size]; exact hi)] at h
  rw [Option.some.inj h]
  rfl

theorem ret_u32 {a b : Int} (h : a = b) : Ending.returned (.int .u32 a) = .returned (.int .u32 b) := by rw [h]
theorem halve_any (n : Nat) (hn : n < 4294967296) (w : World) : Calls Tryz.prog 121 #[.int .u32 (n : Int)] w fun e w' => e = .returned (.int .u32 (half n : Nat)) ∧ w = w' := by
  have ha : bits .and .u32 (n : Int) 1 = ((n % 2 : Nat) : Int) := by
    have := u32_and_nat n 1 hn (by omega)
    rw [nat_mask1] at this
    exact this
  have hx : bits .xor .u32 ((n : Int) / 2) 2197175160 = ((n / 2 ^^^ 2197175160 : Nat) : Int) := u32_xor_nat (n / 2) 2197175160 (by omega) (by omega)
  by_cases h : n % 2 = 1
  · have hq := Lib.hid (half_odd h)
    have h1 : ((n : Int) % 2 == 1) = true := by simp; omega
    go_enter Tryz.func121, Tryz.ntmps121
    go_wp2
    go_ret
    exact ⟨ret_u32 (by rw [hq.out]), rfl⟩
  · have hq := Lib.hid (half_even (show n % 2 = 0 by omega))
    have h1 : ((n : Int) % 2 == 1) = false := by simp; omega
    go_enter Tryz.func121, Tryz.ntmps121
    go_wp2
    go_ret
    exact ⟨ret_u32 (by rw [hq.out]; omega), rfl⟩

/-- The table after k of the eight halvings of its powers of two. -/
def tab1 (k : Nat) (i : Nat) : Nat := if i &&& (i - 1) = 0 ∧ 2 ^ (8 - k) ≤ i then step i else 0
/-- The register and the bit after k halvings. -/
def reg1 : Nat → Nat
  | 0 => 1
  | k + 1 => half (reg1 k)
def bit1 (k : Nat) : Nat := 2 ^ (8 - k) / 2
/-- The table with all places below k. -/
def tab2 (k : Nat) (i : Nat) : Nat := if i < k ∨ i &&& (i - 1) = 0 then step i else 0
/-- k but for its lowest bit. -/
def rest2 (k : Nat) : Nat := if k = 0 then 0 else k &&& (k - 1)
theorem reg1_lt (k : Nat) : reg1 k < 4294967296 := by
  induction k with
  | zero => decide
  | succ k ih => exact half_lt ih
theorem bit1_facts : ∀ k, k < 8 → bit1 (k + 1) = bit1 k / 2 ∧ bit1 k < 256 ∧ 0 < bit1 k := by decide
theorem tab1_next : ∀ k, k < 8 → ∀ i, i < 256 → tab1 (k + 1) i = if i = bit1 k then half (reg1 k) else tab1 k i := by decide +kernel
theorem tab1_first : ∀ i, i < 256 → tab1 0 i = 0 := by decide +kernel
theorem tab2_first : ∀ i, i < 256 → tab2 0 i = tab1 8 i := by decide +kernel
theorem tab2_parts : ∀ k, k < 256 → rest2 k < 256 ∧ k ^^^ rest2 k < 256 ∧ tab2 k (rest2 k) = step (rest2 k) ∧ tab2 k (k ^^^ rest2 k) = step (k ^^^ rest2 k) := by decide +kernel
theorem tab2_xor {k : Nat} (hk : k < 256) : tab2 k (rest2 k) ^^^ tab2 k (k ^^^ rest2 k) = step k := by
  obtain ⟨_, _, h3, h4⟩ := tab2_parts k hk
  rw [h3, h4, ← step_xor, show rest2 k ^^^ (k ^^^ rest2 k) = k ^^^ (rest2 k ^^^ rest2 k) by ac_rfl, Nat.xor_self, Nat.xor_zero]
theorem tab2_next {k : Nat} (hk : k < 256) (i : Nat) : tab2 (k + 1) i = if i = k then step k else tab2 k i := by
  unfold tab2
  by_cases e : i = k
  · subst e; simp
  · rw [if_neg e]
    by_cases h : i < k ∨ i &&& (i - 1) = 0
    · rw [if_pos h, if_pos (h.imp_left fun _ => by omega)]
    · rw [if_neg h, if_neg (fun h' => h (h'.imp_left fun _ => by omega))]
theorem tab2_last {i : Nat} (h : i < 256) : tab2 256 i = step i := by unfold tab2; rw [if_pos (.inl h)]
theorem and_rest : ∀ k : Nat, k < 256 → bits .and .i64 (k : Int) ((k : Int) - 1) = ((rest2 k : Nat) : Int) := by decide +kernel
theorem xor_rest : ∀ k : Nat, k < 256 → bits .xor .i64 (k : Int) ((rest2 k : Nat) : Int) = ((k ^^^ rest2 k : Nat) : Int) := by decide +kernel
theorem rowOf_congr {f g : Nat → Nat} (h : ∀ i, i < 256 → f i = g i) : rowOf f = rowOf g := by
  unfold rowOf
  congr 1
  apply List.map_congr_left
  intro i hi
  rw [h i (by simpa using hi)]

/-- Block g is a row of 256 numbers. -/
def Tab (w : World) (g : Nat) (f : Nat → Nat) : Prop := w.heap[g]? = some (.cells (rowOf f) 149 (0, 0))
theorem Tab.cell {w : World} {g : Nat} {f : Nat → Nat} (h : Tab w g f) {i : Nat} (hi : i < 256) : w.cell? ⟨g, i, none⟩ = some (.int .u32 ((f i : Nat) : Int)) := by
  rw [cell_of_row w g i _ _ _ h, rowOf_at f hi]
theorem Tab.free {w : World} {g : Nat} {f : Nat → Nat} (h : Tab w g f) (i : Nat) : w.frozen? ⟨g, i, none⟩ = false := frozen_of_row h i
theorem Tab.drewN {w : World} {g : Nat} {f : Nat → Nat} (h : Tab w g f) (n : Nat) : Tab (w.drewN n) g f := h
theorem Tab.congr {w : World} {g : Nat} {f f' : Nat → Nat} (h : Tab w g f) (e : ∀ i, i < 256 → f i = f' i) : Tab w g f' := by unfold Tab at h ⊢; rw [← rowOf_congr e]; exact h
theorem Tab.lt {w : World} {g : Nat} {f : Nat → Nat} (h : Tab w g f) : g < w.heap.size := (Array.getElem?_eq_some_iff.1 h).1
theorem Tab.store {w : World} {g : Nat} {f f' : Nat → Nat} (h : Tab w g f) {x v : Nat} (hx : x < 256) (e : ∀ i, i < 256 → f' i = if i = x then v else f i) : Tab (w.setCell ⟨g, x, none⟩ (.int .u32 (v : Int))) g f' := by
  unfold Tab
  rw [heap_setCell_same w g x _ _ _ h, rowOf_set f f' hx e]
theorem Tab.far {w : World} {g : Nat} {f : Nat → Nat} (h : Tab w g f) (p : Addr) (v : Value) (hp : g ≠ p.block) : Tab (w.setCell p v) g f := by
  unfold Tab
  rw [heap_setCell_other w p g v hp]
  exact h
theorem Tab.below {B : Nat} {w w' : World} {g : Nat} {f : Nat → Nat} (h : Tab w g f) (hb : Below B w w') (hg : g < B) : Tab w' g f := (hb.block g hg).trans h
theorem infoT : (Tryz.prog.info? 149).map (fun i => (i.zero, i.size)) = some (some (.agg (Array.replicate 256 (Value.int .u32 0))), 256) := by kernel_rfl
set_option maxRecDepth 100000 in
set_option maxHeartbeats 1000000 in
theorem table_any (w : World) : Calls Tryz.prog 110 #[] w fun e w' => e = .returned (.agg (rowOf step)) ∧ Below w.heap.size w w' := by
  obtain ⟨hz, hsz⟩ := zero_of_info infoT
  rw [rowOf_zero] at hz
  go_enter Tryz.func110, Tryz.ntmps110
  go_wp2
  obtain ⟨w1, h1⟩ : ∃ w1, w1 = (w.alloc (Obj.cells (rowOf fun x => 0) 149)).alloc (Obj.cells (rowOf fun x => 0) 149) := ⟨_, rfl⟩
  rw [← h1]
  have hT : Tab w1 (w.heap.size + 1) (tab1 0) := by subst h1; exact Tab.congr (f := fun _ => 0) (heap_alloc2_new w _ _) fun i hi => (tab1_first i hi).symm
  have hR : Tab w1 w.heap.size (fun _ => 0) := by subst h1; exact heap_alloc2_old w _ _
  have hB : Below w.heap.size w w1 := by subst h1; exact ((Below.refl _ _).alloc (Nat.le_refl _) _).alloc (by simp) _
  have H0 := Lib.hid (And.intro hT (And.intro hR hB))
  clear hT hR hB h1
  go_loopw [2, 3] (fun r b wr => ∃ k : Nat, k ≤ 8 ∧ r = .int .u32 ((reg1 k : Nat) : Int) ∧ b = .int .i64 ((bit1 k : Nat) : Int) ∧ Hid (Tab wr (w.heap.size + 1) (tab1 k) ∧ Tab wr w.heap.size (fun _ => 0) ∧ Below w.heap.size w wr)) (fun _ b _ => (intOf b).toNat)
  case atStart => exact ⟨0, by omega, rfl, rfl, H0⟩
  case round =>
    obtain ⟨k, hk, rfl, rfl, HT⟩ := hrel
    by_cases hlt : k < 8
    · obtain ⟨hb1, hb2, hb3⟩ := bit1_facts k hlt
      have hr := reg1_lt k
      have H1 := Lib.hid hb1
      clear hb1
      have hc := (HT.out.1).free (bit1 k)
      have hcc := (HT.out.1).cell hb2
      go_wp2_with (go_at_call 121; refine (halve_any _ (by omega) _).mono ?_; rintro e w' ⟨rfl, rfl⟩)
      go_roundw
      case rel =>
        refine ⟨k + 1, by omega, rfl, by rw [H1.out]; go_num, Lib.hid ⟨HT.out.1.store hb2 (tab1_next k hlt), HT.out.2.1.far _ _ (by simp), HT.out.2.2.setCell (by simp) _⟩⟩
      case measure => simp [intOf]; omega
    · obtain rfl : k = 8 := by omega
      have hb0 : ((bit1 8 : Nat) : Int) = 0 := rfl
      rw [hb0]
      clear hb0
      go_wp2_with fail
      have HT1 : Hid (Tab wr (w.heap.size + 1) (tab2 0) ∧ Tab wr w.heap.size (fun _ => 0) ∧ Below w.heap.size w wr) := Lib.hid ⟨HT.out.1.congr fun i hi => (tab2_first i hi).symm, HT.out.2⟩
      clear HT H0
      obtain ⟨wa, ha⟩ : ∃ wa, wa = wr := ⟨_, rfl⟩
      rw [← ha] at HT1 ⊢
      clear ha wr
      go_loopw [15] (fun i wr => ∃ k : Nat, k ≤ 256 ∧ i = .int .i64 k ∧ Hid (Tab wr (w.heap.size + 1) (tab2 k) ∧ Tab wr w.heap.size (fun _ => 0) ∧ Below w.heap.size w wr)) (fun i _ => 256 - (intOf i).toNat)
      case atStart => exact ⟨0, by omega, rfl, HT1⟩
      case round =>
        obtain ⟨k, hk, rfl, HT⟩ := hrel
        by_cases hlt : k < 256
        · obtain ⟨hp1, hp2, hz1, hz2⟩ := tab2_parts k hlt
          have hq := tab2_xor hlt
          have hm := and_rest k hlt
          have hx := xor_rest k hlt
          have hcm := (HT.out.1).cell hp1
          have hcp := (HT.out.1).cell hp2
          have hl1 : tab2 k (rest2 k) < 4294967296 := by rw [hz1]; exact step_lt (by omega)
          have hl2 : tab2 k (k ^^^ rest2 k) < 4294967296 := by rw [hz2]; exact step_lt (by omega)
          have hxx := u32_xor_nat _ _ hl1 hl2
          rw [hq] at hxx
          clear hq hl1 hl2 hz1 hz2
          generalize tab2 k (rest2 k) = x at *
          generalize tab2 k (k ^^^ rest2 k) = y at *
          generalize k ^^^ rest2 k = p at *
          generalize rest2 k = m at *
          have hm0 : (0 : Int) ≤ (m : Int) := by omega
          have hm1 : (m : Int) < 256 := by omega
          have hq0 : (0 : Int) ≤ (p : Int) := by omega
          have hq1 : (p : Int) < 256 := by omega
          have hk0 : (0 : Int) ≤ (k : Int) := by omega
          have hk1 : (k : Int) < 256 := by omega
          go_wp2_with fail
          go_still_tail 11, (by kernel_rfl)
          change wpList _ _ _ _ _ wr.drew
          have HD : Hid (Tab wr.drew (w.heap.size + 1) (tab2 k) ∧ Tab wr.drew w.heap.size (fun _ => 0) ∧ Below w.heap.size w wr.drew) := Lib.hid ⟨HT.out.1, HT.out.2.1, HT.out.2.2.drew⟩
          clear hcm hcp hm hx
          generalize wr.drew = wd at *
          have hfr := (HD.out.1).free k
          have hck := (HD.out.1).cell hlt
          go_wp2_with fail
          go_roundw
          case rel =>
            refine ⟨k + 1, by omega, by go_num, Lib.hid ⟨HD.out.1.store hlt (fun i _ => tab2_next hlt i), HD.out.2.1.far _ _ (by simp), HD.out.2.2.setCell (by simp) _⟩⟩
          case measure => simp [intOf]; omega
        · obtain rfl : k = 256 := by omega
          have HT2 : Hid (Tab wr (w.heap.size + 1) step ∧ Tab wr w.heap.size (fun _ => 0) ∧ Below w.heap.size w wr) := Lib.hid ⟨HT.out.1.congr fun i hi => tab2_last hi, HT.out.2⟩
          clear HT HT1
          have hT := HT2.out.1
          have hR := HT2.out.2.1
          have HI : Hid ((Tryz.prog.info? 149).map (·.size) = some (rowOf step).size) := Lib.hid (by rw [rowOf_size]; exact hsz)
          have HO : Hid ((rowOf fun _ => 0).size = (rowOf step).size) := Lib.hid (by rw [rowOf_size, rowOf_size])
          have HE := Lib.hid (rowOf_one step)
          have HZ := Lib.hid hz
          clear hz hsz
          unfold Tab at hT hR
          have HT3 := Lib.hid hT
          have HR3 := Lib.hid hR
          clear hT hR
          go_wp2_with (first
            | (refine wpList_load_row rfl 149 (.tmp 1) rfl (w.heap.size + 1) rfl 149 (rowOf step) (0, 0) _ HT3.out Tryz.underlying149 rfl HI.out ?_)
            | (refine wpList_store_row rfl 149 (.tmp 0) (.tmp 34) rfl w.heap.size (rowOf step) rfl rfl 149 (rowOf fun _ => 0) HR3.out HI.out HO.out HE.out ?_))
          refine bodyPost_ret (v := .agg (rowOf step)) (results_cell_row (P := Tryz.prog) rfl _ _ w.heap.size 149 (rowOf step) (0, 0) _ rfl ?_ Tryz.underlying149 rfl HI.out) rfl ⟨rfl, ?_⟩
          · exact setRow_heap _ _ _ _ _ _ HR3.out
          · exact below_setRow HT2.out.2.2 (Nat.le_refl _) _
end Go.Proofs.YtlbaockipeojhaaGreat
end
section
namespace Go.Proofs.YtlbaockipeojhaaGreat
open Go.RowKit
set_option linter.unusedVariables false

theorem take_snoc (s : ByteArray) (k : Nat) (h : k < s.size) : s.data.toList.take (k + 1) = s.data.toList.take k ++ [s[k]] :=
  (List.take_append_getElem (l := s.data.toList) (i := k) (by simpa using h)).symm
theorem not_u32 (n : Nat) (h : n < 4294967296) : bits .xor .u32 IntKind.u32.max (n : Int) = ((4294967295 - n : Nat) : Int) := by
  have := u32_xor_nat 4294967295 n (by omega) h
  rw [Nat.xor_comm, ← not_xor h] at this
  exact this
/-- The register after k bytes. -/
def regAt (c : Nat) (s : ByteArray) (k : Nat) : Nat := behind (4294967295 - c) (s.data.toList.take k)
theorem regAt_lt (c : Nat) (s : ByteArray) (k : Nat) : regAt c s k < 4294967296 := behind_lt (by omega) _
theorem regAt_next (c : Nat) (s : ByteArray) (k : Nat) (h : k < s.size) : regAt c s (k + 1) = step (regAt c s k % 256 ^^^ s[k].toNat) ^^^ regAt c s k / 256 := by
  unfold regAt
  rw [take_snoc s k h, behind_snoc]
  exact step_table _ _ s[k].toNat_lt

/-- The sum of a text, on from another one; from none. -/
def updOf (c : Nat) (s : ByteArray) : Nat := crc c s.data.toList
def sumOf (s : ByteArray) : Nat := crc 0 s.data.toList
theorem sumOf_lt (s : ByteArray) : sumOf s < 4294967296 := crc_lt _ _
set_option maxRecDepth 100000 in
set_option maxHeartbeats 1000000 in
theorem update_any (c : Nat) (hc : c < 4294967296) (s : ByteArray) (hs : s.size ≤ maxLen) (w : World) :
    Calls Tryz.prog 83 #[.int .u32 (c : Int), .string s] w fun e w' => e = .returned (.int .u32 ((updOf c s : Nat) : Int)) ∧ Below w.heap.size w w' := by
  unfold maxLen at hs
  obtain ⟨hz, hsz⟩ := zero_of_info infoT
  rw [rowOf_zero] at hz
  have HI : Hid ((Tryz.prog.info? 149).map (·.size) = some (rowOf step).size) := Lib.hid (by rw [rowOf_size]; exact hsz)
  have HO : Hid ((rowOf fun _ => 0).size = (rowOf step).size) := Lib.hid (by rw [rowOf_size, rowOf_size])
  have HE := Lib.hid (rowOf_one step)
  clear hsz
  go_enter Tryz.func83, Tryz.ntmps83
  go_wp2_with (first
    | (go_at_call 110; refine (table_any _).mono ?_; rintro e w1 ⟨rfl, hb⟩)
    | (refine wpList_store_row rfl 149 (.tmp 5) (.tmp 8) rfl _ (rowOf step) rfl rfl 149 (rowOf fun _ => 0) (heap_alloc_new _ _) HI.out HO.out HE.out ?_))
  have hT : Tab ((w1.alloc (Obj.cells (rowOf fun _ => 0) 149)).setRow w1.heap.size (rowOf step)) w1.heap.size step := setRow_heap _ _ _ _ _ _ (heap_alloc_new _ _)
  have hB : Below w.heap.size w ((w1.alloc (Obj.cells (rowOf fun _ => 0) 149)).setRow w1.heap.size (rowOf step)) := below_setRow (hb.alloc hb.size _) hb.size _
  have HTB := Lib.hid (And.intro hT hB)
  clear hT hB hz
  generalize ((w1.alloc (Obj.cells (rowOf fun _ => 0) 149)).setRow w1.heap.size (rowOf step)) = wt at *
  clear hb
  rw [not_u32 c hc]
  have HC : Hid (4294967295 - c = regAt c s 0) := Lib.hid rfl
  rw [HC.out]
  generalize w1.heap.size = g at *
  go_loop [6, 13] (fun r i => ∃ k : Nat, k ≤ s.size ∧ i = .int .i64 k ∧ r = .int .u32 ((regAt c s k : Nat) : Int)) (fun _ i => s.size - (intOf i).toNat)
  case atStart => exact ⟨0, Nat.zero_le _, rfl, rfl⟩
  case round =>
    obtain ⟨k, hk, rfl, rfl⟩ := hrel
    have hr := regAt_lt c s k
    by_cases hlt : k < s.size
    · have H1 := Lib.hid (regAt_next c s k hlt)
      have hbl := s[k].toNat_lt
      have hx := u8_xor_nat (regAt c s k % 256) s[k].toNat (by omega) hbl
      rw [show ((regAt c s k % 256 : Nat) : Int) = (regAt c s k : Int) % 256 by omega] at hx
      have hy : regAt c s k % 256 ^^^ s[k].toNat < 256 := xor_lt8 (by omega) hbl
      have hcell := (HTB.out.1).cell hy
      have hst := step_lt (r := regAt c s k % 256 ^^^ s[k].toNat) (by omega)
      have hxx := u32_xor_nat (step (regAt c s k % 256 ^^^ s[k].toNat)) (regAt c s k / 256) hst (by omega)
      rw [← H1.out, show ((regAt c s k / 256 : Nat) : Int) = (regAt c s k : Int) / 256 by omega] at hxx
      clear hst H1
      generalize step (regAt c s k % 256 ^^^ s[k].toNat) = sv at *
      generalize regAt c s k % 256 ^^^ s[k].toNat = y at *
      go_wp2_with fail
      go_round
      case rel => exact ⟨k + 1, by omega, by go_num, rfl⟩
      case measure => simp [intOf]; omega
    · obtain rfl : k = s.size := by omega
      have hn := not_u32 _ hr
      go_wp2_with fail
      go_ret
      refine ⟨ret_u32 ?_, HTB.out.2⟩
      unfold updOf crc regAt
      rw [List.take_of_length_le (by simp)]
theorem sum_any (s : ByteArray) (hs : s.size ≤ maxLen) (w : World) :
    Calls Tryz.prog 50 #[.string s] w fun e w' => e = .returned (.int .u32 ((sumOf s : Nat) : Int)) ∧ Below w.heap.size w w' := by
  go_enter Tryz.func50, Tryz.ntmps50
  go_wp2_with (go_at_call 83; refine (update_any 0 (by omega) s hs _).mono ?_; rintro e w1 ⟨rfl, hb⟩)
  go_ret
  exact ⟨rfl, hb⟩
end Go.Proofs.YtlbaockipeojhaaGreat
end
