/-
  Package ip: numbers written in base 16, four of them (the chapter's example has no others): contracts.
-/
import Derived.Test.YtgodhbliamlclaaDoorTwo
import Derived.LoopN
import Derived.Deep.WholeRow
import Derived.Laws.Tables
namespace Go.Proofs.YtgodhbliamlclaaDoor
open Go.RowKit
set_option linter.unusedVariables false

/-- What the walks ask of the table of the library's bits: its cell 15. -/
def Kub (w : World) : Prop := 3 < w.heap.size ∧ w.cell? ⟨3, 15, none⟩ = some (.int .u8 4)
theorem Kub.later {w w' : World} (h : Kub w) (hb : Below w.heap.size w w') : Kub w' := ⟨Nat.lt_of_lt_of_le h.1 hb.size, (hb.cell (p := ⟨3, 15, none⟩) h.1).trans h.2⟩

set_option maxHeartbeats 1000000 in
theorem tz64 (w : World) (hK : Kub w) : Calls Tryd.prog 55 #[.int .u64 16] w fun e w' => e = .returned (.int .i64 4) ∧ w = w' := by
  have hc := hK.2
  have ha : IntKind.u64.wrap (-16) = 18446744073709551600 := by decide
  have hb : bits .and .u64 16 18446744073709551600 = 16 := by decide
  have hm : IntKind.u64.wrap 4573923408821661840 = 4573923408821661840 := by decide
  have hm2 : IntKind.u64.wrap (16 * 285870213051353865) = 4573923408821661840 := by decide
  go_enter Tryd.func55, Tryd.ntmps55
  go_wp2
  go_ret
  exact ⟨rfl, rfl⟩
set_option maxHeartbeats 1000000 in
theorem tz (w : World) (hK : Kub w) : Calls Tryd.prog 53 #[.int .u64 16] w fun e w' => e = .returned (.int .i64 4) ∧ w = w' := by
  go_enter Tryd.func53, Tryd.ntmps53
  go_wp2_with (go_at_call 55; ((with_reducible refine (tz64 _ hK).mono ?_); rintro e w1 ⟨rfl, rfl⟩))
  go_ret
  exact ⟨rfl, rfl⟩
set_option maxHeartbeats 1000000 in
theorem pow2 (w : World) : Calls Tryd.prog 52 #[.int .i64 16] w fun e w' => e = .returned (.bool true) ∧ w = w' := by
  have hb : bits .and .i64 16 15 = 0 := by decide
  go_enter Tryd.func52, Tryd.ntmps52
  go_wp2
  go_ret
  exact ⟨rfl, rfl⟩
/-- The row of a numeral, empty. -/
def z65 : Array Value := Array.replicate 65 (.int .u8 0)
set_option maxRecDepth 100000 in
theorem info65 : (Tryd.prog.info? 80).map (fun i => (i.zero, i.size)) = some (some (.agg z65), 65) := by kernel_rfl
theorem z65_at (i : Nat) (h : i < 65) : z65[i]? = some (.int .u8 0) := by
  unfold z65
  rw [Array.getElem?_replicate, if_pos h]
theorem z65_size : z65.size = 65 := by unfold z65; simp
theorem digits4 (w : World) (a b c d : UInt8) : ∃ R1 R2 R3 R4 : World,
    (w.alloc (.cells z65 80)).setCell ⟨w.heap.size, 64, none⟩ (.int .u8 (a.toNat : Int)) = R1 ∧ R1.setCell ⟨w.heap.size, 63, none⟩ (.int .u8 (b.toNat : Int)) = R2 ∧ R2.setCell ⟨w.heap.size, 62, none⟩ (.int .u8 (c.toNat : Int)) = R3 ∧ R3.setCell ⟨w.heap.size, 61, none⟩ (.int .u8 (d.toNat : Int)) = R4 ∧
    (w.alloc (.cells z65 80)).cell? ⟨w.heap.size, 64, none⟩ = some (.int .u8 0) ∧ R1.cell? ⟨w.heap.size, 63, none⟩ = some (.int .u8 0) ∧ R2.cell? ⟨w.heap.size, 62, none⟩ = some (.int .u8 0) ∧ R3.cell? ⟨w.heap.size, 61, none⟩ = some (.int .u8 0) ∧
    (w.alloc (.cells z65 80)).frozen? ⟨w.heap.size, 64, none⟩ = false ∧ R1.frozen? ⟨w.heap.size, 63, none⟩ = false ∧ R2.frozen? ⟨w.heap.size, 62, none⟩ = false ∧ R3.frozen? ⟨w.heap.size, 61, none⟩ = false ∧
    (convert 39 9 (.slice (some ⟨w.heap.size, 64, none⟩) 1 1)).run Tryd.prog R1 = .ok (.string ⟨#[a]⟩) R1 ∧ (convert 39 9 (.slice (some ⟨w.heap.size, 62, none⟩) 3 3)).run Tryd.prog R3 = .ok (.string ⟨#[c, b, a]⟩) R3 ∧
    (convert 39 9 (.slice (some ⟨w.heap.size, 61, none⟩) 4 4)).run Tryd.prog R4 = .ok (.string ⟨#[d, c, b, a]⟩) R4 ∧ Below w.heap.size w R1 ∧ Below w.heap.size w R3 ∧ Below w.heap.size w R4 := by
  have h0 : (w.alloc (.cells z65 80)).heap[w.heap.size]? = some (.cells z65 80 (0, 0)) := heap_alloc_new w _
  generalize hw1 : w.alloc (.cells z65 80) = w1 at *
  have hB : Below w.heap.size w w1 := by rw [← hw1]; exact (Below.refl _ _).alloc (Nat.le_refl _) _
  generalize w.heap.size = g at *
  have h1 := setRow_heap w1 g _ (z65.setIfInBounds 64 (.int .u8 (a.toNat : Int))) _ _ h0
  have h2 := setRow_heap w1 g _ ((z65.setIfInBounds 64 (.int .u8 (a.toNat : Int))).setIfInBounds 63 (.int .u8 (b.toNat : Int))) _ _ h0
  have h3 := setRow_heap w1 g _ (((z65.setIfInBounds 64 (.int .u8 (a.toNat : Int))).setIfInBounds 63 (.int .u8 (b.toNat : Int))).setIfInBounds 62 (.int .u8 (c.toNat : Int))) _ _ h0
  have h4 := setRow_heap w1 g _ ((((z65.setIfInBounds 64 (.int .u8 (a.toNat : Int))).setIfInBounds 63 (.int .u8 (b.toNat : Int))).setIfInBounds 62 (.int .u8 (c.toNat : Int))).setIfInBounds 61 (.int .u8 (d.toNat : Int))) _ _ h0
  have hbel : ∀ cs, Below g w (w1.setRow g cs) := fun cs => ⟨hB.os, hB.tape, hB.output, by simpa using hB.size, fun j hj => (setRow_other w1 g j cs (by omega)).trans (hB.block j hj)⟩
  refine ⟨_, _, _, _, setCell_eq_setRow w1 g 64 _ _ _ _ h0, (setCell_eq_setRow _ g 63 _ _ _ _ h1).trans (setRow_setRow _ _ _ _), (setCell_eq_setRow _ g 62 _ _ _ _ h2).trans (setRow_setRow _ _ _ _), (setCell_eq_setRow _ g 61 _ _ _ _ h3).trans (setRow_setRow _ _ _ _), ?_, ?_, ?_, ?_,
    frozen_of_row h0 64, frozen_of_row h1 63, frozen_of_row h2 62, frozen_of_row h3 61, ?_, ?_, ?_, hbel _, hbel _, hbel _⟩
  · rw [cell_of_row _ g 64 _ _ _ h0]; exact z65_at 64 (by omega)
  · rw [cell_of_row _ g 63 _ _ _ h1]; simp [z65_at]
  · rw [cell_of_row _ g 62 _ _ _ h2]; simp [z65_at]
  · rw [cell_of_row _ g 61 _ _ _ h3]; simp [z65_at]
  · refine text_of _ g 64 1 [a] fun j u hu => ?_
    rw [cell_of_row _ g (64 + j) _ _ _ h1]
    match j with
    | 0 => simp at hu; subst hu; simp [z65_size]
  · refine text_of _ g 62 3 [c, b, a] fun j u hu => ?_
    rw [cell_of_row _ g (62 + j) _ _ _ h3]
    match j with
    | 0 => simp at hu; subst hu; simp [z65_size]
    | 1 => simp at hu; subst hu; simp [z65_size]
    | 2 => simp at hu; subst hu; simp [z65_size]
  · refine text_of _ g 61 4 [d, c, b, a] fun j u hu => ?_
    rw [cell_of_row _ g (61 + j) _ _ _ h4]
    match j with
    | 0 => simp at hu; subst hu; simp [z65_size]
    | 1 => simp at hu; subst hu; simp [z65_size]
    | 2 => simp at hu; subst hu; simp [z65_size]
    | 3 => simp at hu; subst hu; simp [z65_size]

set_option maxRecDepth 100000 in
set_option maxHeartbeats 4000000 in
theorem fb_n1 (w : World) (hK : Kub w) : Calls Tryd.prog 46 #[.slice none 0 0, .int .u64 1, .int .i64 16, .bool false, .bool false] w fun e w' => e = .returned (.tuple #[.slice none 0 0, .string ⟨#[49]⟩]) ∧ Below w.heap.size w w' := by
  obtain ⟨hz, hsz⟩ := zero_of_info info65
  obtain ⟨R1, R2, R3, R4, hr1, hr2, hr3, hr4, e0, e1, e2, e3, f0, f1, f2, f3, k1, k3, k4, b1, b3, b4⟩ := digits4 w 49 0 0 0
  have HB := Lib.hid b1
  have HK := Lib.hid (hK.later ((Below.refl w.heap.size w).alloc (Nat.le_refl _) (.cells z65 80)))
  clear hK hr2 hr3 hr4 e1 e2 e3 f1 f2 f3 k3 k4 b1 b3 b4
  generalize hal : w.alloc (.cells z65 80) = R0 at *
  rw [show ((UInt8.toNat 49 : Nat) : Int) = 49 from rfl] at hr1
  have hd1 : ((⟨#[48, 49, 50, 51, 52, 53, 54, 55, 56, 57, 97, 98, 99, 100, 101, 102, 103, 104, 105, 106, 107, 108, 109, 110, 111, 112, 113, 114, 115, 116, 117, 118, 119, 120, 121, 122]⟩ : ByteArray)[1]'(by decide)).toNat = 49 := rfl
  go_enter Tryd.func46, Tryd.ntmps46
  go_wp2_with (first
    | (go_at_call 52; ((with_reducible refine (pow2 _).mono ?_); rintro e w1 ⟨rfl, rfl⟩))
    | (go_at_call 53; ((with_reducible refine (tz _ HK.out).mono ?_); rintro e w1 ⟨rfl, rfl⟩)))
  refine wp_loop_rounds 1 ?_
  rw [rounds_succ]
  go_wp2
  skip
  go_ret2
  exact ⟨rfl, HB.out⟩
set_option maxRecDepth 100000 in
set_option maxHeartbeats 4000000 in
theorem fb_n0 (w : World) (hK : Kub w) : Calls Tryd.prog 46 #[.slice none 0 0, .int .u64 0, .int .i64 16, .bool false, .bool false] w fun e w' => e = .returned (.tuple #[.slice none 0 0, .string ⟨#[48]⟩]) ∧ Below w.heap.size w w' := by
  obtain ⟨hz, hsz⟩ := zero_of_info info65
  obtain ⟨R1, R2, R3, R4, hr1, hr2, hr3, hr4, e0, e1, e2, e3, f0, f1, f2, f3, k1, k3, k4, b1, b3, b4⟩ := digits4 w 48 0 0 0
  have HB := Lib.hid b1
  have HK := Lib.hid (hK.later ((Below.refl w.heap.size w).alloc (Nat.le_refl _) (.cells z65 80)))
  clear hK hr2 hr3 hr4 e1 e2 e3 f1 f2 f3 k3 k4 b1 b3 b4
  generalize hal : w.alloc (.cells z65 80) = R0 at *
  rw [show ((UInt8.toNat 48 : Nat) : Int) = 48 from rfl] at hr1
  have hd0 : ((⟨#[48, 49, 50, 51, 52, 53, 54, 55, 56, 57, 97, 98, 99, 100, 101, 102, 103, 104, 105, 106, 107, 108, 109, 110, 111, 112, 113, 114, 115, 116, 117, 118, 119, 120, 121, 122]⟩ : ByteArray)[0]'(by decide)).toNat = 48 := rfl
  go_enter Tryd.func46, Tryd.ntmps46
  go_wp2_with (first
    | (go_at_call 52; ((with_reducible refine (pow2 _).mono ?_); rintro e w1 ⟨rfl, rfl⟩))
    | (go_at_call 53; ((with_reducible refine (tz _ HK.out).mono ?_); rintro e w1 ⟨rfl, rfl⟩)))
  refine wp_loop_rounds 1 ?_
  rw [rounds_succ]
  go_wp2
  skip
  go_ret2
  exact ⟨rfl, HB.out⟩
set_option maxRecDepth 100000 in
set_option maxHeartbeats 4000000 in
theorem fb_ndb8 (w : World) (hK : Kub w) : Calls Tryd.prog 46 #[.slice none 0 0, .int .u64 3512, .int .i64 16, .bool false, .bool false] w fun e w' => e = .returned (.tuple #[.slice none 0 0, .string ⟨#[100, 98, 56]⟩]) ∧ Below w.heap.size w w' := by
  obtain ⟨hz, hsz⟩ := zero_of_info info65
  obtain ⟨R1, R2, R3, R4, hr1, hr2, hr3, hr4, e0, e1, e2, e3, f0, f1, f2, f3, k1, k3, k4, b1, b3, b4⟩ := digits4 w 56 98 100 0
  have HB := Lib.hid b3
  have HK := Lib.hid (hK.later ((Below.refl w.heap.size w).alloc (Nat.le_refl _) (.cells z65 80)))
  clear hK hr4 e3 f3 k1 k4 b1 b3 b4
  generalize hal : w.alloc (.cells z65 80) = R0 at *
  rw [show ((UInt8.toNat 56 : Nat) : Int) = 56 from rfl] at hr1
  rw [show ((UInt8.toNat 98 : Nat) : Int) = 98 from rfl] at hr2
  rw [show ((UInt8.toNat 100 : Nat) : Int) = 100 from rfl] at hr3
  have hb3512 : bits .and .u64 3512 15 = 8 := by decide
  have hb219 : bits .and .u64 219 15 = 11 := by decide
  have hd8 : ((⟨#[48, 49, 50, 51, 52, 53, 54, 55, 56, 57, 97, 98, 99, 100, 101, 102, 103, 104, 105, 106, 107, 108, 109, 110, 111, 112, 113, 114, 115, 116, 117, 118, 119, 120, 121, 122]⟩ : ByteArray)[8]'(by decide)).toNat = 56 := rfl
  have hd11 : ((⟨#[48, 49, 50, 51, 52, 53, 54, 55, 56, 57, 97, 98, 99, 100, 101, 102, 103, 104, 105, 106, 107, 108, 109, 110, 111, 112, 113, 114, 115, 116, 117, 118, 119, 120, 121, 122]⟩ : ByteArray)[11]'(by decide)).toNat = 98 := rfl
  have hd13 : ((⟨#[48, 49, 50, 51, 52, 53, 54, 55, 56, 57, 97, 98, 99, 100, 101, 102, 103, 104, 105, 106, 107, 108, 109, 110, 111, 112, 113, 114, 115, 116, 117, 118, 119, 120, 121, 122]⟩ : ByteArray)[13]'(by decide)).toNat = 100 := rfl
  go_enter Tryd.func46, Tryd.ntmps46
  go_wp2_with (first
    | (go_at_call 52; ((with_reducible refine (pow2 _).mono ?_); rintro e w1 ⟨rfl, rfl⟩))
    | (go_at_call 53; ((with_reducible refine (tz _ HK.out).mono ?_); rintro e w1 ⟨rfl, rfl⟩)))
  refine wp_loop_rounds 3 ?_
  rw [rounds_succ]
  go_wp2
  rw [rounds_succ]
  go_wp2
  rw [rounds_succ]
  go_wp2
  skip
  go_ret2
  exact ⟨rfl, HB.out⟩
set_option maxRecDepth 100000 in
set_option maxHeartbeats 4000000 in
theorem fb_n2001 (w : World) (hK : Kub w) : Calls Tryd.prog 46 #[.slice none 0 0, .int .u64 8193, .int .i64 16, .bool false, .bool false] w fun e w' => e = .returned (.tuple #[.slice none 0 0, .string ⟨#[50, 48, 48, 49]⟩]) ∧ Below w.heap.size w w' := by
  obtain ⟨hz, hsz⟩ := zero_of_info info65
  obtain ⟨R1, R2, R3, R4, hr1, hr2, hr3, hr4, e0, e1, e2, e3, f0, f1, f2, f3, k1, k3, k4, b1, b3, b4⟩ := digits4 w 49 48 48 50
  have HB := Lib.hid b4
  have HK := Lib.hid (hK.later ((Below.refl w.heap.size w).alloc (Nat.le_refl _) (.cells z65 80)))
  clear hK k1 k3 b1 b3 b4
  generalize hal : w.alloc (.cells z65 80) = R0 at *
  rw [show ((UInt8.toNat 49 : Nat) : Int) = 49 from rfl] at hr1
  rw [show ((UInt8.toNat 48 : Nat) : Int) = 48 from rfl] at hr2
  rw [show ((UInt8.toNat 48 : Nat) : Int) = 48 from rfl] at hr3
  rw [show ((UInt8.toNat 50 : Nat) : Int) = 50 from rfl] at hr4
  have hb8193 : bits .and .u64 8193 15 = 1 := by decide
  have hb512 : bits .and .u64 512 15 = 0 := by decide
  have hb32 : bits .and .u64 32 15 = 0 := by decide
  have hd0 : ((⟨#[48, 49, 50, 51, 52, 53, 54, 55, 56, 57, 97, 98, 99, 100, 101, 102, 103, 104, 105, 106, 107, 108, 109, 110, 111, 112, 113, 114, 115, 116, 117, 118, 119, 120, 121, 122]⟩ : ByteArray)[0]'(by decide)).toNat = 48 := rfl
  have hd1 : ((⟨#[48, 49, 50, 51, 52, 53, 54, 55, 56, 57, 97, 98, 99, 100, 101, 102, 103, 104, 105, 106, 107, 108, 109, 110, 111, 112, 113, 114, 115, 116, 117, 118, 119, 120, 121, 122]⟩ : ByteArray)[1]'(by decide)).toNat = 49 := rfl
  have hd2 : ((⟨#[48, 49, 50, 51, 52, 53, 54, 55, 56, 57, 97, 98, 99, 100, 101, 102, 103, 104, 105, 106, 107, 108, 109, 110, 111, 112, 113, 114, 115, 116, 117, 118, 119, 120, 121, 122]⟩ : ByteArray)[2]'(by decide)).toNat = 50 := rfl
  go_enter Tryd.func46, Tryd.ntmps46
  go_wp2_with (first
    | (go_at_call 52; ((with_reducible refine (pow2 _).mono ?_); rintro e w1 ⟨rfl, rfl⟩))
    | (go_at_call 53; ((with_reducible refine (tz _ HK.out).mono ?_); rintro e w1 ⟨rfl, rfl⟩)))
  refine wp_loop_rounds 4 ?_
  rw [rounds_succ]
  go_wp2
  rw [rounds_succ]
  go_wp2
  rw [rounds_succ]
  go_wp2
  rw [rounds_succ]
  go_wp2
  skip
  go_ret2
  exact ⟨rfl, HB.out⟩
set_option maxHeartbeats 1000000 in
theorem ifi_n1 (w : World) (hK : Kub w) : Calls Tryd.prog 39 #[.int .i64 1, .int .i64 16] w fun e w' => e = .returned (.string ⟨#[49]⟩) ∧ Below w.heap.size w w' := by
  have HK := Lib.hid hK
  have HB := Lib.hid (Below.refl w.heap.size w)
  clear hK
  go_enter Tryd.func39, Tryd.ntmps39
  go_wp2_with (go_at_call 46; ((with_reducible refine (fb_n1 _ HK.out).mono ?_); rintro e w1 ⟨rfl, hb1⟩); replace HB := Lib.hid hb1; clear hb1)
  go_ret
  exact ⟨rfl, HB.out⟩
set_option maxHeartbeats 1000000 in
theorem fi_n1 (w : World) (hK : Kub w) : Calls Tryd.prog 29 #[.int .i64 1, .int .i64 16] w fun e w' => e = .returned (.string ⟨#[49]⟩) ∧ Below w.heap.size w w' := by
  have HK := Lib.hid hK
  have HB := Lib.hid (Below.refl w.heap.size w)
  clear hK
  go_enter Tryd.func29, Tryd.ntmps29
  go_wp2_with (go_at_call 39; ((with_reducible refine (ifi_n1 _ HK.out).mono ?_); rintro e w1 ⟨rfl, hb1⟩); replace HB := Lib.hid hb1; clear hb1)
  go_ret
  exact ⟨rfl, HB.out⟩
set_option maxHeartbeats 1000000 in
theorem ifi_n0 (w : World) (hK : Kub w) : Calls Tryd.prog 39 #[.int .i64 0, .int .i64 16] w fun e w' => e = .returned (.string ⟨#[48]⟩) ∧ Below w.heap.size w w' := by
  have HK := Lib.hid hK
  have HB := Lib.hid (Below.refl w.heap.size w)
  clear hK
  go_enter Tryd.func39, Tryd.ntmps39
  go_wp2_with (go_at_call 46; ((with_reducible refine (fb_n0 _ HK.out).mono ?_); rintro e w1 ⟨rfl, hb1⟩); replace HB := Lib.hid hb1; clear hb1)
  go_ret
  exact ⟨rfl, HB.out⟩
set_option maxHeartbeats 1000000 in
theorem fi_n0 (w : World) (hK : Kub w) : Calls Tryd.prog 29 #[.int .i64 0, .int .i64 16] w fun e w' => e = .returned (.string ⟨#[48]⟩) ∧ Below w.heap.size w w' := by
  have HK := Lib.hid hK
  have HB := Lib.hid (Below.refl w.heap.size w)
  clear hK
  go_enter Tryd.func29, Tryd.ntmps29
  go_wp2_with (go_at_call 39; ((with_reducible refine (ifi_n0 _ HK.out).mono ?_); rintro e w1 ⟨rfl, hb1⟩); replace HB := Lib.hid hb1; clear hb1)
  go_ret
  exact ⟨rfl, HB.out⟩
set_option maxHeartbeats 1000000 in
theorem ifi_ndb8 (w : World) (hK : Kub w) : Calls Tryd.prog 39 #[.int .i64 3512, .int .i64 16] w fun e w' => e = .returned (.string ⟨#[100, 98, 56]⟩) ∧ Below w.heap.size w w' := by
  have HK := Lib.hid hK
  have HB := Lib.hid (Below.refl w.heap.size w)
  clear hK
  go_enter Tryd.func39, Tryd.ntmps39
  go_wp2_with (go_at_call 46; ((with_reducible refine (fb_ndb8 _ HK.out).mono ?_); rintro e w1 ⟨rfl, hb1⟩); replace HB := Lib.hid hb1; clear hb1)
  go_ret
  exact ⟨rfl, HB.out⟩
set_option maxHeartbeats 1000000 in
theorem fi_ndb8 (w : World) (hK : Kub w) : Calls Tryd.prog 29 #[.int .i64 3512, .int .i64 16] w fun e w' => e = .returned (.string ⟨#[100, 98, 56]⟩) ∧ Below w.heap.size w w' := by
  have HK := Lib.hid hK
  have HB := Lib.hid (Below.refl w.heap.size w)
  clear hK
  go_enter Tryd.func29, Tryd.ntmps29
  go_wp2_with (go_at_call 39; ((with_reducible refine (ifi_ndb8 _ HK.out).mono ?_); rintro e w1 ⟨rfl, hb1⟩); replace HB := Lib.hid hb1; clear hb1)
  go_ret
  exact ⟨rfl, HB.out⟩
set_option maxHeartbeats 1000000 in
theorem ifi_n2001 (w : World) (hK : Kub w) : Calls Tryd.prog 39 #[.int .i64 8193, .int .i64 16] w fun e w' => e = .returned (.string ⟨#[50, 48, 48, 49]⟩) ∧ Below w.heap.size w w' := by
  have HK := Lib.hid hK
  have HB := Lib.hid (Below.refl w.heap.size w)
  clear hK
  go_enter Tryd.func39, Tryd.ntmps39
  go_wp2_with (go_at_call 46; ((with_reducible refine (fb_n2001 _ HK.out).mono ?_); rintro e w1 ⟨rfl, hb1⟩); replace HB := Lib.hid hb1; clear hb1)
  go_ret
  exact ⟨rfl, HB.out⟩
set_option maxHeartbeats 1000000 in
theorem fi_n2001 (w : World) (hK : Kub w) : Calls Tryd.prog 29 #[.int .i64 8193, .int .i64 16] w fun e w' => e = .returned (.string ⟨#[50, 48, 48, 49]⟩) ∧ Below w.heap.size w w' := by
  have HK := Lib.hid hK
  have HB := Lib.hid (Below.refl w.heap.size w)
  clear hK
  go_enter Tryd.func29, Tryd.ntmps29
  go_wp2_with (go_at_call 39; ((with_reducible refine (ifi_n2001 _ HK.out).mono ?_); rintro e w1 ⟨rfl, hb1⟩); replace HB := Lib.hid hb1; clear hb1)
  go_ret
  exact ⟨rfl, HB.out⟩
end Go.Proofs.YtgodhbliamlclaaDoor
