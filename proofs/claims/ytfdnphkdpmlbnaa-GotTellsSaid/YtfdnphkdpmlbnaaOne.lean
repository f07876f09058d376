/-
  Package tlv: one item: whether its type is wrong, its value too long; how many bytes it has; its bytes: contracts.
-/
import Derived.Test.YtfdnphkdpmlbnaaSmall
import Derived.BigQuiet
import Derived.RegionCalls
namespace Go.Proofs.Ytfdnphkdpmlbnaa
open Go.RowKit
set_option linter.unusedVariables false

/-- An item lies in block g. -/
def ItAt (W : World) (g : Nat) (ty : TypeId) (k : Int) (v : ByteArray) : Prop := W.heap[g]? = some (.cells #[.int .i64 k, .string v] ty (0, 0))
section
variable {W : World} {g : Nat} {ty : TypeId} {k : Int} {v : ByteArray}
theorem ItAt.c0 (h : ItAt W g ty k v) : W.cell? ⟨g, 0, none⟩ = some (.int .i64 k) := by rw [cell_of_row _ g 0 _ ty (0, 0) h]; rfl
theorem ItAt.c1 (h : ItAt W g ty k v) : W.cell? ⟨g, 1, none⟩ = some (.string v) := by rw [cell_of_row _ g 1 _ ty (0, 0) h]; rfl
theorem ItAt.lt (h : ItAt W g ty k v) : g < W.heap.size := (Array.getElem?_eq_some_iff.1 h).1
theorem ItAt.later {W' : World} (h : ItAt W g ty k v) (hb : Below W.heap.size W W') : ItAt W' g ty k v := (hb.block g h.lt).trans h
/-- The item's cells as the walk reads them, and that nothing else has turned since. -/
def Stays (wc : World) (g : Nat) (ty : TypeId) (k : Int) (v : ByteArray) (W : World) : Prop := ItAt W g ty k v ∧ Below wc.heap.size wc W
theorem Stays.next {wc W' : World} (h : Stays wc g ty k v W) (hb : Below W.heap.size W W') : Stays wc g ty k v W' := ⟨h.1.later hb, h.2.trans (hb.mono h.2.size)⟩
theorem Stays.drew {wc : World} (h : Stays wc g ty k v W) : Stays wc g ty k v W.drew := ⟨h.1, h.2.drew⟩
end
abbrev Seen (wc : World) (g : Nat) (ty : TypeId) (k : Int) (v : ByteArray) (W : World) : Prop :=
  W.cell? ⟨g, 0, none⟩ = some (.int .i64 k) ∧ W.cell? ⟨g, 1, none⟩ = some (.string v) ∧ Hid (Stays wc g ty k v W)
theorem Stays.seen {wc W : World} {g : Nat} {ty : TypeId} {k : Int} {v : ByteArray} (h : Stays wc g ty k v W) : Seen wc g ty k v W := ⟨h.1.c0, h.1.c1, h⟩

set_option maxHeartbeats 1000000 in
theorem wrongType_any (k : Int) (v : ByteArray) (w : World) : Calls Try.prog 56 #[.agg #[.int .i64 k, .string v]] w fun e w' => e = .returned (.bool (!isType k)) ∧ Below w.heap.size w w' := by
  have H := Lib.hid (fun W => isType_any k W)
  generalize isType k = b at *
  go_enter Try.func56, Try.ntmps56
  go_wp2_with (go_at_call 78; ((with_reducible refine (H.out _).mono ?_); rintro e w1 ⟨rfl, rfl⟩))
  go_ret
  exact ⟨rfl, (Below.refl _ _).alloc (Nat.le_refl _) _⟩
set_option maxHeartbeats 1000000 in
theorem longValue_any (k : Int) (v : ByteArray) (w : World) : Calls Try.prog 57 #[.agg #[.int .i64 k, .string v]] w fun e w' => e = .returned (.bool (decide (1400 < v.size))) ∧ Below w.heap.size w w' := by
  have hd : decide (1400 < v.size) = decide ((1400 : Int) < (v.size : Int)) := by congr 1; simp; omega
  rw [hd]
  go_enter Try.func57, Try.ntmps57
  go_wp2
  go_ret
  exact ⟨rfl, (Below.refl _ _).alloc (Nat.le_refl _) _⟩
/-- How many bytes an item of so long a value has. -/
def sizeV (n : Nat) : Nat := 4 + n + padN (4 + n)
theorem sizeV_le (n : Nat) : sizeV n ≤ n + 7 := by unfold sizeV; have := padN_lt (4 + n); omega
set_option maxHeartbeats 1000000 in
theorem size_any (k : Int) (v : ByteArray) (hv : v.size ≤ 1000000000) (w : World) : Calls Try.prog 79 #[.agg #[.int .i64 k, .string v]] w fun e w' => e = .returned (.int .i64 (sizeV v.size : Nat)) ∧ Below w.heap.size w w' := by
  have h := fun W => pad_any (4 + (v.size : Int)) (by omega) (by omega) W
  rw [show (4 + (v.size : Int)) = ((4 + v.size : Nat) : Int) by omega, padI_nat] at h
  have hp := padN_lt (4 + v.size)
  have HS := Lib.hid (show (sizeV v.size : Int) = 4 + (v.size : Int) + (padN (4 + v.size) : Int) by unfold sizeV; omega)
  rw [show ((4 + v.size : Nat) : Int) = 4 + (v.size : Int) by omega] at h
  have H := Lib.hid h
  generalize sizeV v.size = r at *
  generalize padN (4 + v.size) = p at *
  clear h
  go_enter Try.func79, Try.ntmps79
  go_wp2_with (go_at_call 52; ((with_reducible refine (H.out _).mono ?_); rintro e w1 ⟨rfl, rfl⟩))
  go_ret
  exact ⟨by rw [HS.out]; rfl, (Below.refl _ _).alloc (Nat.le_refl _) _⟩
theorem two_seen {wc : World} {g : Nat} {ty : TypeId} {k : Int} {v : ByteArray} (n : Nat) (hn : n < 65536) (z : Int) (hz : z = (n : Int)) (W : World) (h : Hid (Stays wc g ty k v W)) :
    Calls Try.prog 80 #[.int .i64 z] W fun e w' => e = .returned (.string (twoB n)) ∧ Seen wc g ty k v w' := by
  subst hz
  exact (two_any n hn W).mono fun e w' ⟨he, hb⟩ => ⟨he, (h.out.next hb).seen⟩
theorem pad_seen {wc : World} {g : Nat} {ty : TypeId} {k : Int} {v : ByteArray} (n : Nat) (hn : n < 65536) (z : Int) (hz : z = (n : Int)) (W : World) (h : Hid (Stays wc g ty k v W)) :
    Calls Try.prog 52 #[.int .i64 z] W fun e w' => e = .returned (.int .i64 (padN n : Nat)) ∧ Seen wc g ty k v w' := by
  subst hz
  rw [← padI_nat]
  exact (pad_any (n : Int) (by omega) (by omega) W).mono fun e w' ⟨he, hb⟩ => ⟨he, by subst hb; exact h.out.seen⟩
set_option maxHeartbeats 4000000 in
theorem bytesOf_any (k : Nat) (hk : k < 65536) (v : ByteArray) (hv : v.size ≤ 1400) (w : World) :
    Calls Try.prog 59 #[.agg #[.int .i64 (k : Int), .string v]] w fun e w' => e = .returned (.string (bytesB ((k : Int), v))) ∧ Below w.heap.size w w' := by
  have hB := bytesB_is ((k : Int), v)
  rw [show ((k : Int), v).1.toNat = k from Int.toNat_natCast k] at hB
  dsimp only at hB
  have hc := nought_cut (padN (4 + v.size)) (by have := padN_lt (4 + v.size); omega)
  have hz := zerosB_size (padN (4 + v.size))
  have hp := padN_lt (4 + v.size)
  have HB0 := Lib.hid ((Below.refl w.heap.size w).alloc (Nat.le_refl _) (.cells #[.int .i64 (k : Int), .string v] 98))
  have HH : Hid (ItAt (w.alloc (.cells #[.int .i64 (k : Int), .string v] 98)) w.heap.size 98 (k : Int) v) := Lib.hid (heap_alloc_new _ _)
  have F1 := Lib.hid (fun wc (u : World) => @two_seen wc w.heap.size 98 (k : Int) v k hk (k : Int) rfl u)
  have F2 := Lib.hid (fun wc (u : World) => @two_seen wc w.heap.size 98 (k : Int) v (4 + v.size) (by omega) (4 + (v.size : Int)) (by omega) u)
  have F3 := Lib.hid (fun wc (u : World) => @pad_seen wc w.heap.size 98 (k : Int) v (4 + v.size) (by omega) (4 + (v.size : Int)) (by omega) u)
  have s1 := Nat.le_of_eq (twoB_size k)
  have s2 := Nat.le_of_eq (twoB_size (4 + v.size))
  have HR := Lib.hid hB
  clear hB
  generalize bytesB ((k : Int), v) = r at *
  generalize padN (4 + v.size) = p at *
  generalize twoB k = x1 at *
  generalize twoB (4 + v.size) = x2 at *
  have hz' := Nat.le_of_eq hz
  have HC := Lib.hid hc
  clear hz hc
  have q1 : ¬ 9223372036854775807 < x1.size + x2.size := by omega
  have q2 : ¬ 9223372036854775807 < x1.size + x2.size + v.size := by omega
  have q3 : ¬ 9223372036854775807 < x1.size + x2.size + v.size + p := by omega
  have q4 : (p : Int) ≤ 3 := by omega
  have q5 : p ≤ 3 := by omega
  have hw1 : IntKind.i64.wrap (4 + (v.size : Int)) = 4 + (v.size : Int) := wrap_i64_id _ (by omega) (by omega)
  go_enter Try.func59, Try.ntmps59
  go_wp2_with fail
  generalize w.alloc (.cells #[.int .i64 (k : Int), .string v] 98) = wc at *
  have HK0 := Lib.hid (Stays.seen (Stays.drew (⟨HH.out, Below.refl wc.heap.size wc⟩ : Stays wc w.heap.size 98 (k : Int) v wc)))
  go_region_held3 (Seen wc w.heap.size 98 (k : Int) v)
    (first | exact HK0.out | (go_split_ands; refine ⟨?_, ?_, ?_⟩ <;> assumption))
    (first
      | (go_at_call 80; go_split_ands; (with_reducible refine (F1.out wc _ ?_).mono ?_); assumption; rintro e w2 ⟨rfl, k1, k2, k5⟩)
      | (go_at_call 80; go_split_ands; (with_reducible refine (F2.out wc _ ?_).mono ?_); assumption; rintro e w2 ⟨rfl, k1, k2, k5⟩)
      | (go_at_call 52; go_split_ands; (with_reducible refine (F3.out wc _ ?_).mono ?_); assumption; rintro e w2 ⟨rfl, k1, k2, k5⟩))
  go_wp2_with fail
  go_ret
  exact ⟨by rw [← HR.out, ← HC.out]; rfl, HB0.out.trans (k5.out.2.mono HB0.out.size)⟩
end Go.Proofs.Ytfdnphkdpmlbnaa
