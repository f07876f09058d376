/-
  Package ip: the bytes of a header: contracts.
-/
import Derived.Test.YtgodhbliamlclaaDoorRight
namespace Go.Proofs.YtgodhbliamlclaaDoor
open Go.RowKit
set_option linter.unusedVariables false

/-- A header of V4, around its check; whole; one of V6. -/
def ahead4 (hops mark n : Nat) : ByteArray := twoB 17664 ++ twoB (20 + n) ++ twoB mark ++ twoB 16384 ++ twoB (hops * 256 + 132)
def head4 (hops mark : Nat) (f t : ByteArray) (n : Nat) : ByteArray := ahead4 hops mark n ++ twoB (ckB (ahead4 hops mark n) (f ++ t)) ++ (f ++ t)
def head6 (hops : Nat) (f t : ByteArray) (n : Nat) : ByteArray := twoB 24576 ++ twoB 0 ++ twoB n ++ twoB (33792 + hops) ++ f ++ t
/-- A header lies in block g. -/
def HdrAt (W : World) (g : Nat) (ty : TypeId) (ver hops mark : Int) (f t : ByteArray) : Prop := W.heap[g]? = some (.cells #[.int .i64 ver, .int .i64 hops, .int .i64 mark, .string f, .string t] ty (0, 0))
section
variable {W : World} {g : Nat} {ty : TypeId} {ver hops mark : Int} {f t : ByteArray}
theorem HdrAt.c0 (h : HdrAt W g ty ver hops mark f t) : W.cell? ⟨g, 0, none⟩ = some (.int .i64 ver) := by rw [cell_of_row _ g 0 _ ty (0, 0) h]; rfl
theorem HdrAt.c1 (h : HdrAt W g ty ver hops mark f t) : W.cell? ⟨g, 1, none⟩ = some (.int .i64 hops) := by rw [cell_of_row _ g 1 _ ty (0, 0) h]; rfl
theorem HdrAt.c2 (h : HdrAt W g ty ver hops mark f t) : W.cell? ⟨g, 2, none⟩ = some (.int .i64 mark) := by rw [cell_of_row _ g 2 _ ty (0, 0) h]; rfl
theorem HdrAt.c3 (h : HdrAt W g ty ver hops mark f t) : W.cell? ⟨g, 3, none⟩ = some (.string f) := by rw [cell_of_row _ g 3 _ ty (0, 0) h]; rfl
theorem HdrAt.c4 (h : HdrAt W g ty ver hops mark f t) : W.cell? ⟨g, 4, none⟩ = some (.string t) := by rw [cell_of_row _ g 4 _ ty (0, 0) h]; rfl
theorem HdrAt.lt (h : HdrAt W g ty ver hops mark f t) : g < W.heap.size := (Array.getElem?_eq_some_iff.1 h).1
theorem HdrAt.later {W' : World} (h : HdrAt W g ty ver hops mark f t) (hb : Below W.heap.size W W') : HdrAt W' g ty ver hops mark f t := (hb.block g h.lt).trans h
/-- The header's cells as the walk reads them, and that nothing else has turned since. -/
def Stays (wc : World) (g : Nat) (ty : TypeId) (ver hops mark : Int) (f t : ByteArray) (W : World) : Prop := HdrAt W g ty ver hops mark f t ∧ Below wc.heap.size wc W
theorem Stays.next {wc W' : World} (h : Stays wc g ty ver hops mark f t W) (hb : Below W.heap.size W W') : Stays wc g ty ver hops mark f t W' := ⟨h.1.later hb, h.2.trans (hb.mono h.2.size)⟩
theorem Stays.drew {wc : World} (h : Stays wc g ty ver hops mark f t W) : Stays wc g ty ver hops mark f t W.drew := ⟨h.1, h.2.drew⟩
end
/-- What a region that draws its order keeps. -/
abbrev Seen (wc : World) (g : Nat) (ty : TypeId) (ver hops mark : Int) (f t : ByteArray) (W : World) : Prop :=
  W.cell? ⟨g, 1, none⟩ = some (.int .i64 hops) ∧ W.cell? ⟨g, 2, none⟩ = some (.int .i64 mark) ∧ W.cell? ⟨g, 3, none⟩ = some (.string f) ∧ W.cell? ⟨g, 4, none⟩ = some (.string t) ∧ Hid (Stays wc g ty ver hops mark f t W)
theorem Stays.seen {wc W : World} {g : Nat} {ty : TypeId} {ver hops mark : Int} {f t : ByteArray} (h : Stays wc g ty ver hops mark f t W) : Seen wc g ty ver hops mark f t W := ⟨h.1.c1, h.1.c2, h.1.c3, h.1.c4, h⟩
theorem two_seen {wc : World} {g : Nat} {ty : TypeId} {ver hops mark : Int} {f t : ByteArray} (n : Nat) (hn : n < 65536) (z : Int) (hz : z = (n : Int)) (W : World) (h : Hid (Stays wc g ty ver hops mark f t W)) :
    Calls Tryd.prog 30 #[.int .i64 z] W fun e w' => e = .returned (.string (twoB n)) ∧ Seen wc g ty ver hops mark f t w' := by
  subst hz
  exact (two_any n hn W).mono fun e w' ⟨he, hb⟩ => ⟨he, (h.out.next hb).seen⟩

set_option maxHeartbeats 4000000 in
theorem build4_any (ver : Int) (hops mark : Nat) (hh : hops < 256) (hm : mark < 65536) (f t : ByteArray) (hf : f.size = 4) (ht : t.size = 4) (n : Nat) (hn : n ≤ 1500) (w : World) :
    Calls Tryd.prog 18 #[.agg #[.int .i64 ver, .int .i64 hops, .int .i64 mark, .string f, .string t], .int .i64 n] w fun e w' => e = .returned (.string (head4 hops mark f t n)) ∧ Below w.heap.size w w' := by
  have HB := Lib.hid ((Below.refl w.heap.size w).alloc (Nat.le_refl _) (.cells #[.int .i64 ver, .int .i64 hops, .int .i64 mark, .string f, .string t] 23))
  have HH : Hid (HdrAt (w.alloc (.cells #[.int .i64 ver, .int .i64 hops, .int .i64 mark, .string f, .string t] 23)) w.heap.size 23 ver hops mark f t) := Lib.hid (heap_alloc_new _ _)
  have hor := or_byte hops 132 (by omega) (by omega)
  rw [show ((132 : Nat) : Int) = 132 from rfl] at hor
  have hk : hops * 256 + 132 < 65536 := by omega
  have hw1 : IntKind.i64.wrap (20 + (n : Int)) = 20 + (n : Int) := wrap_i64_id _ (by omega) (by omega)
  have hw2 : IntKind.i64.wrap ((hops : Int) * 256) = (hops : Int) * 256 := wrap_i64_id _ (by omega) (by omega)
  have HR := Lib.hid (show head4 hops mark f t n = twoB 17664 ++ twoB (20 + n) ++ twoB mark ++ twoB 16384 ++ twoB (hops * 256 + 132) ++ twoB (ckB (twoB 17664 ++ twoB (20 + n) ++ twoB mark ++ twoB 16384 ++ twoB (hops * 256 + 132)) (f ++ t)) ++ (f ++ t) from rfl)
  generalize head4 hops mark f t n = r at *
  generalize hops * 256 + 132 = k at *
  have HS1 := Lib.hid (fun W (h : Hid (Stays (w.alloc (.cells #[.int .i64 ver, .int .i64 hops, .int .i64 mark, .string f, .string t] 23)) w.heap.size 23 ver hops mark f t W)) => two_seen 17664 (by omega) 17664 rfl W h)
  have HS2 := Lib.hid (fun W (h : Hid (Stays (w.alloc (.cells #[.int .i64 ver, .int .i64 hops, .int .i64 mark, .string f, .string t] 23)) w.heap.size 23 ver hops mark f t W)) => two_seen (20 + n) (by omega) (20 + (n : Int)) (by omega) W h)
  have HS3 := Lib.hid (fun W (h : Hid (Stays (w.alloc (.cells #[.int .i64 ver, .int .i64 hops, .int .i64 mark, .string f, .string t] 23)) w.heap.size 23 ver hops mark f t W)) => two_seen mark (by omega) (mark : Int) rfl W h)
  have HS4 := Lib.hid (fun W (h : Hid (Stays (w.alloc (.cells #[.int .i64 ver, .int .i64 hops, .int .i64 mark, .string f, .string t] 23)) w.heap.size 23 ver hops mark f t W)) => two_seen 16384 (by omega) 16384 rfl W h)
  have HS5 := Lib.hid (fun W (h : Hid (Stays (w.alloc (.cells #[.int .i64 ver, .int .i64 hops, .int .i64 mark, .string f, .string t] 23)) w.heap.size 23 ver hops mark f t W)) => two_seen k (by omega) (k : Int) rfl W h)
  have s1 := Nat.le_of_eq (twoB_size 17664)
  have s2 := Nat.le_of_eq (twoB_size (20 + n))
  have s3 := Nat.le_of_eq (twoB_size mark)
  have s4 := Nat.le_of_eq (twoB_size 16384)
  have s5 := Nat.le_of_eq (twoB_size k)
  generalize twoB 17664 = x1 at *
  generalize twoB (20 + n) = x2 at *
  generalize twoB mark = x3 at *
  generalize twoB 16384 = x4 at *
  generalize twoB k = x5 at *
  have q1 : ¬ 9223372036854775807 < x1.size + x2.size := by omega
  have q2 : ¬ 9223372036854775807 < x1.size + x2.size + x3.size := by omega
  have q3 : ¬ 9223372036854775807 < x1.size + x2.size + x3.size + x4.size := by omega
  have q4 : ¬ 9223372036854775807 < x1.size + x2.size + x3.size + x4.size + x5.size := by omega
  go_enter Tryd.func18, Tryd.ntmps18
  go_wp2_with fail
  generalize w.alloc (.cells #[.int .i64 ver, .int .i64 hops, .int .i64 mark, .string f, .string t] 23) = wc at *
  have HK0 := Lib.hid (Stays.seen (Stays.drew (⟨HH.out, Below.refl wc.heap.size wc⟩ : Stays wc w.heap.size 23 ver hops mark f t wc)))
  go_region_held3 (Seen wc w.heap.size 23 ver hops mark f t)
    (first | exact HK0.out | (go_split_ands; refine ⟨?_, ?_, ?_, ?_, ?_⟩ <;> assumption))
    (first
      | (go_at_call 30; go_split_ands; (with_reducible refine (HS1.out _ ?_).mono ?_); assumption; rintro e w2 ⟨rfl, k1, k2, k3, k4, k5⟩)
      | (go_at_call 30; go_split_ands; (with_reducible refine (HS2.out _ ?_).mono ?_); assumption; rintro e w2 ⟨rfl, k1, k2, k3, k4, k5⟩)
      | (go_at_call 30; go_split_ands; (with_reducible refine (HS3.out _ ?_).mono ?_); assumption; rintro e w2 ⟨rfl, k1, k2, k3, k4, k5⟩)
      | (go_at_call 30; go_split_ands; (with_reducible refine (HS4.out _ ?_).mono ?_); assumption; rintro e w2 ⟨rfl, k1, k2, k3, k4, k5⟩)
      | (go_at_call 30; go_split_ands; (with_reducible refine (HS5.out _ ?_).mono ?_); assumption; rintro e w2 ⟨rfl, k1, k2, k3, k4, k5⟩))
  clear HS1 HS2 HS3 HS4 HS5 HK0
  have HB2 := Lib.hid (HB.out.trans (k5.out.2.mono HB.out.size))
  have HX := Lib.hid (show x1.size + x2.size + x3.size + x4.size + x5.size ≤ 10 by omega)
  clear q1 q2 q3 q4 s1 s2 s3 s4 s5 hor hw1 hw2 k1 k2 k5 HB
  have HC4 := Lib.hid (fun W => check4_any (x1 ++ x2 ++ x3 ++ x4 ++ x5) (f ++ t) (by have := HX.out; simp only [ByteArray.size_append]; omega) (by simp only [ByteArray.size_append]; omega) W)
  have hck := ckB_lt (x1 ++ x2 ++ x3 ++ x4 ++ x5) (f ++ t)
  have HT2 := Lib.hid (fun W => two_any (ckB (x1 ++ x2 ++ x3 ++ x4 ++ x5) (f ++ t)) hck W)
  have s6 := Nat.le_of_eq (twoB_size (ckB (x1 ++ x2 ++ x3 ++ x4 ++ x5) (f ++ t)))
  generalize ckB (x1 ++ x2 ++ x3 ++ x4 ++ x5) (f ++ t) = c at *
  have sx : (x1 ++ x2 ++ x3 ++ x4 ++ x5).size ≤ 10 := by have := HX.out; simp only [ByteArray.size_append]; omega
  generalize x1 ++ x2 ++ x3 ++ x4 ++ x5 = x at *
  generalize twoB c = x6 at *
  have hf' := Nat.le_of_eq hf
  have ht' := Nat.le_of_eq ht
  clear hf ht HX
  have q0 : ¬ 9223372036854775807 < f.size + t.size := by omega
  have q1 : ¬ 9223372036854775807 < x.size + x6.size := by omega
  have q2 : ¬ 9223372036854775807 < x.size + x6.size + (f.size + t.size) := by omega
  go_wp2_with (first
    | (go_at_call 31; ((with_reducible refine (HC4.out _).mono ?_); rintro e w3 ⟨rfl, hb3⟩); replace HB2 := Lib.hid (HB2.out.trans (hb3.mono HB2.out.size)); clear hb3)
    | (go_at_call 30; ((with_reducible refine (HT2.out _).mono ?_); rintro e w3 ⟨rfl, hb3⟩); replace HB2 := Lib.hid (HB2.out.trans (hb3.mono HB2.out.size)); clear hb3))
  go_ret
  exact ⟨by rw [HR.out]; rfl, HB2.out⟩

set_option maxHeartbeats 4000000 in
theorem build6_any (ver : Int) (hops : Nat) (hh : hops < 256) (mark : Int) (f t : ByteArray) (hf : f.size = 16) (ht : t.size = 16) (n : Nat) (hn : n ≤ 1500) (w : World) :
    Calls Tryd.prog 19 #[.agg #[.int .i64 ver, .int .i64 hops, .int .i64 mark, .string f, .string t], .int .i64 n] w fun e w' => e = .returned (.string (head6 hops f t n)) ∧ Below w.heap.size w w' := by
  have HB := Lib.hid ((Below.refl w.heap.size w).alloc (Nat.le_refl _) (.cells #[.int .i64 ver, .int .i64 hops, .int .i64 mark, .string f, .string t] 23))
  have HH : Hid (HdrAt (w.alloc (.cells #[.int .i64 ver, .int .i64 hops, .int .i64 mark, .string f, .string t] 23)) w.heap.size 23 ver hops mark f t) := Lib.hid (heap_alloc_new _ _)
  have hor : bits .or .i64 33792 (hops : Int) = ((33792 + hops : Nat) : Int) := by
    have := or_byte 132 hops (by omega) (by omega)
    rw [show (((132 : Nat) : Int) * 256) = 33792 from rfl] at this
    exact this
  have hk : 33792 + hops < 65536 := by omega
  have HR := Lib.hid (show head6 hops f t n = twoB 24576 ++ twoB 0 ++ twoB n ++ twoB (33792 + hops) ++ f ++ t from rfl)
  generalize head6 hops f t n = r at *
  generalize 33792 + hops = k at *
  have HS1 := Lib.hid (fun W (h : Hid (Stays (w.alloc (.cells #[.int .i64 ver, .int .i64 hops, .int .i64 mark, .string f, .string t] 23)) w.heap.size 23 ver hops mark f t W)) => two_seen 24576 (by omega) 24576 rfl W h)
  have HS2 := Lib.hid (fun W (h : Hid (Stays (w.alloc (.cells #[.int .i64 ver, .int .i64 hops, .int .i64 mark, .string f, .string t] 23)) w.heap.size 23 ver hops mark f t W)) => two_seen 0 (by omega) 0 rfl W h)
  have HS3 := Lib.hid (fun W (h : Hid (Stays (w.alloc (.cells #[.int .i64 ver, .int .i64 hops, .int .i64 mark, .string f, .string t] 23)) w.heap.size 23 ver hops mark f t W)) => two_seen n (by omega) (n : Int) rfl W h)
  have HS4 := Lib.hid (fun W (h : Hid (Stays (w.alloc (.cells #[.int .i64 ver, .int .i64 hops, .int .i64 mark, .string f, .string t] 23)) w.heap.size 23 ver hops mark f t W)) => two_seen k (by omega) (k : Int) rfl W h)
  have s1 := Nat.le_of_eq (twoB_size 24576)
  have s2 := Nat.le_of_eq (twoB_size 0)
  have s3 := Nat.le_of_eq (twoB_size n)
  have s4 := Nat.le_of_eq (twoB_size k)
  generalize twoB 24576 = x1 at *
  generalize twoB 0 = x2 at *
  generalize twoB n = x3 at *
  generalize twoB k = x4 at *
  have hf' := Nat.le_of_eq hf
  have ht' := Nat.le_of_eq ht
  clear hf ht
  have q1 : ¬ 9223372036854775807 < x1.size + x2.size := by omega
  have q2 : ¬ 9223372036854775807 < x1.size + x2.size + x3.size := by omega
  have q3 : ¬ 9223372036854775807 < x1.size + x2.size + x3.size + x4.size := by omega
  have q4 : ¬ 9223372036854775807 < x1.size + x2.size + x3.size + x4.size + f.size := by omega
  have q5 : ¬ 9223372036854775807 < x1.size + x2.size + x3.size + x4.size + f.size + t.size := by omega
  go_enter Tryd.func19, Tryd.ntmps19
  go_wp2_with fail
  generalize w.alloc (.cells #[.int .i64 ver, .int .i64 hops, .int .i64 mark, .string f, .string t] 23) = wc at *
  have HK0 := Lib.hid (Stays.seen (Stays.drew (⟨HH.out, Below.refl wc.heap.size wc⟩ : Stays wc w.heap.size 23 ver hops mark f t wc)))
  go_region_held3 (Seen wc w.heap.size 23 ver hops mark f t)
    (first | exact HK0.out | (go_split_ands; refine ⟨?_, ?_, ?_, ?_, ?_⟩ <;> assumption))
    (first
      | (go_at_call 30; go_split_ands; (with_reducible refine (HS1.out _ ?_).mono ?_); assumption; rintro e w2 ⟨rfl, k1, k2, k3, k4, k5⟩)
      | (go_at_call 30; go_split_ands; (with_reducible refine (HS2.out _ ?_).mono ?_); assumption; rintro e w2 ⟨rfl, k1, k2, k3, k4, k5⟩)
      | (go_at_call 30; go_split_ands; (with_reducible refine (HS3.out _ ?_).mono ?_); assumption; rintro e w2 ⟨rfl, k1, k2, k3, k4, k5⟩)
      | (go_at_call 30; go_split_ands; (with_reducible refine (HS4.out _ ?_).mono ?_); assumption; rintro e w2 ⟨rfl, k1, k2, k3, k4, k5⟩))
  have HB2 := Lib.hid (HB.out.trans (k5.out.2.mono HB.out.size))
  go_wp2_with fail
  go_ret
  exact ⟨by rw [HR.out]; rfl, HB2.out⟩
end Go.Proofs.YtgodhbliamlclaaDoor
