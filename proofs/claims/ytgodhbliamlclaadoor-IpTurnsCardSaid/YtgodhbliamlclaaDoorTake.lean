/-
  Package ip: the closure that takes the bytes of a text one by one, and two of them as a number: contracts.
-/
import Derived.Test.YtgodhbliamlclaaDoorMath
import Derived.Test.YtgodhbliamlclaaDoorText
import Derived.Test.YtgodhbliamlclaaDoorMem
import Derived.Test.YtgodhbliamlclaaDoorWords
import Derived.Lib.Hide
import Derived.OneCell
import Derived.Laws.BitsLemmas
import Derived.Below
namespace Go.Proofs.YtgodhbliamlclaaDoor
open Go.RowKit
set_option linter.unusedVariables false

/-- Block B is a variable of one cell, which holds v. -/
def Bx (W : World) (B : Nat) (t : TypeId) (v : Value) : Prop := W.heap[B]? = some (.cells #[v] t (0, 0))
theorem Bx.lt {W : World} {B : Nat} {t : TypeId} {v : Value} (h : Bx W B t v) : B < W.heap.size := (Array.getElem?_eq_some_iff.1 h).1
theorem Bx.kept {W W' : World} {row : Option Nat} {B : Nat} {t : TypeId} {v : Value} (h : Bx W B t v) (hg : W.grownBy W' row) (hne : some B ≠ row) : Bx W' B t v := (hg.block B h.lt hne).trans h
theorem set_size (w : World) (a : Addr) (v : Value) : (w.setCell a v).heap.size = w.heap.size := by simp [World.setCell]
theorem grown_set (w : World) (b i : Nat) (v : Value) : w.grownBy (w.setCell ⟨b, i, none⟩ v) (some b) :=
  ⟨rfl, rfl, rfl, Nat.le_of_eq (set_size w _ v).symm, fun k _ hk => Below.heap_setCell _ _ _ k (fun e => hk (by rw [e]))⟩
theorem grown_trans {a w w' : World} {row : Option Nat} (h : a.grownBy w row) (k : w.grownBy w' row) : a.grownBy w' row :=
  ⟨k.os.trans h.os, k.tape.trans h.tape, k.output.trans h.output, Nat.le_trans h.size k.size, fun j hj hne => (k.block j (Nat.lt_of_lt_of_le hj h.size) hne).trans (h.block j hj hne)⟩
/-- The text s lies in block Bs, the count k of the bytes taken in block Ba. -/
def Tk (W : World) (Bs Ba : Nat) (s : ByteArray) (k : Nat) : Prop := Bx W Bs 9 (.string s) ∧ Bx W Ba 3 (.int .i64 (k : Int)) ∧ k ≤ s.size ∧ Bs ≠ Ba
theorem Tk.kept {W W' : World} {Bs Ba k : Nat} {s : ByteArray} {row : Option Nat} (h : Tk W Bs Ba s k) (hg : W.grownBy W' row) (h1 : some Bs ≠ row) (h2 : some Ba ≠ row) : Tk W' Bs Ba s k :=
  ⟨h.1.kept hg h1, h.2.1.kept hg h2, h.2.2⟩
theorem Tk.later {W W' : World} {Bs Ba k : Nat} {s : ByteArray} (h : Tk W Bs Ba s k) (hb : Below W.heap.size W W') : Tk W' Bs Ba s k :=
  ⟨(hb.block Bs h.1.lt).trans h.1, (hb.block Ba h.2.1.lt).trans h.2.1, h.2.2⟩
/-- The function's value. -/
def nextV (Bs Ba : Nat) : Value := .func (.func 32) #[] #[.pointer (some ⟨Ba, 0, none⟩), .pointer (some ⟨Bs, 0, none⟩)]
theorem byteAt_byte {s : ByteArray} {k : Nat} (h : k < s.size) : byteAt s.data.toList k = (s[k]'h).toNat := by
  rw [byteAt_get (by simpa using h)]
  rfl
theorem grownBy_of_below {w w' : World} {row : Option Nat} (h : Below w.heap.size w w') : w.grownBy w' row := ⟨h.os, h.tape, h.output, h.size, fun k hk _ => h.block k hk⟩
theorem below_of_grown {B : Nat} {w w' : World} {b : Nat} (h : w.grownBy w' (some b)) (hB : B ≤ w.heap.size) (hb : B ≤ b) : Below B w w' :=
  (Below.refl B w).grown h hB fun k hk => by cases hk; exact hb

set_option maxHeartbeats 1000000 in
theorem taker_made (s : ByteArray) (w : World) : Calls Tryd.prog 23 #[.string s] w fun e w' => e = .returned (nextV w.heap.size (w.heap.size + 1)) ∧ Tk w' w.heap.size (w.heap.size + 1) s 0 ∧ Below w.heap.size w w' := by
  go_enter Tryd.func23, Tryd.ntmps23
  have hmf : ∀ (fn : Fn) (first cap : Array Value) (w : World), (Instr.makeFunc fn first cap).run Tryd.prog w = .ok (.func fn first cap) w := fun _ _ _ _ => rfl
  go_wp2
  go_ret
  refine ⟨rfl, ⟨heap_second_at _ _ _ rfl, heap_new_at _ _ (by simp), Nat.zero_le _, by omega⟩, ?_⟩
  exact ((Below.refl _ _).alloc (Nat.le_refl _) _).alloc (by simp) _

set_option maxHeartbeats 1000000 in
theorem next_any (Bs Ba : Nat) (s : ByteArray) (hs : s.size ≤ maxLen) (k : Nat) (hk : k < s.size) (W : World) (h : Tk W Bs Ba s k) :
    Calls Tryd.prog 32 #[.pointer (some ⟨Ba, 0, none⟩), .pointer (some ⟨Bs, 0, none⟩)] W fun e W' => e = .returned (.int .u8 (byteAt s.data.toList k : Nat)) ∧ Tk W' Bs Ba s (k + 1) ∧ W.grownBy W' (some Ba) := by
  unfold maxLen at hs
  have HT := Lib.hid h
  have hc1 := cell_of_one h.1
  have hc2 := cell_of_one h.2.1
  have hf := free_of_one h.2.1
  have HB := Lib.hid (byteAt_byte hk)
  have hne := h.2.2.2
  clear h
  go_enter Tryd.func32, Tryd.ntmps32
  go_wp2
  go_ret
  refine ⟨by rw [HB.out]; rfl, ⟨HT.out.1.kept (grown_set W Ba 0 _) (by simpa using hne), ?_, hk, hne⟩, grown_set W Ba 0 _⟩
  have := one_setCell (u := .int .i64 ((k + 1 : Nat) : Int)) HT.out.2.1
  rw [show ((k + 1 : Nat) : Int) = (k : Int) + 1 by omega] at this
  exact this
set_option maxHeartbeats 1000000 in
theorem next_end (Bs Ba : Nat) (s : ByteArray) (W : World) (h : Tk W Bs Ba s s.size) :
    Calls Tryd.prog 32 #[.pointer (some ⟨Ba, 0, none⟩), .pointer (some ⟨Bs, 0, none⟩)] W fun e W' => e = .returned (.int .u8 0) ∧ W = W' := by
  have hc1 := cell_of_one h.1
  have hc2 := cell_of_one h.2.1
  clear h
  go_enter Tryd.func32, Tryd.ntmps32
  go_wp2
  go_ret
  exact ⟨rfl, rfl⟩
theorem wrap_i64_id (n : Int) (h0 : 0 ≤ n) (h1 : n < 2 ^ 62) : IntKind.i64.wrap n = n := by
  have e : n % 2 ^ 64 = n := Int.emod_eq_of_lt h0 (by omega)
  simp only [IntKind.wrap, IntKind.bits, IntKind.signed, e]
  rw [if_neg]
  simp
  omega
theorem or_byte (x y : Nat) (hx : x < 65536) (hy : y < 256) : bits .or .i64 ((x : Int) * 256) (y : Int) = ((x * 256 + y : Nat) : Int) := by
  have := bits_join .i64 62 (by decide) wrap_i64_id 8 ((x : Int) * 256) (y : Int) (by omega) (by omega) (by omega) (by omega) (by omega) (by omega)
  rw [this]
  omega
set_option maxHeartbeats 1000000 in
/-- Two bytes as a number. -/
theorem number_two (Bs Ba : Nat) (s : ByteArray) (hs : s.size ≤ maxLen) (k : Nat) (hk : k + 2 ≤ s.size) (W : World) (h : Tk W Bs Ba s k) :
    Calls Tryd.prog 24 #[nextV Bs Ba] W fun e W' => e = .returned (.int .i64 (num s.data.toList k : Nat)) ∧ Tk W' Bs Ba s (k + 2) ∧ W.grownBy W' (some Ba) := by
  have HS := Lib.hid hs
  have HT := Lib.hid h
  have b1 := byteAt_lt s.data.toList k
  have b2 := byteAt_lt s.data.toList (k + 1)
  have HN := Lib.hid (show num s.data.toList k = byteAt s.data.toList k * 256 + byteAt s.data.toList (k + 1) from rfl)
  have H1 := Lib.hid (fun W h => next_any Bs Ba s hs k (by omega) W h)
  have H2 := Lib.hid (fun W h => next_any Bs Ba s hs (k + 1) (by omega) W h)
  generalize num s.data.toList k = n at *
  generalize byteAt s.data.toList k = x at *
  generalize byteAt s.data.toList (k + 1) = y at *
  clear h hs
  unfold nextV
  go_enter Tryd.func24, Tryd.ntmps24
  go_wp2_with fail
  refine (H1.out W HT.out).mono ?_
  rintro e w1 ⟨rfl, ht1, hg1⟩
  have HT1 := Lib.hid ht1
  have HG1 := Lib.hid hg1
  clear ht1 hg1 HT
  go_wp2_with fail
  refine (H2.out w1 HT1.out).mono ?_
  rintro e w2 ⟨rfl, ht2, hg2⟩
  have HT2 := Lib.hid ht2
  have HG2 := Lib.hid (grown_trans HG1.out hg2)
  clear ht2 hg2 HT1 HG1
  go_wp2_with fail
  go_ret
  refine ⟨?_, HT2.out, HG2.out⟩
  rw [HN.out, ← or_byte x y (by omega) b2]
  rfl
set_option maxHeartbeats 1000000 in
/-- The last byte, and a nought behind it. -/
theorem number_one (Bs Ba : Nat) (s : ByteArray) (hs : s.size ≤ maxLen) (k : Nat) (hk : k + 1 = s.size) (W : World) (h : Tk W Bs Ba s k) :
    Calls Tryd.prog 24 #[nextV Bs Ba] W fun e W' => e = .returned (.int .i64 (num s.data.toList k : Nat)) ∧ Tk W' Bs Ba s (k + 1) ∧ W.grownBy W' (some Ba) := by
  have HS := Lib.hid hs
  have HT := Lib.hid h
  have b1 := byteAt_lt s.data.toList k
  have HN := Lib.hid (show num s.data.toList k = byteAt s.data.toList k * 256 + 0 by unfold num; rw [byteAt_out (i := k + 1) (by rw [← size_list]; omega)])
  have H1 := Lib.hid (fun W h => next_any Bs Ba s hs k (by omega) W h)
  have H2 := Lib.hid (fun W (h : Tk W Bs Ba s (k + 1)) => next_end Bs Ba s W (by rw [hk] at h; exact h))
  generalize num s.data.toList k = n at *
  generalize byteAt s.data.toList k = x at *
  clear h hs
  unfold nextV
  go_enter Tryd.func24, Tryd.ntmps24
  go_wp2_with fail
  refine (H1.out W HT.out).mono ?_
  rintro e w1 ⟨rfl, ht1, hg1⟩
  have HT1 := Lib.hid ht1
  have HG1 := Lib.hid hg1
  clear ht1 hg1 HT
  go_wp2_with fail
  refine (H2.out w1 HT1.out).mono ?_
  rintro e w2 ⟨rfl, rfl⟩
  go_wp2_with fail
  go_ret
  refine ⟨?_, HT1.out, HG1.out⟩
  rw [HN.out, ← or_byte x 0 (by omega) (by omega)]
  rfl
/-- .. wherever it stands. -/
theorem number_any (Bs Ba : Nat) (s : ByteArray) (hs : s.size ≤ maxLen) (k : Nat) (hk : k < s.size) (W : World) (h : Tk W Bs Ba s k) :
    Calls Tryd.prog 24 #[nextV Bs Ba] W fun e W' => e = .returned (.int .i64 (num s.data.toList k : Nat)) ∧ Tk W' Bs Ba s (min (k + 2) s.size) ∧ W.grownBy W' (some Ba) := by
  by_cases h2 : k + 2 ≤ s.size
  · rw [Nat.min_eq_left h2]
    exact number_two Bs Ba s hs k h2 W h
  · rw [Nat.min_eq_right (by omega), show s.size = k + 1 by omega]
    exact number_one Bs Ba s hs k (by omega) W h
end Go.Proofs.YtgodhbliamlclaaDoor
