/-
  Package cookie: the closure that takes numbers off a text: contracts.
-/
import Derived.Test.YthfiebdpoleeeaaDoorSt
import Derived.Test.YthfiebdpoleeeaaDoorText
import Derived.Test.YthfiebdpoleeeaaDoorMem
import Derived.Test.YthfiebdpoleeeaaDoorWords
import Derived.Lib.Hide
import Derived.OneCell
import Derived.Laws.BitsLemmas
import Derived.Below
namespace Go.Proofs.YthfiebdpoleeeaaDoor
open Go.RowKit
set_option linter.unusedVariables false

/-- Block B is a variable of one cell, which holds v. -/
def Bx (W : World) (B : Nat) (t : TypeId) (v : Value) : Prop := W.heap[B]? = some (.cells #[v] t (0, 0))
theorem Bx.lt {W : World} {B : Nat} {t : TypeId} {v : Value} (h : Bx W B t v) : B < W.heap.size := (Array.getElem?_eq_some_iff.1 h).1
theorem Bx.kept {W W' : World} {row : Option Nat} {B : Nat} {t : TypeId} {v : Value} (h : Bx W B t v) (hg : W.grownBy W' row) (hne : some B ≠ row) : Bx W' B t v := (hg.block B h.lt hne).trans h
theorem Bx.later {W W' : World} {B : Nat} {t : TypeId} {v : Value} (h : Bx W B t v) (hb : Below W.heap.size W W') : Bx W' B t v := (hb.block B h.lt).trans h
theorem set_size (w : World) (a : Addr) (v : Value) : (w.setCell a v).heap.size = w.heap.size := by simp [World.setCell]
theorem grown_set (w : World) (b i : Nat) (v : Value) : w.grownBy (w.setCell ⟨b, i, none⟩ v) (some b) :=
  ⟨rfl, rfl, rfl, Nat.le_of_eq (set_size w _ v).symm, fun k _ hk => Below.heap_setCell _ _ _ k (fun e => hk (by rw [e]))⟩
theorem grown_trans {a w w' : World} {row : Option Nat} (h : a.grownBy w row) (k : w.grownBy w' row) : a.grownBy w' row :=
  ⟨k.os.trans h.os, k.tape.trans h.tape, k.output.trans h.output, Nat.le_trans h.size k.size, fun j hj hne => (k.block j (Nat.lt_of_lt_of_le hj h.size) hne).trans (h.block j hj hne)⟩
theorem grown_refl (w : World) (row : Option Nat) : w.grownBy w row := ⟨rfl, rfl, rfl, Nat.le_refl _, fun _ _ _ => rfl⟩
theorem grownBy_of_below {w w' : World} {row : Option Nat} (h : Below w.heap.size w w') : w.grownBy w' row := ⟨h.os, h.tape, h.output, h.size, fun k hk _ => h.block k hk⟩
theorem below_of_grown {B : Nat} {w w' : World} {b : Nat} (h : w.grownBy w' (some b)) (hB : B ≤ w.heap.size) (hb : B ≤ b) : Below B w w' :=
  (Below.refl B w).grown h hB fun k hk => by cases hk; exact hb
/-- The function's value. -/
def takeV (Bs : Nat) : Value := .func (.func 63) #[] #[.pointer (some ⟨Bs, 0, none⟩)]
set_option maxHeartbeats 1000000 in
theorem taker_made (s : ByteArray) (w : World) : Calls Tryd.prog 50 #[.string s] w fun e w' => e = .returned (takeV w.heap.size) ∧ Bx w' w.heap.size 9 (.string s) ∧ Below w.heap.size w w' := by
  go_enter Tryd.func50, Tryd.ntmps50
  have hmf : ∀ (fn : Fn) (first cap : Array Value) (w : World), (Instr.makeFunc fn first cap).run Tryd.prog w = .ok (.func fn first cap) w := fun _ _ _ _ => rfl
  go_wp2
  go_ret
  exact ⟨rfl, heap_alloc_new w _, (Below.refl _ _).alloc (Nat.le_refl _) _⟩
theorem wrap_u64_id (n : Int) (h0 : 0 ≤ n) (h1 : n < 2 ^ 64) : IntKind.u64.wrap n = n := by
  simp only [IntKind.wrap, IntKind.bits, IntKind.signed]
  simp
  omega
theorem or_byte64 (x y : Nat) (hx : x < 2 ^ 56) (hy : y < 256) : bits .or .u64 ((x : Int) * 256) (y : Int) = ((x * 256 + y : Nat) : Int) := by
  have := bits_join .u64 64 (by decide) wrap_u64_id 8 ((x : Int) * 256) (y : Int) (by omega) (by omega) (by omega) (by omega) (by omega) (by omega)
  rw [this]
  omega
theorem take_step (s : ByteArray) (k : Nat) (h : k < s.size) : valN (s.data.toList.take (k + 1)) = valN (s.data.toList.take k) * 256 + (s[k]'h).toNat := by
  have hl : k < s.data.toList.length := by rw [← size_list]; exact h
  rw [List.take_succ_eq_append_getElem hl, valN_snoc]
  rfl
set_option maxHeartbeats 2000000 in
theorem take_any (Bs : Nat) (s : ByteArray) (hm : s.size ≤ 1000000) (n : Nat) (hn : n ≤ 8) (h : n ≤ s.size) (W : World) (hB : Bx W Bs 9 (.string s)) :
    Calls Tryd.prog 63 #[.int .i64 (n : Int), .pointer (some ⟨Bs, 0, none⟩)] W fun e W' =>
      e = .returned (.int .u64 (valN (s.data.toList.take n) : Nat)) ∧ Bx W' Bs 9 (.string (s.extract n s.size)) ∧ W.grownBy W' (some Bs) := by
  have hc := cell_of_one hB
  have hf := free_of_one hB
  have HB := Lib.hid hB
  clear hB
  obtain ⟨P, hP⟩ : ∃ P : Nat → Nat, P = fun k => valN (s.data.toList.take k) := ⟨_, rfl⟩
  have HP0 := Lib.hid (show P 0 = 0 by rw [hP]; rfl)
  have HPn := Lib.hid (show valN (s.data.toList.take n) = P n by rw [hP])
  have HPs := Lib.hid (show ∀ k (hk : k < s.size), P (k + 1) = P k * 256 + (s[k]'hk).toNat from fun k hk => by rw [hP]; exact take_step s k hk)
  have HPl := Lib.hid (show ∀ k, k < 8 → P k < 2 ^ 56 from fun k hk => by
    rw [hP]
    refine Nat.lt_of_lt_of_le (valN_lt _) ?_
    rw [show (2 : Nat) ^ 56 = 256 ^ 7 by decide]
    refine Nat.pow_le_pow_right (by decide) ?_
    rw [List.length_take]
    omega)
  rw [HPn.out]
  have hn1 : (n : Int) ≤ (s.size : Int) := by omega
  clear HPn hP
  go_enter Tryd.func63, Tryd.ntmps63
  go_wp2_with fail
  go_loopw [4, 7] (fun sm i wr => ∃ k : Nat, k ≤ n ∧ i = .int .i64 k ∧ sm = .int .u64 (P k : Nat) ∧ Hid (wr = W)) (fun _ i _ => n - (intOf i).toNat)
  case atStart => exact ⟨0, by omega, rfl, by rw [HP0.out]; rfl, Lib.hid rfl⟩
  case round =>
    obtain ⟨k, hk, rfl, rfl, HR1⟩ := hrel
    obtain rfl := HR1.out
    by_cases hlt : k < n
    · have hls : k < s.size := by omega
      have hlt2 : (k : Int) < (s.size : Int) := by omega
      have hp := HPl.out k (by omega)
      have HPk := Lib.hid (HPs.out k hls)
      have ho := or_byte64 (P k) ((s[k]'hls).toNat) hp (s[k]'hls).toNat_lt
      have hb := (s[k]'hls).toNat_lt
      generalize P k = p at *
      go_wp2_with fail
      go_roundw
      case rel =>
        exact ⟨k + 1, by omega, by go_num, by rw [HPk.out]; go_num, Lib.hid trivial⟩
      case measure => simp [intOf]; omega
    · obtain rfl : k = n := by omega
      go_wp2_with fail
      go_ret
      exact ⟨rfl, one_setCell HB.out, grown_set _ Bs 0 _⟩
end Go.Proofs.YthfiebdpoleeeaaDoor
