/-
  Package hmac: the bytes of a text, gone over by a function: its contract, for whatever loop.
-/
import Derived.RangeFuncNested
import Derived.RangeFuncBound
import Derived.RangeFuncCalls
import Derived.RangeFuncLeaves
import Derived.RangeFuncBox
import Derived.Shelf.Abstract
import Derived.Shelf.RegionOpen
import Derived.WalkKit
import Derived.OwnWalkIn
import Derived.TacticsInMore
import Derived.LoopNIn
import Derived.LoopIn
import Derived.Maps.AppendAt
import Derived.Test.YthfiebdpoleeeaaDoorText
namespace Go.Proofs.YthfiebdpoleeeaaDoor
open Go.RowKit Go.Shelf
set_option linter.unusedVariables false

attribute [local go_sem] Oper.semAt_some

/-- What a round is handed: a place, and the byte there. -/
def handed (s : ByteArray) (x : Fin s.size) : Array Value := #[.int .i64 (x.val : Int), .int .u8 ((s[x.val]'x.isLt).toNat : Int)]
/-- The first k places. -/
def places (s : ByteArray) (k : Nat) : List (Fin s.size) := (List.finRange s.size).take k
theorem places_zero (s : ByteArray) : places s 0 = [] := rfl
theorem places_length (s : ByteArray) {k : Nat} (h : k ≤ s.size) : (places s k).length = k := by simp [places]; omega
theorem places_succ (s : ByteArray) {k : Nat} (h : k < s.size) : places s (k + 1) = places s k ++ [⟨k, h⟩] := by
  unfold places
  rw [List.take_succ_eq_append_getElem (by simpa using h)]
  simp
theorem places_all (s : ByteArray) : places s s.size = List.finRange s.size := List.take_of_length_le (by simp)

/-- One block lies as it lay. -/
def Lies (B : Nat) (W W' : World) : Prop := W'.heap[B]? = W.heap[B]?
theorem lies_t {B : Nat} {X Y Z : World} (h : Lies B X Y) (k : Lies B Y Z) : Lies B X Z := Eq.trans k h
theorem lies_b {B : Nat} {w : World} (hB : B < w.heap.size) (W : World) (l : Nat) (o o' : Obj) (hl : w.heap.size ≤ l) (_ : W.heap[l]? = some o) (_ : o.isCells = false) (_ : o.isWalk = false) : Lies B W (W.putObj l o') :=
  World.putObj_heap_other (by omega)
theorem boxed_lies {B : Nat} {t : TypeId} {v : Value} {W W' : World} (h : Boxed W B t v) (h' : Boxed W' B t v) : Lies B W W' := Eq.trans (show W'.heap[B]? = _ from h') (show W.heap[B]? = _ from h).symm
theorem boxed_drew {B : Nat} {t : TypeId} {v : Value} {W : World} (h : Boxed W B t v) : Boxed W.drew B t v := h

set_option maxRecDepth 100000 in
set_option maxHeartbeats 1000000 in
theorem iter_goes (n : Nat) (hn : 1 ≤ n) (l Bs : Nat) (s : ByteArray) (hs : s.size ≤ maxLen) (J Jx : List (Fin s.size) → World → Prop)
    (hY : ∀ pre x W, J pre W → pre.length < s.size → YieldAt Fence.wide (n - 1) Tryd.prog l (handed s x) W fun e W' =>
      (e = .returned (.bool true) ∧ J (pre ++ [x]) W' ∧ Lies Bs W W') ∨ (e = .returned (.bool false) ∧ Jx (pre ++ [x]) W'))
    (W : World) (hc : Boxed W Bs 9 (.string s)) (h0 : J [] W) :
    CallsIn Fence.wide n Tryd.prog 76 #[.func (.yield l) #[] #[], .pointer (some ⟨Bs, 0, none⟩)] W fun e W' => (∃ v, e = .returned v) ∧
      ((∃ ys, ys = List.finRange s.size ∧ J ys W') ∨ (∃ pre, True ∧ Jx pre W')) := by
  unfold maxLen at hs
  have hc0 := hc.cell
  refine callsIn_of_wp Tryd.func76 rfl trivial ?_ rfl
  simp only [Tryd.ntmps76, List.size_toArray, List.length_cons, List.length_nil, Nat.reduceAdd, Nat.reduceSub, Array.replicate_succ, Array.replicate_zero, List.push_toArray, List.append_toArray, List.nil_append, List.cons_append]
  gi_wp2
  gi_loopw [6] (fun i wr => ∃ k : Nat, k ≤ s.size ∧ i = .int .i64 k ∧ J (places s k) wr ∧ Lies Bs W wr) (fun i _ => s.size - (intOf i).toNat)
  case atStart => exact ⟨0, Nat.zero_le _, rfl, h0, rfl⟩
  case round =>
    obtain ⟨k, hk, rfl, hJs, hnx⟩ := hrel
    have hcx : wr.cell? ⟨Bs, 0, none⟩ = some (.string s) := Boxed.cell (t := 9) (Eq.trans hnx hc)
    by_cases hlt : k < s.size
    · obtain ⟨fn, tmps, assign, body, hy, hR⟩ := hY _ ⟨k, hlt⟩ wr hJs (by rw [places_length s hk]; exact hlt)
      unfold handed at hy
      dsimp only at hy
      gi_wp2
      refine hR.mono ?_
      rintro e W3 (⟨rfl, hJ3, hk3⟩ | ⟨rfl, hJx3⟩)
      · gi_wp2
        go_roundw
        case rel => exact ⟨k + 1, by omega, by go_num, by rw [places_succ s hlt]; exact hJ3, lies_t hnx hk3⟩
        case measure => simp [intOf]; omega
      · gi_wp2
        refine bodyPost_ret (results_none rfl _ _ _) rfl ?_
        exact ⟨⟨_, rfl⟩, .inr ⟨_, trivial, hJx3⟩⟩
    · obtain rfl : k = s.size := by omega
      gi_wp2
      go_end0
      exact ⟨⟨_, rfl⟩, .inl ⟨_, places_all s, hJs⟩⟩

set_option maxHeartbeats 1000000 in
/-- The maker: the text lies in a block of its own, which the function knows. -/
theorem iter_made (n : Nat) (s : ByteArray) (w : World) :
    CallsIn Fence.wide n Tryd.prog 62 #[.string s] w fun e w' => e = .returned (.func (.func 76) #[] #[.pointer (some ⟨w.heap.size, 0, none⟩)]) ∧ w' = w.alloc (.cells #[.string s] 9) := by
  refine callsIn_of_wp Tryd.func62 rfl trivial ?_ rfl
  simp only [Tryd.ntmps62, List.size_toArray, List.length_cons, List.length_nil, Nat.reduceAdd, Nat.reduceSub, Array.replicate_succ, Array.replicate_zero, List.push_toArray, List.append_toArray, List.nil_append, List.cons_append]
  gi_wp2
  go_ret
  exact ⟨rfl, rfl⟩

theorem iter_stops (n : Nat) (hn : 1 ≤ n) (Bs : Nat) (s : ByteArray) (hs : s.size ≤ maxLen) (w : World) (hc : Boxed w Bs 9 (.string s)) :
    SeqStopsK Fence.wide n Tryd.prog 76 #[.pointer (some ⟨Bs, 0, none⟩)] (handed s) (Lies Bs) (fun ys => ys = List.finRange s.size) (fun _ => True) s.size w := fun l J Jx W hW _ _ hY h0 =>
  iter_goes n hn l Bs s hs J Jx hY W ((hW.block Bs hc.lt).trans hc) h0
end Go.Proofs.YthfiebdpoleeeaaDoor
