/-
  Package order, plain: messages, queues, and what is told of them. No program is named here.
-/
import Derived.Test.YtondgdacjbfihaaMem
namespace Go.Proofs.Ytondgdacjbfihaa
open Go.RowKit
set_option linter.unusedVariables false
set_option linter.unusedSimpArgs false

/-- A message that is whole. -/
structure Mg where
  fi : UInt32
  fr : Bool
  st : UInt16
  ss : UInt16
  pp : UInt32
  tx : ByteArray
instance : Inhabited Mg := ⟨⟨0, false, 0, 0, 0, ByteArray.empty⟩⟩
def zeroMg : Mg := ⟨0, false, 0, 0, 0, ByteArray.empty⟩
def cellsMg (x : Mg) : Array Value := #[.int .u32 (x.fi.toNat : Int), .bool x.fr, .int .u16 (x.st.toNat : Int), .int .u16 (x.ss.toNat : Int), .int .u32 (x.pp.toNat : Int), .string x.tx]
theorem cellsMg_one (x : Mg) : (cellsMg x).all (·.oneCell') = true := by simp [cellsMg, Value.oneCell']
theorem lenMg (x : Mg) : (cellsMg x).toList.length = 6 := rfl
def enc16 (u : UInt16) : Value := .int .u16 (u.toNat : Int)
/-- The turn of a number is over. -/
def pastB (n nx : UInt16) : Bool := decide (32768 ≤ (n - nx).toNat)
def sameB (m x : Mg) : Bool := decide (x.st = m.st) && decide (x.ss = m.ss)
def ofB (s : Int) (x : Mg) : Bool := decide ((x.st.toNat : Int) = s)
def waitsN (wt : List Mg) (s : Int) : Nat := (wt.filter (ofB s)).length
def bytesN (wt : List Mg) : Nat := (wt.map (·.tx.size)).sum
/-- What waits of a stream from a number on, one by one. -/
def tellL (wt : List Mg) (st : UInt16) : Nat → UInt16 → List Mg
  | 0, _ => []
  | n + 1, nx => match wt.find? (fun x => decide (x.st = st) && decide (x.ss = nx)) with
    | none => []
    | some m => m :: tellL wt st n (nx + 1)
theorem waits_next (wt : List Mg) (s : Int) (j : Nat) (h : j < wt.length) : waitsN (wt.take (j + 1)) s = waitsN (wt.take j) s + (ofB s wt[j]).toNat := by
  unfold waitsN
  rw [List.take_succ_eq_append_getElem h, List.filter_append, List.length_append]
  congr 1
  cases hb : ofB s wt[j] with
  | true => rw [List.filter_cons_of_pos hb]; rfl
  | false => rw [List.filter_cons_of_neg (by rw [hb]; decide)]; rfl
theorem bytes_next (wt : List Mg) (j : Nat) (h : j < wt.length) : bytesN (wt.take (j + 1)) = bytesN (wt.take j) + wt[j].tx.size := by
  unfold bytesN
  rw [List.take_succ_eq_append_getElem h, List.map_append, List.sum_append]
  simp
theorem waits_le (wt : List Mg) (s : Int) : waitsN wt s ≤ wt.length := List.length_filter_le ..
theorem bytes_take (wt : List Mg) (j : Nat) : bytesN (wt.take j) ≤ bytesN wt := by
  have e : bytesN wt = bytesN (wt.take j) + bytesN (wt.drop j) := by
    conv => lhs; rw [← List.take_append_drop j wt]
    unfold bytesN
    rw [List.map_append, List.sum_append]
  omega
end Go.Proofs.Ytondgdacjbfihaa
