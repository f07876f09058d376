/-
  Package window, plain: a window, and what becomes of it. No program is named here.
-/
import Derived.WalkKit
import Derived.Lib.Hide
namespace Go.Proofs.Ytpihgnpbaaagpaa.Wi
open Go.RowKit
set_option linter.unusedVariables false

/-- A number that an int can be. -/
def Fits (n : Int) : Prop := -9223372036854775808 ≤ n ∧ n ≤ 9223372036854775807
structure Wn where
  cw : Int
  ss : Int
  pa : Int
deriving DecidableEq
structure WfW (t : Wn) : Prop where
  cw : Fits t.cw
  ss : Fits t.ss
  pa : Fits t.pa
def cellsT (t : Wn) : Array Value := #[.int .i64 t.cw, .int .i64 t.ss, .int .i64 t.pa]
theorem sizeT (t : Wn) : (cellsT t).size = 3 := rfl
theorem cellsT_one (t : Wn) : (cellsT t).all (·.oneCell') = true := by simp [cellsT, Value.oneCell']
def zeroT : Wn := ⟨0, 0, 0⟩
def keptI (n : Int) : Int := min (max n 0) 1073741824
theorem keptI_le (n : Int) : 0 ≤ keptI n ∧ keptI n ≤ 1073741824 := by unfold keptI; omega
theorem keptI_in {n : Int} (h : 0 ≤ n) (h' : n ≤ 1073741824) : keptI n = n := by unfold keptI; omega
def heldT (t : Wn) : Wn := ⟨max (keptI t.cw) 1500, keptI t.ss, keptI t.pa⟩
/-- The numbers are within bounds. -/
structure Inb (t : Wn) : Prop where
  cw : 1500 ≤ t.cw ∧ t.cw ≤ 1073741824
  ss : 0 ≤ t.ss ∧ t.ss ≤ 1073741824
  pa : 0 ≤ t.pa ∧ t.pa ≤ 1073741824
theorem held_inb (t : Wn) : Inb (heldT t) := by
  have h1 := keptI_le t.cw
  exact ⟨⟨by show _ ≤ max _ _; omega, by show max _ _ ≤ _; omega⟩, keptI_le _, keptI_le _⟩
theorem held_in {t : Wn} (h : Inb t) : heldT t = t := by
  obtain ⟨c, s, p⟩ := t
  obtain ⟨⟨h1, h2⟩, ⟨h3, h4⟩, h5, h6⟩ := h
  simp only at h1 h2 h3 h4 h5 h6
  unfold heldT
  simp only
  rw [keptI_in (by omega) h2, keptI_in h3 h4, keptI_in h5 h6]
  rw [show max c 1500 = c by omega]
theorem inb_wf {t : Wn} (h : Inb t) : WfW t := by
  obtain ⟨⟨h1, h2⟩, ⟨h3, h4⟩, h5, h6⟩ := h
  exact ⟨⟨by omega, by omega⟩, ⟨by omega, by omega⟩, by omega, by omega⟩
def newT (peer : Int) : Wn := ⟨4500, keptI peer, 0⟩
def halfI (t : Wn) : Int := max (t.cw / 2) 6000
def halvedT (t : Wn) : Wn := ⟨halfI t, halfI t, 0⟩
def restartedT (t : Wn) : Wn := ⟨1500, halfI t, 0⟩
def restedT (t : Wn) : Wn := ⟨min t.cw (halfI t), t.ss, t.pa⟩
def slowB (t : Wn) : Bool := decide ((heldT t).cw ≤ (heldT t).ss)
def mayB (t : Wn) (out : Int) : Bool := decide (keptI out < (heldT t).cw)
def fastT (t : Wn) (b o : Int) : Wn := if t.cw ≤ o then ⟨t.cw + min b 1500, t.ss, 0⟩ else ⟨t.cw, t.ss, 0⟩
def steady1 (t : Wn) (b o : Int) : Wn := if t.cw ≤ t.pa + b ∧ t.cw ≤ o then ⟨t.cw + 1500, t.ss, t.pa + b - t.cw⟩ else ⟨t.cw, t.ss, t.pa + b⟩
def steadyT (t : Wn) (b o : Int) : Wn := if b = o then ⟨(steady1 t b o).cw, (steady1 t b o).ss, 0⟩ else steady1 t b o
def grownT (t : Wn) (b o : Int) (m : Bool) : Wn := if m then (if slowB t then fastT t b o else steadyT t b o) else t
def ackedT (t : Wn) (b o : Int) (m : Bool) : Wn := heldT (grownT (heldT t) (keptI b) (keptI o) m)
theorem slow_held (t : Wn) : slowB (heldT t) = slowB t := by unfold slowB; rw [held_in (held_inb t)]
theorem halfI_le {t : Wn} (h : Inb t) : 6000 ≤ halfI t ∧ halfI t ≤ 536870912 := by
  have := h.cw
  unfold halfI
  omega
end Go.Proofs.Ytpihgnpbaaagpaa.Wi
