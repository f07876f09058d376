/-
  Package rto, plain: a timer, and what becomes of it. No program is named here.
-/
import Derived.WalkKit
import Derived.Lib.Hide
namespace Go.Proofs.Ytpihgnpbaaagpaa
open Go.RowKit
set_option linter.unusedVariables false

/-- A number that an int can be. -/
def Fits (n : Int) : Prop := -9223372036854775808 ≤ n ∧ n ≤ 9223372036854775807
theorem fits_0 : Fits 0 := by constructor <;> decide
def heldI (n least most : Int) : Int := min (max n least) most
def keptI (n : Int) : Int := heldI n 0 1048576
def asRtoI (n : Int) : Int := heldI n 1000 60000
def waitI (s v : Int) : Int := asRtoI (s + 4 * v)
def distI (a b : Int) : Int := max a b - min a b
theorem heldI_le {n least most : Int} (h : least ≤ most) : least ≤ heldI n least most ∧ heldI n least most ≤ most := by unfold heldI; omega
theorem keptI_le (n : Int) : 0 ≤ keptI n ∧ keptI n ≤ 1048576 := heldI_le (by omega)
theorem asRtoI_le (n : Int) : 1000 ≤ asRtoI n ∧ asRtoI n ≤ 60000 := heldI_le (by omega)
theorem waitI_le (s v : Int) : 1000 ≤ waitI s v ∧ waitI s v ≤ 60000 := asRtoI_le _
theorem keptI_in {n : Int} (h : 0 ≤ n) (h' : n ≤ 1048576) : keptI n = n := by unfold keptI heldI; omega

/-- A timer: four numbers and whether something was seen. -/
structure Tm where
  srtt : Int
  var : Int
  rto : Int
  backs : Int
  known : Bool
deriving DecidableEq
structure WfT (t : Tm) : Prop where
  srtt : Fits t.srtt
  var : Fits t.var
  rto : Fits t.rto
  backs : Fits t.backs
def cellsT (t : Tm) : Array Value := #[.int .i64 t.srtt, .int .i64 t.var, .int .i64 t.rto, .int .i64 t.backs, .bool t.known]
theorem sizeT (t : Tm) : (cellsT t).size = 5 := rfl
def newT : Tm := ⟨0, 0, 1000, 0, false⟩
def zeroT : Tm := ⟨0, 0, 0, 0, false⟩
/-- Srtt and Var by a sample that is in bounds. -/
def srttI (t : Tm) (q : Int) : Int := if t.known then (7 * keptI t.srtt + q) / 8 else q
def varI (t : Tm) (q : Int) : Int := if t.known then (3 * keptI t.var + distI (keptI t.srtt) q) / 4 else q / 2
def sampleT (t : Tm) (r : Int) : Tm := ⟨srttI t (heldI r 0 60000), varI t (heldI r 0 60000), waitI (srttI t (heldI r 0 60000)) (varI t (heldI r 0 60000)), 0, true⟩
def backT (t : Tm) : Tm := ⟨t.srtt, t.var, asRtoI (2 * heldI t.rto 0 60000), min t.backs 999 + 1, t.known⟩
def goodT (t : Tm) : Tm := ⟨t.srtt, t.var, if t.known then waitI (keptI t.srtt) (keptI t.var) else 1000, 0, t.known⟩
def beatI (t : Tm) (every : Int) : Int := keptI t.rto + keptI every
theorem srttI_le (t : Tm) (q : Int) (h : 0 ≤ q) (h' : q ≤ 60000) : 0 ≤ srttI t q ∧ srttI t q ≤ 1048576 := by
  have := keptI_le t.srtt
  unfold srttI
  split <;> omega
theorem distI_le {a b m : Int} (h : 0 ≤ a) (h' : a ≤ m) (k : 0 ≤ b) (k' : b ≤ m) : 0 ≤ distI a b ∧ distI a b ≤ m := by unfold distI; omega
theorem varI_le (t : Tm) (q : Int) (h : 0 ≤ q) (h' : q ≤ 60000) : 0 ≤ varI t q ∧ varI t q ≤ 1048576 := by
  have h1 := keptI_le t.srtt
  have h2 := keptI_le t.var
  have h3 := distI_le h1.1 h1.2 h (by omega : q ≤ 1048576)
  unfold varI
  split <;> omega
theorem new_wf : WfT newT := by constructor <;> (constructor <;> decide)
theorem sample_wf (t : Tm) (r : Int) : WfT (sampleT t r) := by
  have h0 := heldI_le (n := r) (show (0 : Int) ≤ 60000 by omega)
  have h1 := srttI_le t _ h0.1 h0.2
  have h2 := varI_le t _ h0.1 h0.2
  have h3 := waitI_le (srttI t (heldI r 0 60000)) (varI t (heldI r 0 60000))
  exact ⟨⟨by show _ ≤ srttI _ _; omega, by show srttI _ _ ≤ _; omega⟩, ⟨by show _ ≤ varI _ _; omega, by show varI _ _ ≤ _; omega⟩, ⟨by show _ ≤ waitI _ _; omega, by show waitI _ _ ≤ _; omega⟩, fits_0⟩
theorem back_wf {t : Tm} (h : WfT t) : WfT (backT t) := by
  have h3 := asRtoI_le (2 * heldI t.rto 0 60000)
  have hb := h.backs
  unfold Fits at hb
  exact ⟨h.srtt, h.var, ⟨by show _ ≤ asRtoI _; omega, by show asRtoI _ ≤ _; omega⟩, ⟨by show _ ≤ min t.backs 999 + 1; omega, by show min t.backs 999 + 1 ≤ _; omega⟩⟩
theorem good_wf {t : Tm} (h : WfT t) : WfT (goodT t) := by
  refine ⟨h.srtt, h.var, ?_, fits_0⟩
  show Fits (if t.known then waitI (keptI t.srtt) (keptI t.var) else 1000)
  have h3 := waitI_le (keptI t.srtt) (keptI t.var)
  unfold Fits
  split <;> omega
end Go.Proofs.Ytpihgnpbaaagpaa
