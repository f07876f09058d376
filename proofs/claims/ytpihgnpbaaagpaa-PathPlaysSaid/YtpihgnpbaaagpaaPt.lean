/-
  Package path, plain: paths, and what becomes of them. No program is named here.
-/
import Derived.Test.YtpihgnpbaaagpaaTm
import Derived.Test.YtpihgnpbaaagpaaWn
namespace Go.Proofs.Ytpihgnpbaaagpaa
open Go.RowKit
set_option linter.unusedVariables false

/-- A path: where, its state, how many errors, its timer, its window, its heartbeat. -/
structure Pa where
  ad : ByteArray
  st : Int
  er : Int
  tm : Tm
  wn : Wi.Wn
  no : Int
  be : Int
  se : Int
def zeroPa : Pa := ⟨⟨#[]⟩, 0, 0, zeroT, Wi.zeroT, 0, 0, 0⟩
instance : Inhabited Pa := ⟨zeroPa⟩
structure WfPa (x : Pa) : Prop where
  st : Fits x.st
  er : Fits x.er
  tm : WfT x.tm
  wn : Wi.WfW x.wn
  no : 0 ≤ x.no ∧ x.no < 4294967296
  be : Fits x.be
  se : Fits x.se
def cellsPa (x : Pa) : Array Value := #[.string x.ad, .int .i64 x.st, .int .i64 x.er, .int .i64 x.tm.srtt, .int .i64 x.tm.var, .int .i64 x.tm.rto, .int .i64 x.tm.backs, .bool x.tm.known, .int .i64 x.wn.cw, .int .i64 x.wn.ss, .int .i64 x.wn.pa, .int .u32 x.no, .int .i64 x.be, .int .i64 x.se]
theorem sizePa (x : Pa) : (cellsPa x).size = 14 := rfl
theorem lenPa (x : Pa) : (cellsPa x).toList.length = 14 := rfl
theorem cellsPa_one (x : Pa) : (cellsPa x).all (·.oneCell') = true := by simp [cellsPa, Value.oneCell']
/-- Paths: all of them, which is primary, how many errors in all. -/
structure Ps where
  l : List Pa
  pr : Int
  al : Int
def zeroPs : Ps := ⟨[], 0, 0⟩
def thereB (n : Nat) (i : Int) : Bool := decide (0 ≤ i ∧ i < n)
theorem thereB_lt {n : Nat} {i : Int} (h : thereB n i = true) : i.toNat < n ∧ i = (i.toNat : Int) := by
  have := of_decide_eq_true h
  omega
theorem thereB_nat {n k : Nat} (h : k < n) : thereB n (k : Int) = true := decide_eq_true (by omega)
theorem thereB_not {n : Nat} {i : Int} (h : thereB n i = false) : ¬ (0 ≤ i ∧ i < n) := of_decide_eq_false h
/-- What is done to path i. -/
def updL (l : List Pa) (i : Int) (f : Pa → Pa) : List Pa := l.set i.toNat (f (l.getD i.toNat zeroPa))
theorem updL_length (l : List Pa) (i : Int) (f : Pa → Pa) : (updL l i f).length = l.length := by simp [updL]
def beatF (nonce now : Int) (x : Pa) : Pa := { x with no := nonce, be := now, se := 1 }
def ansB (x : Pa) (nonce now : Int) : Bool := decide (x.se = 1) && decide (x.no = nonce) && decide (x.be ≤ now)
def upSt (s : Int) : Int := if s = 1 then 2 else s
def okSt (s : Int) : Int := if s = 3 then 2 else s
def heardF (x : Pa) : Pa := { x with er := 0, tm := goodT x.tm, st := okSt x.st }
def ackF (now : Int) (x : Pa) : Pa := heardF { x with tm := sampleT x.tm (wrap64 (now - x.be)), se := 0, st := upSt x.st }
def downSt (er st : Int) : Int := if 5 < er ∧ st = 2 then 3 else st
def failF (x : Pa) : Pa := { x with er := wrap64 (x.er + 1), tm := backT x.tm, wn := Wi.restartedT (Wi.heldT x.wn), st := downSt (wrap64 (x.er + 1)) x.st }
def atL (l : List Pa) (i : Int) : Pa := l.getD i.toNat zeroPa
def beatP (p : Ps) (i nonce now : Int) : Ps := if thereB p.l.length i then { p with l := updL p.l i (beatF nonce now) } else p
def ackB (p : Ps) (i nonce now : Int) : Bool := thereB p.l.length i && ansB (atL p.l i) nonce now
def ackP (p : Ps) (i nonce now : Int) : Ps := if ackB p i nonce now then { p with l := updL p.l i (ackF now), al := 0 } else p
def failP (p : Ps) (i : Int) : Ps := if thereB p.l.length i then { p with l := updL p.l i failF, al := wrap64 (p.al + 1) } else p
def failB (p : Ps) (i : Int) : Bool := thereB p.l.length i && decide (10 < wrap64 (p.al + 1))
def goodP (p : Ps) (i : Int) : Ps := if thereB p.l.length i then { p with l := updL p.l i heardF, al := 0 } else p
def activeB (p : Ps) (i : Int) : Bool := thereB p.l.length i && decide ((atL p.l i).st = 2)
/-- The first that is active, from k on, and not this. -/
def firstOf (p : Ps) (n : Int) : Option Nat := (List.range p.l.length).find? fun (k : Nat) => decide ((k : Int) ≠ n) && activeB p (k : Int)
def chooseP (p : Ps) (n : Int) : Int :=
  if decide (p.pr ≠ n) && activeB p p.pr then p.pr else
  match firstOf p n with
  | some k => (k : Int)
  | none => if activeB p n then n else if thereB p.l.length p.pr then p.pr else -1
def primE (p : Ps) (i : Int) : Int := if thereB p.l.length i then (if (atL p.l i).st = 1 then 11 else 0) else 8
def primP (p : Ps) (i : Int) : Ps := if primE p i = 0 then { p with pr := i } else zeroPs
def firstAd (l : List Pa) (s : ByteArray) : Option Nat := (List.range l.length).find? fun (k : Nat) => decide ((l.getD k zeroPa).ad = s)
def findI (l : List Pa) (s : ByteArray) : Int := match firstAd l s with | some k => (k : Int) | none => -1
theorem choose_primary {p : Ps} {n : Int} (h : p.pr ≠ n) (ha : activeB p p.pr = true) : chooseP p n = p.pr := by
  unfold chooseP
  rw [if_pos (by simp [h, ha])]
def Not1 (p : Ps) (n : Int) : Prop := (decide (p.pr ≠ n) && activeB p p.pr) = false
theorem not1_eq {p : Ps} {n : Int} (h : p.pr = n) : Not1 p n := by simp [Not1, h]
theorem not1_act {p : Ps} {n : Int} (h : activeB p p.pr = false) : Not1 p n := by simp [Not1, h]
/-- None of the first k is another one that is active. -/
def NoneTo (p : Ps) (n : Int) (k : Nat) : Prop := ∀ j, j < k → (decide ((j : Int) ≠ n) && activeB p (j : Int)) = false
theorem noneTo_0 (p : Ps) (n : Int) : NoneTo p n 0 := fun j hj => absurd hj (by omega)
theorem noneTo_succ {p : Ps} {n : Int} {k : Nat} (h : NoneTo p n k) (hk : (decide ((k : Int) ≠ n) && activeB p (k : Int)) = false) : NoneTo p n (k + 1) := fun j hj => by
  by_cases e : j = k
  · subst e; exact hk
  · exact h j (by omega)
theorem first_some {p : Ps} {n : Int} {k : Nat} (h : NoneTo p n k) (hk : k < p.l.length) (hn : (k : Int) ≠ n) (ha : activeB p (k : Int) = true) : firstOf p n = some k := by
  unfold firstOf
  rw [List.find?_range_eq_some]
  refine ⟨by simp [hn, ha], by simpa using hk, fun j hj => by rw [h j hj]; rfl⟩
theorem first_none {p : Ps} {n : Int} (h : NoneTo p n p.l.length) : firstOf p n = none := by
  unfold firstOf
  rw [List.find?_range_eq_none]
  exact fun j hj => by rw [h j hj]; rfl
theorem choose_first {p : Ps} {n : Int} {k : Nat} (h1 : Not1 p n) (h : NoneTo p n k) (hk : k < p.l.length) (hn : (k : Int) ≠ n) (ha : activeB p (k : Int) = true) : chooseP p n = (k : Int) := by
  unfold chooseP
  rw [if_neg (by rw [h1]; simp), first_some h hk hn ha]
theorem choose_rest {p : Ps} {n : Int} (h1 : Not1 p n) (h : NoneTo p n p.l.length) : chooseP p n = if activeB p n then n else if thereB p.l.length p.pr then p.pr else -1 := by
  unfold chooseP
  rw [if_neg (by rw [h1]; simp), first_none h]
def NoAd (l : List Pa) (s : ByteArray) (k : Nat) : Prop := ∀ j, j < k → decide ((l.getD j zeroPa).ad = s) = false
theorem noAd_0 (l : List Pa) (s : ByteArray) : NoAd l s 0 := fun j hj => absurd hj (by omega)
theorem noAd_succ {l : List Pa} {s : ByteArray} {k : Nat} (h : NoAd l s k) (hlt : k < l.length) (hk : l[k].ad ≠ s) : NoAd l s (k + 1) := fun j hj => by
  by_cases e : j = k
  · subst e
    rw [List.getD_eq_getElem?_getD, List.getElem?_eq_getElem hlt]
    exact decide_eq_false hk
  · exact h j (by omega)
theorem find_some {l : List Pa} {s : ByteArray} {k : Nat} (h : NoAd l s k) (hlt : k < l.length) (hk : l[k].ad = s) : findI l s = (k : Int) := by
  have : firstAd l s = some k := by
    unfold firstAd
    rw [List.find?_range_eq_some]
    refine ⟨?_, by simpa using hlt, fun j hj => by rw [h j hj]; rfl⟩
    rw [List.getD_eq_getElem?_getD, List.getElem?_eq_getElem hlt]
    exact decide_eq_true hk
  unfold findI
  rw [this]
theorem find_none {l : List Pa} {s : ByteArray} (h : NoAd l s l.length) : findI l s = -1 := by
  have : firstAd l s = none := by
    unfold firstAd
    rw [List.find?_range_eq_none]
    exact fun j hj => by rw [h j hj]; rfl
  unfold findI
  rw [this]
/-- New. -/
def addrB (s : ByteArray) : Bool := decide (s.size = 4) || decide (s.size = 16)
def newPa (peer : Int) (k : Nat) (s : ByteArray) : Pa := ⟨s, if k = 0 then 2 else 1, 0, newT, Wi.newT peer, 0, 0, 0⟩
def twiceB : List ByteArray → Bool
  | [] => false
  | s :: r => r.contains s || twiceB r
end Go.Proofs.Ytpihgnpbaaagpaa
