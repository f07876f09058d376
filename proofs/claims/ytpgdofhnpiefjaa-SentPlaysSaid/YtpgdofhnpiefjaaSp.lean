/-
  Package sent, plain: what is under way, and what becomes of it. No program is named here.
-/
import Derived.Test.YtpgdofhnpiefjaaMem
namespace Go.Proofs.Ytpgdofhnpiefjaa
open Go.RowKit
set_option linter.unusedVariables false

/-- A piece: number, size, state, misses, times, path, at. -/
structure Pc where
  ts : UInt32
  sz : Int
  st : Int
  mi : Int
  ti : Int
  pa : Int
  tm : Int
instance : Inhabited Pc := ⟨⟨0, 0, 0, 0, 0, 0, 0⟩⟩
def cellsPc (x : Pc) : Array Value := #[.int .u32 (x.ts.toNat : Int), .int .i64 x.sz, .int .i64 x.st, .int .i64 x.mi, .int .i64 x.ti, .int .i64 x.pa, .int .i64 x.tm]
theorem cellsPc_one (x : Pc) : (cellsPc x).all (·.oneCell') = true := by simp [cellsPc, Value.oneCell']
theorem lenPc (x : Pc) : (cellsPc x).toList.length = 7 := rfl
/-- Numbers that fit. -/
def FitI (n : Int) : Prop := -9223372036854775808 ≤ n ∧ n ≤ 9223372036854775807
structure WfPc (x : Pc) : Prop where
  sz : FitI x.sz
  st : FitI x.st
  mi : FitI x.mi
  ti : FitI x.ti
  pa : FitI x.pa
  tm : FitI x.tm
/-- A right one, but for the numbers. -/
structure OkPc (x : Pc) : Prop where
  s1 : 1 ≤ x.st
  s3 : x.st ≤ 3
  z1 : 1 ≤ x.sz
  z2 : x.sz ≤ 1500
structure OkL (c : UInt32) (l : List Pc) : Prop where
  len : l.length ≤ 64
  ok : ∀ x ∈ l, OkPc x
  ts : ∀ i (h : i < l.length), l[i].ts = c + 1 + UInt32.ofNat i
def nextL (c : UInt32) (l : List Pc) : UInt32 := c + UInt32.ofNat l.length + 1
def outB (p : Int) (x : Pc) : Bool := decide (x.st = 1) && (decide (p < 0) || decide (x.pa = p))
def sumZ (f : Pc → Bool) (l : List Pc) : Int := ((l.filter f).map (·.sz)).sum
def underL (p : Int) (l : List Pc) : Int := sumZ (outB p) l
def lostX (x : Pc) : Pc := { x with st := 3, mi := 0 }
def lossL (l : List Pc) : List UInt32 := (l.filter fun x => decide (x.st = 3)).map (·.ts)
def dropX (p : Int) (x : Pc) : Pc := if outB p x then lostX x else x
def dropL (p : Int) (l : List Pc) : List Pc := l.map (dropX p)
def dropN (p : Int) (l : List Pc) : List UInt32 := (l.filter (outB p)).map (·.ts)
def hitA (t : UInt32) (x : Pc) : Bool := decide (x.ts = t) && decide (x.st = 3)
def againX (p now : Int) (x : Pc) : Pc := { x with st := 1, pa := p, tm := now, ti := IntKind.i64.wrap (x.ti + 1) }
/-- Where the first one lies of which f says yes. -/
def findL {α : Type} (f : α → Bool) (l : List α) : Option Nat := l.findIdx? f
def againL (t : UInt32) (p now : Int) (l : List Pc) : List Pc × Bool :=
  match findL (hitA t) l with
  | some i => (l.set i (againX p now l[i]!), true)
  | none => (l, false)

/-! ### Ack -/
/-- What was told. -/
structure Rs where
  by' : Int
  out : Int
  mo : Bool
  fr : Bool
  dn : List UInt32
  fa : List UInt32
  tk : List Int
def zeroR : Rs := ⟨0, 0, false, false, [], [], []⟩
def badG (left : Nat) (g : Nat × Nat) : Bool := decide (g.1 = 0) || decide (g.2 < g.1) || decide (left < g.2)
def dist (c n : UInt32) : Nat := (n - c).toNat
def mayB (c : UInt32) (l : List Pc) (cum : UInt32) (gs : List (Nat × Nat)) : Bool := decide (dist c cum ≤ l.length) && !gs.any (badG (l.length - dist c cum))
def tellR (now : Int) (r : Rs) (x : Pc) : Rs := { r with fr := true, by' := r.by' + x.sz, tk := if x.ti = 1 ∧ x.tm ≤ now then r.tk ++ [IntKind.i64.wrap (now - x.tm)] else r.tk }
def stepD (now : Int) (r : Rs) (x : Pc) : Rs := if x.st = 2 then { r with dn := r.dn ++ [x.ts] } else tellR now { r with dn := r.dn ++ [x.ts] } x
def inG (far : Nat) (g : Nat × Nat) : Bool := decide (g.1 ≤ far) && decide (far ≤ g.2)
def hitG (gs : List (Nat × Nat)) (far : Nat) : Bool := gs.any (inG far)
structure Mk where
  l : List Pc
  r : Rs
  a : Nat
def stepM (gs : List (Nat × Nat)) (now : Int) (s : Mk) (x : Pc) : Mk :=
  if hitG gs (s.l.length + 1) then (if x.st = 2 then ⟨s.l ++ [x], s.r, s.a⟩ else ⟨s.l ++ [{ x with st := 2 }], tellR now s.r x, s.l.length⟩)
  else if x.st = 2 then ⟨s.l ++ [{ x with st := 1, mi := 0 }], s.r, s.a⟩ else ⟨s.l ++ [x], s.r, s.a⟩
def missX (x : Pc) : Pc := if x.st = 1 then (if IntKind.i64.wrap (x.mi + 1) = 3 then lostX x else { x with mi := IntKind.i64.wrap (x.mi + 1) }) else x
def missB (x : Pc) : Bool := decide (x.st = 1) && decide (IntKind.i64.wrap (x.mi + 1) = 3)
def missN (l : List Pc) : List UInt32 := (l.filter missB).map (·.ts)
/-- What Ack makes of right pieces, where it may. -/
def goneR (now : Int) (l : List Pc) (k : Nat) : Rs := (l.take k).foldl (stepD now) ⟨0, underL (-1) l, decide (0 < k), false, [], [], []⟩
def markL (now : Int) (l : List Pc) (gs : List (Nat × Nat)) (k : Nat) : Mk := (l.drop k).foldl (stepM gs now) ⟨[], goneR now l k, 0⟩
def ackL (now : Int) (l : List Pc) (gs : List (Nat × Nat)) (k : Nat) : List Pc := (markL now l gs k).l.mapIdx fun i x => if i < (markL now l gs k).a then missX x else x
def ackR (now : Int) (l : List Pc) (gs : List (Nat × Nat)) (k : Nat) : Rs := { (markL now l gs k).r with fa := missN ((markL now l gs k).l.take (markL now l gs k).a) }

/-! ### Of rows that are gone over -/
theorem foldl_take {α β : Type} (f : β → α → β) (b : β) (l : List α) (j : Nat) (h : j < l.length) : (l.take (j + 1)).foldl f b = f ((l.take j).foldl f b) l[j] := by
  rw [List.take_succ_eq_append_getElem h, List.foldl_append]
  rfl
theorem filter_take {α : Type} (f : α → Bool) (l : List α) (j : Nat) (h : j < l.length) : (l.take (j + 1)).filter f = (l.take j).filter f ++ (if f l[j] then [l[j]] else []) := by
  rw [List.take_succ_eq_append_getElem h, List.filter_append]
  congr 1
  by_cases hf : f l[j] = true
  · rw [if_pos hf, List.filter_cons_of_pos hf]; rfl
  · rw [if_neg hf, List.filter_cons_of_neg hf]; rfl
theorem sumZ_take (f : Pc → Bool) (l : List Pc) (j : Nat) (h : j < l.length) : sumZ f (l.take (j + 1)) = sumZ f (l.take j) + if f l[j] then l[j].sz else 0 := by
  unfold sumZ
  rw [filter_take f l j h, List.map_append, List.sum_append]
  by_cases hf : f l[j] = true
  · rw [if_pos hf, if_pos hf]; simp
  · rw [if_neg hf, if_neg hf]; simp
theorem sumZ_append (f : Pc → Bool) (l m : List Pc) : sumZ f (l ++ m) = sumZ f l + sumZ f m := by unfold sumZ; rw [List.filter_append, List.map_append, List.sum_append]
theorem sumZ_nil (f : Pc → Bool) : sumZ f [] = 0 := rfl
theorem sumZ_cons (f : Pc → Bool) (x : Pc) (l : List Pc) : sumZ f (x :: l) = (if f x then x.sz else 0) + sumZ f l := by
  unfold sumZ
  by_cases hf : f x = true
  · rw [if_pos hf, List.filter_cons_of_pos hf]; simp
  · rw [if_neg hf, List.filter_cons_of_neg hf]; simp
theorem sumZ_lo (f : Pc → Bool) : ∀ (l : List Pc), (∀ x ∈ l, OkPc x) → 0 ≤ sumZ f l ∧ sumZ f l ≤ 1500 * (l.length : Int)
  | [], _ => by simp [sumZ_nil]
  | x :: l, h => by
    have h1 := sumZ_lo f l (fun y hy => h y (List.mem_cons_of_mem _ hy))
    have h2 := h x (List.mem_cons_self ..)
    have h3 := h2.z1
    have h4 := h2.z2
    rw [sumZ_cons, List.length_cons]
    split <;> omega
theorem sumZ_pre (f : Pc → Bool) {l : List Pc} (h : ∀ x ∈ l, OkPc x) (j : Nat) : 0 ≤ sumZ f (l.take j) ∧ sumZ f (l.take j) ≤ 1500 * (l.length : Int) := by
  have h1 := sumZ_lo f (l.take j) (fun x hx => h x (List.mem_of_mem_take hx))
  rw [List.length_take] at h1
  omega
theorem set_at {α : Type} (p r : List α) (x y : α) (j : Nat) (h : p.length = j) : (p ++ x :: r).set j y = (p ++ [y]) ++ r := by
  subst h
  rw [List.set_append_right _ _ (Nat.le_refl _), Nat.sub_self, List.set_cons_zero]
  simp
theorem drop_at {α : Type} (l : List α) (j : Nat) (h : j < l.length) : l.drop j = l[j] :: l.drop (j + 1) := List.drop_eq_getElem_cons h
theorem get_at {α : Type} (p r : List α) (x : α) (j : Nat) (h : p.length = j) (h' : j < (p ++ x :: r).length) : (p ++ x :: r)[j] = x := by
  subst h
  simp
end Go.Proofs.Ytpgdofhnpiefjaa
