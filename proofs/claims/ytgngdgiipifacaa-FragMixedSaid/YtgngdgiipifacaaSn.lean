/-
  A bag behind its pieces; a bag in its box.
-/
import Derived.Test.YtgngdgiipifacaaSl
import Derived.Test.YtgngdgiipifacaaArgs
import Derived.Laws.StructEq
import Derived.ChangeKeysEq
namespace Go.Proofs.Ytgngdgiipifacaa
open Go.RowKit
set_option linter.unusedVariables false
set_option linter.unusedSimpArgs false
set_option maxRecDepth 100000

def bagL (l : List Pc) : List Pc := l.foldl (fun b p => (putP b p).1) []
theorem bagL_next (l : List Pc) (j : Nat) (h : j < l.length) : bagL (l.take (j + 1)) = (putP (bagL (l.take j)) l[j]).1 := by
  unfold bagL
  rw [List.take_succ_eq_append_getElem h, List.foldl_append]
  rfl
structure BagI (b : List Pc) (j : Nat) : Prop where
  ok : OkB b
  len : b.length ≤ j
  by' : bytesL b ≤ 1000 * j
theorem BagI.start : BagI [] 0 := ⟨okB_nil, Nat.le_refl _, Nat.le_refl _⟩
theorem BagI.put {b : List Pc} {j : Nat} (h : BagI b j) (hj : j < 900) {p : Pc} (hp : p.tx.size ≤ 1000) : BagI (putP b p).1 (j + 1) := by
  have hl := h.len
  have hb := h.by'
  obtain ⟨h1, h2⟩ := putP_ok p h.ok (by omega)
  obtain ⟨g1, g2, -⟩ := putP_bytes p h.ok (by omega)
  refine ⟨h1, by omega, ?_⟩
  by_cases hc : (putP b p).2.isSome = true ∨ b.length < (putP b p).1.length
  · have := g1 hc; omega
  · have := g2 hc; omega
theorem bag_inv {l : List Pc} (hs : smallB l = true) : ∀ j, j ≤ l.length → BagI (bagL (l.take j)) j
  | 0, _ => BagI.start
  | j + 1, h => by
    obtain ⟨h1, h2⟩ := small_long hs
    rw [bagL_next l j (by omega)]
    exact (bag_inv hs j (by omega)).put (by omega) (h2 _ (List.getElem_mem (by omega)))
/-- Block g holds the bag l. -/
def BAt (g : Nat) (l : List Pc) (W : World) : Prop := ∃ A k, Bx W g 32 #[.slice A l.length k] ∧ RowP W (.slice A l.length k) l
section
variable {g : Nat} {l : List Pc} {W W' : World}
theorem BAt.lt (h : BAt g l W) : g < W.heap.size := by obtain ⟨A, k, h, _⟩ := h; exact h.lt
theorem BAt.later (h : BAt g l W) (hb : Below W.heap.size W W') : BAt g l W' := by
  obtain ⟨A, k, h1, h2⟩ := h
  exact ⟨A, k, h1.later hb, h2.below hb⟩
end
theorem put_anyE (l : List Pc) (hl : l.length < 999) (hok : OkB l) (p : Pc) (hz : bytesL l + p.tx.size ≤ 1000000000) (v : Value) (w : World) (h : RowP w v l) :
    Calls Try.prog 14 #[.agg #[v], .agg (cellsPc p)] w fun e w' => ∃ A k, e = .returned (.tuple #[.agg #[.slice A (putP l p).1.length k], .agg (cellsMg ((putP l p).2.getD zeroMg)), .bool (putP l p).2.isSome]) ∧ RowP w' (.slice A (putP l p).1.length k) (putP l p).1 ∧ Fresh w.heap.size (.slice A (putP l p).1.length k) ∧ Below w.heap.size w w' := put_any l hl hok p hz v w h
theorem equal_mg (x : Mg) (w : World) : (Op.equalIn 10000 39 (.agg (cellsMg x)) (.agg (cellsMg x))).run Try.prog w = .ok true w := by
  have hu := Try.underlying39
  rw [run_equalIn_struct w 9999 _ _ _ (by unfold Program.fieldsOf; rw [hu]) Try.stoodInHeld39]
  unfold Program.fieldsOf
  rw [hu]
  obtain ⟨fi, fr, st, ss, pp, tx⟩ := x
  simp [Op.eqFields, go_sem, cellsMg]
theorem run_bin_at {P : Program} {f : Operand → Value} {o : Oper} {w : World} {b : BinOp} {t t' : TypeId} {x y : Operand} {u v r : Value} (ho : o.op = .binOp b t x y t') (hx : f x = u) (hy : f y = v) (hg : (eqGuard b t x y u v).run P w = .ok () w) (h : (binOp b t u v).run P w = .ok r w) : (execOp f o).run P w = .ok (Next.value r) w := by
  unfold execOp
  simp [ho, hx, hy, hg, h, Result.andThen]
theorem guard_mg (x y : Operand) (b : BinOp) (cs ds : Array Value) (w : World) : (eqGuard b 39 x y (.agg cs) (.agg ds)).run Try.prog w = .ok () w := by
  have h0 : Try.prog.eqGuardType Try.prog.depth 39 = false := by kernel_rfl
  cases b <;> simp [eqGuard, go_sem, h0]
theorem eql_mg (x : Mg) (w : World) : (binOp .eql 39 (.agg (cellsMg x)) (.agg (cellsMg x))).run Try.prog w = .ok (.bool true) w := by
  rw [run_eql_struct, equal_mg]
  rfl
end Go.Proofs.Ytgngdgiipifacaa
