/-
  Rows of items: what append is fed with; whether two items are the same.
-/
import Derived.Test.YtjdnlolhcjalmaaRow
import Derived.Test.YtjdnlolhcjalmaaWords
import Derived.Test.YtjdnlolhcjalmaaOwn
import Derived.BigRegion
import Derived.Laws.StructEq
namespace Go.Proofs.Ytjdnlolhcjalmaa
open Go.RowKit
set_option linter.unusedVariables false

theorem info63 : (Try.prog.info? 67).map (fun i => (i.zero, i.size, i.bytes)) = some (some (.agg #[.int .i64 0, .string ⟨#[]⟩]), 2, 24) := by kernel_rfl
theorem info47 : (Try.prog.info? 50).map (fun i => (i.zero, i.size, i.bytes)) = some (some (.agg #[.int .i64 0, .string ⟨#[]⟩]), 2, 24) := by kernel_rfl
theorem flatI_take (l : List Item) (k : Nat) (h : k < l.length) : flatI (l.take (k + 1)) = flatI (l.take k) ++ [.int .i64 l[k].1, .string l[k].2] := by
  rw [List.take_succ_eq_append_getElem h, flatI_append]
  rfl
/-- Two cells just laid. -/
theorem fed_two {P : Program} (w : World) (a b : Value) (t : TypeId) (h1 : a.oneCell' = true) (h2 : b.oneCell' = true) : Fed P (w.alloc (.cells #[a, b] t)) 2 (.slice (some ⟨w.heap.size, 0, none⟩) 1 1) 1 [a, b] :=
  Fed.block (heap_alloc_new w _) rfl (by intro u hu; simp at hu; rcases hu with rfl | rfl <;> assumption)

theorem eqB_true {a b : ByteArray} (h : a = b) : (a.toList == b.toList) = true := by subst h; simp
theorem eqB_false {a b : ByteArray} (h : a ≠ b) : (a.toList == b.toList) = false := by
  rw [ByteArray.toList_eq, ByteArray.toList_eq]
  exact beq_eq_false_iff_ne.2 fun e => h (ByteArray.ext (Array.toList_inj.1 e))
theorem neq_items (a c : Int) (s t : ByteArray) (w : World) : (binOp .neq 67 (.agg #[.int .i64 a, .string s]) (.agg #[.int .i64 c, .string t])).run Try.prog w = .ok (.bool (!((a == c) && (s.toList == t.toList)))) w := by
  have hfo : Try.prog.fieldsOf 67 = #[{ name := "Type", type := 3, offset := 0, embedded := false, tag := "", pkgPath := "", byteOffset := 0 }, { name := "Value", type := 9, offset := 1, embedded := false, tag := "", pkgPath := "", byteOffset := 8 }] := by
    unfold Program.fieldsOf
    rw [Try.underlying67]
  rw [run_neq_struct, run_equalIn_struct w 9999 _ _ _ (by rw [hfo]; exact Try.underlying67) Try.stoodInHeld67, hfo]
  cases h1 : (a == c) <;> cases h2 : (s.toList == t.toList) <;> simp [Op.eqFields, go_sem, h1, h2]
theorem neq_is (a c : Int) (s t : ByteArray) (w : World) : (binOp .neq 67 (.agg #[.int .i64 a, .string s]) (.agg #[.int .i64 c, .string t])).run Try.prog w = .ok (.bool (!decide ((a, s) = (c, t)))) w := by
  rw [neq_items]
  congr 3
  by_cases h : (a, s) = (c, t)
  · obtain ⟨rfl, rfl⟩ := Prod.mk.inj h
    rw [eqB_true rfl]
    simp
  · rw [decide_eq_false h]
    by_cases h1 : a = c
    · have h2 : s ≠ t := by rintro rfl; exact h (by rw [h1])
      rw [eqB_false h2, Bool.and_false]
    · rw [beq_eq_false_iff_ne.2 h1, Bool.false_and]
/-- The two rows are the same: what is told of the first k. -/
theorem same_take {l m : List Item} (h : l.length = m.length) (k : Nat) (hk : k < l.length) (h0 : l.take k = m.take k) (h1 : l[k] = m[k]'(by omega)) : l.take (k + 1) = m.take (k + 1) := by
  rw [List.take_succ_eq_append_getElem hk, List.take_succ_eq_append_getElem (by omega), h0, h1]
end Go.Proofs.Ytjdnlolhcjalmaa
