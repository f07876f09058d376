/-
  Package frag: types, the map of pieces, small functions: contracts.
-/
import Derived.Test.YtgngdgiipifacaaProg
import Derived.Test.YtgngdgiipifacaaSq
import Derived.Test.YtgngdgiipifacaaOwn
import Derived.Test.YtgngdgiipifacaaWaits
import Derived.Test.YtgngdgiipifacaaWords
import Derived.Test.YtgngdgiipifacaaWhere8
import Derived.Lib.SliceRun
import Derived.Deep.RegionHeld3
import Derived.StillTailTactics
import Derived.Maps.OwnSet
namespace Go.Proofs.Ytgngdgiipifacaa
open Go.RowKit
set_option linter.unusedVariables false
set_option linter.unusedSimpArgs false
set_option maxRecDepth 100000

open Go.Maps
theorem ret_i64 {a b : Int} (h : a = b) : Ending.returned (.int .i64 a) = .returned (.int .i64 b) := by rw [h]
theorem ret_u32 {a b : Int} (h : a = b) : Ending.returned (.int .u32 a) = .returned (.int .u32 b) := by rw [h]
theorem ret_bool {a b : Bool} (h : a = b) : Ending.returned (.bool a) = .returned (.bool b) := by rw [h]
theorem infoP : (Try.prog.info? 43).map (·.size) = some 8 := by kernel_rfl
theorem infoRP : (Try.prog.info? 47).map (·.size) = some 8 := by kernel_rfl
theorem infoB : (Try.prog.info? 32).map (·.size) = some 1 := by kernel_rfl
theorem infoRB : (Try.prog.info? 35).map (·.size) = some 1 := by kernel_rfl
theorem infoM : (Try.prog.info? 39).map (·.size) = some 6 := by kernel_rfl
theorem infoRM : (Try.prog.info? 44).map (·.size) = some 6 := by kernel_rfl
theorem infoI : (Try.prog.info? 3).map (·.size) = some 1 := by kernel_rfl
theorem infoU : (Try.prog.info? 36).map (·.size) = some 1 := by kernel_rfl
theorem infoH : (Try.prog.info? 37).map (·.size) = some 1 := by kernel_rfl
theorem infoO : (Try.prog.info? 4).map (·.size) = some 1 := by kernel_rfl
theorem infoPL : (Try.prog.info? 29).map (·.size) = some 1 := by kernel_rfl
theorem infoRPL : (Try.prog.info? 33).map (·.size) = some 1 := by kernel_rfl
theorem infoST : (Try.prog.info? 9).map (·.size) = some 1 := by kernel_rfl
theorem infoSU : (Try.prog.info? 49).map (·.size) = some 1 := by kernel_rfl
theorem infoSI : (Try.prog.info? 56).map (·.size) = some 1 := by kernel_rfl
theorem infoSS : (Try.prog.info? 23).map (·.size) = some 1 := by kernel_rfl
theorem infoMAP : (Try.prog.info? 60).map (·.size) = some 1 := by kernel_rfl
theorem infoPZ : (Try.prog.info? 43).map (fun i => (i.zero, i.size, i.bytes)) = some (some (.agg (cellsPc zeroPc)), 8, 32) := by kernel_rfl
theorem infoRPZ : (Try.prog.info? 47).map (fun i => (i.zero, i.size, i.bytes)) = some (some (.agg (cellsPc zeroPc)), 8, 32) := by kernel_rfl
theorem infoUZ : (Try.prog.info? 36).map (fun i => (i.zero, i.size, i.bytes)) = some (some (.int .u32 0), 1, 4) := by kernel_rfl
theorem infoIZ : (Try.prog.info? 3).map (fun i => (i.zero, i.size, i.bytes)) = some (some (.int .i64 0), 1, 8) := by kernel_rfl
theorem cellsB_one (A : Option Addr) (n k : Nat) : (#[Value.slice A n k] : Array Value).all (·.oneCell') = true := by simp [Value.oneCell']
theorem retB {fn : Func} {p : Tmp} (h : fn.results = #[.cell p 32]) {tmps : Array Value} {w : World} {g : Nat} {cs : Array Value} (hz : cs.size = 1) (hp : tmps.getD p undef = .pointer (some ⟨g, 0, none⟩)) (hg : Bx w g 32 cs) : (results fn tmps).run Try.prog w = .ok (.agg cs) w :=
  ret_cell h hp hg Try.underlying32 rfl (by rw [hz]; exact infoB)
theorem retM {fn : Func} {p : Tmp} (h : fn.results = #[.cell p 39]) {tmps : Array Value} {w : World} {g : Nat} {cs : Array Value} (hz : cs.size = 6) (hp : tmps.getD p undef = .pointer (some ⟨g, 0, none⟩)) (hg : Bx w g 39 cs) : (results fn tmps).run Try.prog w = .ok (.agg cs) w :=
  ret_cell h hp hg Try.underlying39 rfl (by rw [hz]; exact infoM)
theorem retRP {fn : Func} {p : Tmp} (h : fn.results = #[.cell p 47]) {tmps : Array Value} {w : World} {g : Nat} {cs : Array Value} (hz : cs.size = 8) (hp : tmps.getD p undef = .pointer (some ⟨g, 0, none⟩)) (hg : Bx w g 47 cs) : (results fn tmps).run Try.prog w = .ok (.agg cs) w :=
  ret_cell h hp hg Try.underlying47 rfl (by rw [hz]; exact infoRP)
theorem retRM {fn : Func} {p : Tmp} (h : fn.results = #[.cell p 44]) {tmps : Array Value} {w : World} {g : Nat} {cs : Array Value} (hz : cs.size = 6) (hp : tmps.getD p undef = .pointer (some ⟨g, 0, none⟩)) (hg : Bx w g 44 cs) : (results fn tmps).run Try.prog w = .ok (.agg cs) w :=
  ret_cell h hp hg Try.underlying44 rfl (by rw [hz]; exact infoRM)
theorem sub_toNat32 (x f : UInt32) : ((x.toNat : Int) - (f.toNat : Int)) % 4294967296 = ((x - f).toNat : Int) := by
  rw [UInt32.toNat_sub]
  have := x.toNat_lt; have := f.toNat_lt
  omega
theorem add_toNat32 (x f : UInt32) : ((x.toNat : Int) + (f.toNat : Int)) % 4294967296 = ((x + f).toNat : Int) := by
  rw [UInt32.toNat_add]
  omega
theorem sub1 (f : UInt32) : ((f.toNat : Int) - 1) % 4294967296 = ((f - 1).toNat : Int) := sub_toNat32 f 1
theorem add1 (f : UInt32) : ((f.toNat : Int) + 1) % 4294967296 = ((f + 1).toNat : Int) := add_toNat32 f 1

/-! ### The map of pieces -/
def keyR (v : Value) : Option (DataW Value × List MemPlace) := some (.held v, [])
/-- Block b is a map of at most n pieces: f says which lies at a number. -/
def MapF (w : World) (b n : Nat) (f : UInt32 → Option Pc) : Prop :=
  ∃ D : DataW Value, w.ownsMap Try.prog 36 keyR b n D ∧ (∀ t : UInt32, Maps.has D (.int .u32 (t.toNat : Int)) = (f t).isSome) ∧ ∀ t : UInt32, D.atKey (.int .u32 (t.toNat : Int)) (.held (.agg (cellsPc zeroPc))) = .held (.agg (cellsPc ((f t).getD zeroPc)))
theorem keyU : Keyed Try.prog 36 := int_keyed Try.underlying36
theorem wfU (t : UInt32) : (Lit.int .u32 (t.toNat : Int)).wf = true := by
  have := t.toNat_lt
  exact WalkArith.wf_u32 (by omega)
theorem zeroP (w : World) : (zeroValue 43).run Try.prog w = .ok (.agg (cellsPc zeroPc)) w := by kernel_rfl
section
variable {w w' : World} {b n : Nat} {f : UInt32 → Option Pc}
theorem MapF.made (w : World) : MapF (w.alloc (.map #[] 0)) w.heap.size 0 (fun _ => none) := ⟨_, World.ownsMap_made _ _ _ _, fun t => rfl, fun t => rfl⟩
theorem MapF.lt (h : MapF w b n f) : b < w.heap.size := by obtain ⟨D, h, _⟩ := h; exact h.lt
theorem MapF.kept {row : Option Nat} (h : MapF w b n f) (hg : w.grownBy w' row) (hne : some b ≠ row) : MapF w' b n f := by
  obtain ⟨D, h, r⟩ := h
  exact ⟨D, h.kept hg hne, r⟩
theorem MapF.later (h : MapF w b n f) (hb : Below w.heap.size w w') : MapF w' b n f := by
  have hlt := h.lt
  obtain ⟨D, ⟨es, clock, h, r⟩, r2⟩ := h
  exact ⟨D, ⟨es, clock, (hb.block b hlt).trans h, r⟩, r2⟩
theorem MapF.look (h : MapF w b n f) (t : UInt32) : (Instr.lookup 60 (.map (some b)) (.int .u32 (t.toNat : Int)) true).run Try.prog w = .ok (.tuple #[.agg (cellsPc ((f t).getD zeroPc)), .bool (f t).isSome]) w := by
  obtain ⟨D, h, h1, h2⟩ := h
  obtain ⟨v, ps, hrun, hv⟩ := h.look_ok keyU Try.underlying60 (zeroP w) (zd := .held (.agg (cellsPc zeroPc))) (zp := []) rfl (keyOf_int_mk Try.underlying36 (wfU t))
  rw [hrun, h1]
  rw [h2] at hv
  unfold keyR at hv
  cases hv
  rfl
theorem MapF.store (h : MapF w b n f) (hn : n < maxLen) (x : Pc) : ∃ w', (Instr.mapUpdate 60 (.map (some b)) (.int .u32 (x.ts.toNat : Int)) (.agg (cellsPc x))).run Try.prog w = .ok () w' ∧ MapF w' b (n + 1) (fun t => if t = x.ts then some x else f t) ∧ w.grownBy w' (some b) := by
  obtain ⟨D, h, h1, h2⟩ := h
  obtain ⟨w', hrun, ho, hg⟩ := h.update keyU Try.underlying60 hn (keyOf_int_mk Try.underlying36 (wfU x.ts)) (show keyR (.agg (cellsPc x)) = some (.held (.agg (cellsPc x)), []) from rfl)
  have hne : ∀ t : UInt32, t ≠ x.ts → (Lit.int .u32 (t.toNat : Int)) ≠ .int .u32 (x.ts.toNat : Int) := fun t ht e => by
    injection e with _ e
    exact ht (UInt32.toNat_inj.1 (by omega))
  refine ⟨w', hrun, ⟨_, ho, fun t => ?_, fun t => ?_⟩, hg⟩
  · by_cases e : t = x.ts
    · subst e
      rw [has_put_same h.isMap (show WideAt.IsKeyLit (.int .u32 _) from trivial)]; show _ = (if x.ts = x.ts then some x else f x.ts).isSome; rw [if_pos rfl]; rfl
    · rw [has_put_other (hne t e)]; show _ = (if t = x.ts then some x else f t).isSome; rw [if_neg e]; exact h1 t
  · by_cases e : t = x.ts
    · subst e
      rw [atKey_put_same h.isMap (show WideAt.IsKeyLit (.int .u32 _) from trivial)]; show _ = DataW.held (Value.agg (cellsPc ((if x.ts = x.ts then some x else f x.ts).getD zeroPc))); rw [if_pos rfl]; rfl
    · rw [atKey_put_other (hne t e)]; show _ = DataW.held (Value.agg (cellsPc ((if t = x.ts then some x else f t).getD zeroPc))); rw [if_neg e]; exact h2 t
end
section
variable {ops : Array Oper} {rest : List Oper} {o : Oper} {a : Act} {w : World} {Q : Exit → Act → World → Prop} {b n : Nat} {f : UInt32 → Option Pc}
theorem lookF (hg : o.guard = none) (m x : Operand) (hop : o.op = Op.lookup 60 m x true) (t : UInt32) (h : MapF w b n f) (hm : a.eval m = .map (some b)) (hx : a.eval x = .int .u32 (t.toNat : Int))
    (hK : wpList Try.prog ops Q rest (a.put o.dst (.tuple #[.agg (cellsPc ((f t).getD zeroPc)), .bool (f t).isSome])) w) : wpList Try.prog ops Q (o :: rest) a w := by
  refine wpList_plain hg fun K' hK' => ?_
  unfold Oper.wp
  simp [execOp, hop, hm, hx, h.look t, Result.andThen]
  exact hK' _ _ hK
theorem storeF (hg : o.guard = none) (m x v : Operand) (hop : o.op = Op.mapUpdate 60 m x v) (y : Pc) (h : MapF w b n f) (hn : n < maxLen) (hm : a.eval m = .map (some b)) (hx : a.eval x = .int .u32 (y.ts.toNat : Int)) (hv : a.eval v = .agg (cellsPc y))
    (hK : ∀ w', MapF w' b (n + 1) (fun t => if t = y.ts then some y else f t) → w.grownBy w' (some b) → wpList Try.prog ops Q rest (a.put o.dst undef) w') : wpList Try.prog ops Q (o :: rest) a w := by
  refine wpList_plain hg fun K' hK' => ?_
  obtain ⟨w', hrun, h1, h2⟩ := h.store hn y
  unfold Oper.wp
  simp [execOp, hop, hm, hx, hv, hrun, Result.andThen]
  exact hK' _ _ (hK w' h1 h2)
end
theorem run_makeMapN (n : Int) (w : World) : (Instr.makeMap 60 (some (.int .i64 n))).run Try.prog w = .ok (.map (some w.heap.size)) (w.alloc (.map #[] 0)) := by
  have hu : Try.prog.underlying 60 = _ := Try.underlying60
  simp [Instr.makeMap, run_underlying hu, go_sem]
theorem clip_any (A : Option Addr) (n k : Nat) (hn : n ≤ k) (hk : (k : Int) ≤ 9223372036854775807) (w : World) : Calls Try.prog 26 #[.slice A n k] w fun e w' => ∃ B, e = .returned (.slice B n n) ∧ (0 < n → B = A) ∧ (A = none → B = none) ∧ w' = w := by
  have q1 : (0 : Int) ≤ (n : Int) := by omega
  have q2 : (n : Int) ≤ (k : Int) := by omega
  go_enter Try.func26, Try.ntmps26
  go_wp2_with fail
  all_goals go_ret
  all_goals exact ⟨_, rfl, fun _ => rfl, fun h => h, rfl⟩
end Go.Proofs.Ytgngdgiipifacaa
