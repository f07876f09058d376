/-
  Package window: its functions: contracts.
-/
import Derived.Test.YtpihgnpbaaagpaaProg
import Derived.Test.YtpihgnpbaaagpaaWn
import Derived.Test.YtpihgnpbaaagpaaMem
import Derived.Test.YtpihgnpbaaagpaaBx
namespace Go.Proofs.Ytpihgnpbaaagpaa.Wi
open Go.RowKit
set_option linter.unusedVariables false
set_option maxRecDepth 100000
set_option linter.unusedSimpArgs false

theorem ret_i64 {a b : Int} (h : a = b) : Ending.returned (.int .i64 a) = .returned (.int .i64 b) := by rw [h]
theorem ret_agg {a b : Wn} (h : a = b) : Ending.returned (.agg (cellsT a)) = .returned (.agg (cellsT b)) := by rw [h]
theorem infoW : (Try.prog.info? 45).map (·.size) = some 3 := by kernel_rfl
section
variable {ops : Array Oper} {rest : List Oper} {o : Oper} {a : Act} {w : World} {Q : Exit → Act → World → Prop}
theorem ldW (x : Operand) (g : Nat) {t : Wn} (hgd : o.guard = none) (ho : o.op = .load 45 x) (hx : a.eval x = .pointer (some ⟨g, 0, none⟩)) (h : Bx w g 45 (cellsT t))
    (hk : wpList Try.prog ops Q rest (a.put o.dst (.agg (cellsT t))) w) : wpList Try.prog ops Q (o :: rest) a w :=
  ldB hgd ho hx h Try.underlying45 rfl infoW hk
theorem stW (x y : Operand) (g : Nat) {t : Wn} (t' : Wn) (hgd : o.guard = none) (ho : o.op = .store 45 x y) (hx : a.eval x = .pointer (some ⟨g, 0, none⟩)) (hy : a.eval y = .agg (cellsT t')) (h : Bx w g 45 (cellsT t))
    (hk : ∀ W', Bx W' g 45 (cellsT t') → w.grownBy W' (some g) → wpList Try.prog ops Q rest (a.put o.dst undef) W') : wpList Try.prog ops Q (o :: rest) a w :=
  stB (cellsT t') hgd ho hx hy h infoW rfl (cellsT_one t') hk
theorem wstW {K : Act → World → Prop} (x y : Operand) (g : Nat) {t : Wn} (t' : Wn) (ho : o.op = .store 45 x y) (hx : a.eval x = .pointer (some ⟨g, 0, none⟩)) (hy : a.eval y = .agg (cellsT t')) (h : Bx w g 45 (cellsT t))
    (hk : ∀ W', Bx W' g 45 (cellsT t') → w.grownBy W' (some g) → K (a.put o.dst undef) W') : o.wp Try.prog a w K Q :=
  wpB (cellsT t') ho hx hy h infoW rfl (cellsT_one t') hk
theorem yW {S : World → Prop} {op : Oper} (hw : Region.wanted op (yielded ops a.tmps) = true) (x : Operand) (g : Nat) {t : Wn} (ho : op.op = .load 45 x) (hx : a.eval x = .pointer (some ⟨g, 0, none⟩)) (hS : ∀ w, S w → Bx w g 45 (cellsT t)) : YieldsIf Try.prog ops S op (.agg (cellsT t)) a :=
  yB hw ho hx hS Try.underlying45 rfl infoW
theorem fldW (x y : Operand) (g i : Nat) {t : Wn} (t' : Wn) (v : Value) (ty : TypeId) (hgd : o.guard = none) (ho : o.op = .store ty x y) (hx : a.eval x = .pointer (some ⟨g, i, none⟩)) (hy : a.eval y = v) (h : Bx w g 45 (cellsT t))
    (hi' : i < 3) (hi : (Try.prog.info? ty).map (·.size) = some 1) (h1 : v.oneCell' = true) (ht : (cellsT t).setIfInBounds i v = cellsT t')
    (hk : ∀ W', Bx W' g 45 (cellsT t') → w.grownBy W' (some g) → wpList Try.prog ops Q rest (a.put o.dst undef) W') : wpList Try.prog ops Q (o :: rest) a w :=
  stF v hgd ho hx hy h hi' hi h1 fun W' h2 h3 => hk W' (ht ▸ h2) h3
theorem wfldW {K : Act → World → Prop} (x y : Operand) (g i : Nat) {t : Wn} (t' : Wn) (v : Value) (ty : TypeId) (ho : o.op = .store ty x y) (hx : a.eval x = .pointer (some ⟨g, i, none⟩)) (hy : a.eval y = v) (h : Bx w g 45 (cellsT t))
    (hi' : i < 3) (hi : (Try.prog.info? ty).map (·.size) = some 1) (h1 : v.oneCell' = true) (ht : (cellsT t).setIfInBounds i v = cellsT t')
    (hk : ∀ W', Bx W' g 45 (cellsT t') → w.grownBy W' (some g) → K (a.put o.dst undef) W') : o.wp Try.prog a w K Q :=
  wpF v ho hx hy h hi' hi h1 fun W' h2 h3 _ => hk W' (ht ▸ h2) h3
theorem retW {fn : Func} {p : Tmp} (h : fn.results = #[.cell p 45]) {tmps : Array Value} {w : World} {g : Nat} {t : Wn} (hp : tmps.getD p undef = .pointer (some ⟨g, 0, none⟩)) (hg : Bx w g 45 (cellsT t)) : (results fn tmps).run Try.prog w = .ok (.agg (cellsT t)) w :=
  ret_cell h hp hg Try.underlying45 rfl infoW
end
theorem infoI : (Try.prog.info? 3).map (·.size) = some 1 := by kernel_rfl
theorem kept_any (n : Int) (w : World) : Calls Try.prog 79 #[.int .i64 n] w fun e w' => e = .returned (.int .i64 (keptI n)) ∧ w' = w := by
  go_enter Try.func79, Try.ntmps79
  go_wp2
  all_goals (go_ret; exact ⟨ret_i64 (by unfold keptI; omega), rfl⟩)
theorem half_any (t : Wn) (h : Inb t) (w : World) : Calls Try.prog 82 #[.agg (cellsT t)] w fun e w' => e = .returned (.int .i64 (halfI t)) ∧ Below w.heap.size w w' := by
  obtain ⟨c, s, p⟩ := t
  have h1 : 1500 ≤ c ∧ c ≤ 1073741824 := h.cw
  have e1 : Int.tdiv c 2 = c / 2 := Int.tdiv_eq_ediv_of_nonneg (by omega)
  have e2 : wrap64 (c / 2) = c / 2 := by unfold wrap64; omega
  dsimp only [cellsT]
  go_enter Try.func82, Try.ntmps82
  go_wp2
  all_goals (go_ret; exact ⟨ret_i64 (by unfold halfI; simp only; omega), (Below.refl _ _).alloc (Nat.le_refl _) _⟩)
theorem held_any (t : Wn) (w : World) : Calls Try.prog 81 #[.agg (cellsT t)] w fun e w' => e = .returned (.agg (cellsT (heldT t))) ∧ Below w.heap.size w w' := by
  obtain ⟨W, hW, HA, HZ, HB, hs⟩ := two_open w 45 45 (cellsT t) (cellsT zeroT)
  have c0 := HA.out.cell 0 (.int .i64 t.cw) rfl
  have c1 := HA.out.cell 1 (.int .i64 t.ss) rfl
  have c2 := HA.out.cell 2 (.int .i64 t.pa) rfl
  have hm : (if keptI t.cw < 1500 then 1500 else keptI t.cw) = max (keptI t.cw) 1500 := by split <;> omega
  have HT := Lib.hid (show heldT t = ⟨max (keptI t.cw) 1500, keptI t.ss, keptI t.pa⟩ from rfl)
  generalize heldT t = R at *
  have HC := Lib.hid (fun W => kept_any t.cw W)
  have HS := Lib.hid (fun W => kept_any t.ss W)
  have HP := Lib.hid (fun W => kept_any t.pa W)
  generalize keptI t.cw = kc at *
  generalize keptI t.ss = ks at *
  generalize keptI t.pa = kp at *
  generalize max kc 1500 = z at *
  go_enter Try.func81, Try.ntmps81
  go_wp2_with fail
  rw [show (w.alloc (.cells (cellsT t) 45)).alloc (.cells #[.int .i64 0, .int .i64 0, .int .i64 0] 45) = W from hW]
  refine wp_region_still_tail 11 (by kernel_rfl) (by kernel_rfl) ?_
  simp only [List.take_succ_cons, List.take_zero, List.drop_succ_cons, List.drop_zero]
  repeat first
    | still_step
    | still_call (HC.out _)
    | still_call (HS.out _)
    | still_call (HP.out _)
  try refine wpStill_nil ?_
  change wpList _ _ _ _ _ W.drew
  replace HA : Hid (Bx W.drew w.heap.size 45 (cellsT t)) := Lib.hid HA.out
  replace HZ : Hid (Bx W.drew (w.heap.size + 1) 45 (cellsT zeroT)) := Lib.hid HZ.out
  replace HB := Lib.hid (below_drawn HB.out)
  replace hs : W.drew.heap.size = w.heap.size + 2 := hs
  clear c0 c1 c2 hm hW
  generalize W.drew = V at *
  go_wp2_with (refine gate9 ?_; refine stW (.tmp 2) (.tmp 13) (w.heap.size + 1) ⟨z, ks, kp⟩ rfl rfl rfl rfl HZ.out ?_; intro w2 ht hg; replace HB := Lib.hid (below_of_grown1 HB.out hg HB.out.size (by omega)); replace HA := Lib.hid (HA.out.kept hg (by omega)); replace HZ := Lib.hid ht; clear ht hg)
  exact bodyPost_ret (retW rfl rfl HZ.out) rfl ⟨by rw [HT.out], HB.out⟩

