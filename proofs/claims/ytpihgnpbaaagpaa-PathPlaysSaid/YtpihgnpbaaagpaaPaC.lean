/-
  Package path: what is done to a path of a copy: contracts.
-/
import Derived.Test.YtpihgnpbaaagpaaPaB
import Derived.Test.YtpihgnpbaaagpaaWaits
namespace Go.Proofs.Ytpihgnpbaaagpaa
open Go.RowKit
set_option linter.unusedVariables false
set_option linter.unusedSimpArgs false
set_option maxRecDepth 100000

/-- Nothing but these rows has turned, of what was there. -/
structure Tw (ks : List Nat) (w w' : World) : Prop where
  os : w'.os = w.os
  tape : w'.tape = w.tape
  output : w'.output = w.output
  size : w.heap.size ≤ w'.heap.size
  block : ∀ k, k < w.heap.size → k ∉ ks → w'.heap[k]? = w.heap[k]?
section
variable {ks : List Nat} {w w' w'' : World} {k B g : Nat} {T : TypeId} {cs : Array Value}
theorem Tw.refl (ks : List Nat) (w : World) : Tw ks w w := ⟨rfl, rfl, rfl, Nat.le_refl _, fun _ _ _ => rfl⟩
theorem Tw.trans (h : Tw ks w w') (h' : Tw ks w' w'') : Tw ks w w'' := ⟨h'.os.trans h.os, h'.tape.trans h.tape, h'.output.trans h.output, Nat.le_trans h.size h'.size, fun k hk hn => (h'.block k (Nat.lt_of_lt_of_le hk h.size) hn).trans (h.block k hk hn)⟩
theorem Tw.grown (h : Tw ks w w') (hg : w'.grownBy w'' (some k)) (hk : k ∈ ks) : Tw ks w w'' := h.trans ⟨hg.os, hg.tape, hg.output, hg.size, fun j hj hn => hg.block j hj (fun e => hn (by cases e; exact hk))⟩
theorem Tw.below (h : Tw ks w w') (hb : Below w'.heap.size w' w'') : Tw ks w w'' := h.trans ⟨hb.os, hb.tape, hb.output, hb.size, fun j hj _ => hb.block j hj⟩
theorem Tw.drew (h : Tw ks w w') : Tw ks w w'.drew := ⟨h.os, h.tape, h.output, h.size, h.block⟩
theorem Bx.tw (h : Bx w g T cs) (ht : Tw ks w w') (hn : g ∉ ks) : Bx w' g T cs := (ht.block g h.lt hn).trans h
theorem below_tw {w0 : World} (h : Below B w0 w) (ht : Tw ks w w') (hB : B ≤ w.heap.size) (hn : ∀ k ∈ ks, B ≤ k) : Below B w0 w' :=
  ⟨ht.os.trans h.os, ht.tape.trans h.tape, ht.output.trans h.output, Nat.le_trans h.size ht.size, fun k hk => (ht.block k (by omega) (fun hm => by have := hn k hm; omega)).trans (h.block k hk)⟩
end
section
variable {P : Program} {ops : Array Oper} {rest : List Oper} {op : Oper} {a : Act} {w : World} {Q : Exit → Act → World → Prop} {g o : Nat} {T : TypeId} {cs0 xs : Array Value}
theorem Pin.part (h : Pin g T cs0 o xs w) (k : Nat) (vs : Array Value) (hv : ∀ j, j < vs.size → xs[k + j]? = vs[j]?) : w.rangeAt g (o + k) vs.toList := h.range k vs.toList fun j v hj => by
  have hl : j < vs.size := by simpa using (List.getElem?_eq_some_iff.1 hj).1
  rw [hv j hl]
  simpa using hj
/-- A part of it is loaded. -/
theorem ldPp {ty : TypeId} {x : Operand} {d : TypeDesc} (k : Nat) (vs : Array Value) (hgd : op.guard = none) (ho : op.op = .load ty x) (hx : a.eval x = .pointer (some ⟨g, o + k, none⟩)) (h : Pin g T cs0 o xs w) (hv : ∀ j, j < vs.size → xs[k + j]? = vs[j]?)
    (hu : P.underlying ty = some d) (hd : d.isRow = true) (hi : (P.info? ty).map (·.size) = some vs.size) (hK : wpList P ops Q rest (a.put op.dst (.agg vs)) w) : wpList P ops Q (op :: rest) a w :=
  wpList_load_mid hgd ty x ho g (o + k) hx vs.toList d (h.part k vs hv) hu hd (by simpa using hi) (by simpa using hK)
/-- The same in a drawn region. -/
theorem yPp {S : World → Prop} {ty : TypeId} {x : Operand} {d : TypeDesc} (hw : Region.wanted op (yielded ops a.tmps) = true) (k : Nat) (vs : Array Value) (ho : op.op = .load ty x) (hx : a.eval x = .pointer (some ⟨g, o + k, none⟩)) (hS : ∀ w, S w → Pin g T cs0 o xs w) (hv : ∀ j, j < vs.size → xs[k + j]? = vs[j]?)
    (hu : P.underlying ty = some d) (hd : d.isRow = true) (hi : (P.info? ty).map (·.size) = some vs.size) : YieldsIf P ops S op (.agg vs) a := by
  have := yieldsIf_load_mid (P := P) (ops := ops) (S := S) hw ty x ho g (o + k) hx vs.toList d (fun w h => (hS w h).part k vs hv) hu hd (by simpa using hi)
  simpa using this
end
theorem tm_part (x : Pa) : ∀ j, j < (cellsT x.tm).size → (cellsPa x)[3 + j]? = (cellsT x.tm)[j]? := by
  intro j hj
  have hj' : j < 5 := hj
  rcases (by omega : j = 0 ∨ j = 1 ∨ j = 2 ∨ j = 3 ∨ j = 4) with rfl | rfl | rfl | rfl | rfl <;> rfl
theorem wn_part (x : Pa) : ∀ j, j < (Wi.cellsT x.wn).size → (cellsPa x)[8 + j]? = (Wi.cellsT x.wn)[j]? := by
  intro j hj
  have hj' : j < 3 := hj
  rcases (by omega : j = 0 ∨ j = 1 ∨ j = 2) with rfl | rfl | rfl <;> rfl
theorem pa_part (x : Pa) : ∀ j, j < (cellsPa x).size → (cellsPa x)[0 + j]? = (cellsPa x)[j]? := fun j _ => by rw [Nat.zero_add]
set_option maxHeartbeats 1000000 in
theorem hear_any (x : Pa) (v : Value) (pr al : Int) (g gq o : Nat) (cs0 : Array Value) (hne : g ≠ gq) (w : World) (hp : Pin g 47 cs0 o (cellsPa x) w) (hq : Bx w gq 27 #[v, .int .i64 pr, .int .i64 al]) :
    Calls Try.prog 41 #[.pointer (some ⟨gq, 0, none⟩), .pointer (some ⟨g, o, none⟩)] w fun e w' => e = .returned (.tuple #[]) ∧ Pin g 47 cs0 o (cellsPa (heardF x)) w' ∧ Bx w' gq 27 #[v, .int .i64 pr, .int .i64 0] ∧ Tw [g, gq] w w' := by
  have HP := Lib.hid hp
  have HQ := Lib.hid hq
  have HT := Lib.hid (Tw.refl [g, gq] w)
  clear hp hq
  obtain ⟨ad, st, er, tm, wn, no, be, se⟩ := x
  have HG := Lib.hid (fun W => good_any tm W)
  have HF := Lib.hid (show heardF ⟨ad, st, er, tm, wn, no, be, se⟩ = ⟨ad, okSt st, 0, goodT tm, wn, no, be, se⟩ from rfl)
  generalize heardF ⟨ad, st, er, tm, wn, no, be, se⟩ = y at *
  generalize goodT tm = tm9 at *
  by_cases h3 : st = 3
  · have HS := Lib.hid (show okSt st = 2 by unfold okSt; rw [if_pos h3])
    rw [HS.out] at HF
    go_enter Try.func41, Try.ntmps41
    go_wp2_with (first
    | (go_at_call 69; (with_reducible refine (HG.out _).mono ?_); rintro e w1 ⟨rfl, hb⟩; replace HT := Lib.hid (HT.out.below hb); replace HP := Lib.hid (HP.out.later hb); replace HQ := Lib.hid (HQ.out.later hb); clear hb)
    | ((with_reducible refine gate9 ?_); refine stPf (xs' := cellsPa (⟨ad, st, 0, tm, wn, no, be, se⟩ : Pa)) 2 (.int .i64 0) rfl rfl rfl rfl HP.out (by show 2 < 14; decide) infoI rfl rfl ?_; intro w2 ht hg; replace HT := Lib.hid (HT.out.grown hg (by simp)); replace HQ := Lib.hid (HQ.out.kept hg (Ne.symm hne)); replace HP := Lib.hid ht; clear ht hg)
    | ((with_reducible refine gate9 ?_); refine stF (.int .i64 0) rfl rfl rfl rfl HQ.out (by show 2 < 3; decide) infoI rfl ?_; intro w2 ht hg; replace HT := Lib.hid (HT.out.grown hg (by simp)); replace HP := Lib.hid (HP.out.kept hg hne); replace HQ : Hid (Bx w2 gq 27 #[v, .int .i64 pr, .int .i64 0]) := Lib.hid ht; clear ht hg)
    | ((with_reducible refine gate9 ?_); refine ldPp 3 (cellsT tm) rfl rfl rfl HP.out (tm_part ⟨ad, st, 0, tm, wn, no, be, se⟩) Try.underlying43 rfl infoTm ?_)
    | ((with_reducible refine gate9 ?_); refine stPp (xs' := cellsPa (⟨ad, st, 0, tm9, wn, no, be, se⟩ : Pa)) 3 (cellsT tm9) rfl rfl rfl rfl HP.out (by show 3 + 5 ≤ 14; decide) infoTm (cellsT_one _) rfl ?_; intro w2 ht hg; replace HT := Lib.hid (HT.out.grown hg (by simp)); replace HQ := Lib.hid (HQ.out.kept hg (Ne.symm hne)); replace HP := Lib.hid ht; clear ht hg; have c1 := HP.out.cell 1 (.int .i64 st) rfl)
    | ((with_reducible refine gate9 ?_); refine stPf (xs' := cellsPa (⟨ad, 2, 0, tm9, wn, no, be, se⟩ : Pa)) 1 (.int .i64 2) rfl rfl rfl rfl HP.out (by show 1 < 14; decide) infoI rfl rfl ?_; intro w2 ht hg; replace HT := Lib.hid (HT.out.grown hg (by simp)); replace HQ := Lib.hid (HQ.out.kept hg (Ne.symm hne)); replace HP := Lib.hid ht; clear ht hg))
    refine bodyPost_end (results_none rfl _ _ _) rfl ?_
    exact ⟨rfl, by rw [HF.out]; exact HP.out, HQ.out, HT.out⟩
  · have HS := Lib.hid (show okSt st = st by unfold okSt; rw [if_neg h3])
    rw [HS.out] at HF
    go_enter Try.func41, Try.ntmps41
    go_wp2_with (first
    | (go_at_call 69; (with_reducible refine (HG.out _).mono ?_); rintro e w1 ⟨rfl, hb⟩; replace HT := Lib.hid (HT.out.below hb); replace HP := Lib.hid (HP.out.later hb); replace HQ := Lib.hid (HQ.out.later hb); clear hb)
    | ((with_reducible refine gate9 ?_); refine stPf (xs' := cellsPa (⟨ad, st, 0, tm, wn, no, be, se⟩ : Pa)) 2 (.int .i64 0) rfl rfl rfl rfl HP.out (by show 2 < 14; decide) infoI rfl rfl ?_; intro w2 ht hg; replace HT := Lib.hid (HT.out.grown hg (by simp)); replace HQ := Lib.hid (HQ.out.kept hg (Ne.symm hne)); replace HP := Lib.hid ht; clear ht hg)
    | ((with_reducible refine gate9 ?_); refine stF (.int .i64 0) rfl rfl rfl rfl HQ.out (by show 2 < 3; decide) infoI rfl ?_; intro w2 ht hg; replace HT := Lib.hid (HT.out.grown hg (by simp)); replace HP := Lib.hid (HP.out.kept hg hne); replace HQ : Hid (Bx w2 gq 27 #[v, .int .i64 pr, .int .i64 0]) := Lib.hid ht; clear ht hg)
    | ((with_reducible refine gate9 ?_); refine ldPp 3 (cellsT tm) rfl rfl rfl HP.out (tm_part ⟨ad, st, 0, tm, wn, no, be, se⟩) Try.underlying43 rfl infoTm ?_)
    | ((with_reducible refine gate9 ?_); refine stPp (xs' := cellsPa (⟨ad, st, 0, tm9, wn, no, be, se⟩ : Pa)) 3 (cellsT tm9) rfl rfl rfl rfl HP.out (by show 3 + 5 ≤ 14; decide) infoTm (cellsT_one _) rfl ?_; intro w2 ht hg; replace HT := Lib.hid (HT.out.grown hg (by simp)); replace HQ := Lib.hid (HQ.out.kept hg (Ne.symm hne)); replace HP := Lib.hid ht; clear ht hg; have c1 := HP.out.cell 1 (.int .i64 st) rfl)
    | ((with_reducible refine gate9 ?_); refine stPf (xs' := cellsPa (⟨ad, 2, 0, tm9, wn, no, be, se⟩ : Pa)) 1 (.int .i64 2) rfl rfl rfl rfl HP.out (by show 1 < 14; decide) infoI rfl rfl ?_; intro w2 ht hg; replace HT := Lib.hid (HT.out.grown hg (by simp)); replace HQ := Lib.hid (HQ.out.kept hg (Ne.symm hne)); replace HP := Lib.hid ht; clear ht hg))
    refine bodyPost_end (results_none rfl _ _ _) rfl ?_
    exact ⟨rfl, by rw [HF.out]; exact HP.out, HQ.out, HT.out⟩
set_option maxHeartbeats 1000000 in
theorem beat_fn (x : Pa) (nonce now : Int) (g gn gw o : Nat) (cs0 : Array Value) (hne1 : gn ≠ g) (hne2 : gw ≠ g) (w : World) (hp : Pin g 47 cs0 o (cellsPa x) w) (hn : Bx w gn 41 #[.int .u32 nonce]) (hw : Bx w gw 3 #[.int .i64 now]) :
    Calls Try.prog 51 #[.pointer (some ⟨g, o, none⟩), .pointer (some ⟨gn, 0, none⟩), .pointer (some ⟨gw, 0, none⟩)] w fun e w' => e = .returned (.tuple #[]) ∧ Pin g 47 cs0 o (cellsPa (beatF nonce now x)) w' ∧ Tw [g] w w' := by
  obtain ⟨ad, st, er, tm, wn, no, be, se⟩ := x
  have hS : Bx w.drew gn 41 #[.int .u32 nonce] ∧ Bx w.drew gw 3 #[.int .i64 now] := ⟨hn, hw⟩
  have HP : Hid (Pin g 47 cs0 o (cellsPa ⟨ad, st, er, tm, wn, no, be, se⟩) w.drew) := Lib.hid hp
  have HT := Lib.hid (Tw.refl [g] w).drew
  clear hp hn hw
  go_enter Try.func51, Try.ntmps51
  go_wp2_with fail
  refine wp_region_noPanic ?_
  refine wp_region_waits (S := fun V => Bx V gn 41 #[.int .u32 nonce] ∧ Bx V gw 3 #[.int .i64 now]) [] (by kernel_rfl) hS (fun hHeld => ?_)
  clear hS
  refine wpAnyW_take (i := 0) (v := ?_) (by simp only [List.getElem?_toArray, List.getElem?_cons_zero]; rfl) (by kernel_rfl) (by kernel_rfl) (by kernel_rfl) (by kernel_rfl) (by kernel_rfl) (fun _ _ _ h => h) (Or.inl ⟨by rfl, ?_⟩) (by assumption) ?_
  rotate_left 1
  · (intro w' hSw; go_simp; try with_reducible rfl)
  try simp only [Act.put, List.setIfInBounds_toArray, List.set_cons_zero, List.set_cons_succ]
  refine wpAnyW_take (i := 1) (v := ?_) (by simp only [List.getElem?_toArray, List.getElem?_cons_succ, List.getElem?_cons_zero]; rfl) (by kernel_rfl) (by kernel_rfl) (by kernel_rfl) (by kernel_rfl) (by kernel_rfl) (fun _ _ _ h => h) (Or.inl ⟨by rfl, ?_⟩) (by assumption) ?_
  rotate_left 1
  · (intro w' hSw; go_simp; try with_reducible rfl)
  try simp only [Act.put, List.setIfInBounds_toArray, List.set_cons_zero, List.set_cons_succ]
  refine wpAnyW_take (i := 2) (v := ?_) (by simp only [List.getElem?_toArray, List.getElem?_cons_succ, List.getElem?_cons_zero]; rfl) (by kernel_rfl) (by kernel_rfl) (by kernel_rfl) (by kernel_rfl) (by kernel_rfl) (fun _ _ _ h => h) (Or.inl ⟨by rfl, ?_⟩) (by assumption) ?_
  rotate_left 1
  · (intro w' hSw; go_simp; try with_reducible rfl)
  try simp only [Act.put, List.setIfInBounds_toArray, List.set_cons_zero, List.set_cons_succ]
  refine wpAnyW_take (i := 3) (v := ?_) (by simp only [List.getElem?_toArray, List.getElem?_cons_succ, List.getElem?_cons_zero]; rfl) (by kernel_rfl) (by kernel_rfl) (by kernel_rfl) (by kernel_rfl) (by kernel_rfl) (fun _ _ _ h => h) (Or.inl ⟨by rfl, ?_⟩) (by assumption) ?_
  rotate_left 1
  · (intro w' hSw; have hq : w'.cell? ⟨gn, 0, none⟩ = some (.int .u32 nonce) := hSw.1.cell 0 _ rfl; go_simp; try with_reducible rfl)
  try simp only [Act.put, List.setIfInBounds_toArray, List.set_cons_zero, List.set_cons_succ]
  refine wpAnyW_take (i := 4) (v := ?_) (by simp only [List.getElem?_toArray, List.getElem?_cons_succ, List.getElem?_cons_zero]; rfl) (by kernel_rfl) (by kernel_rfl) (by kernel_rfl) (by kernel_rfl) (by kernel_rfl) (fun _ _ _ h => h) (Or.inl ⟨by rfl, ?_⟩) (by assumption) ?_
  rotate_left 1
  · (intro w' hSw; have hq : w'.cell? ⟨gw, 0, none⟩ = some (.int .i64 now) := hSw.2.cell 0 _ rfl; go_simp; try with_reducible rfl)
  try simp only [Act.put, List.setIfInBounds_toArray, List.set_cons_zero, List.set_cons_succ]
  refine wpAnyW_take (i := 5) (v := ?_) (by simp only [List.getElem?_toArray, List.getElem?_cons_succ, List.getElem?_cons_zero]; rfl) (by kernel_rfl) (by kernel_rfl) (by kernel_rfl) (by kernel_rfl) (by kernel_rfl) (fun _ _ _ h => h) (Or.inl ⟨by rfl, ?_⟩) (by assumption) ?_
  rotate_left 1
  · (intro w' hSw; go_simp; try with_reducible rfl)
  try simp only [Act.put, List.setIfInBounds_toArray, List.set_cons_zero, List.set_cons_succ]
  refine wpAnyW_take (i := 6) (v := ?_) (by simp only [List.getElem?_toArray, List.getElem?_cons_succ, List.getElem?_cons_zero]; rfl) (by kernel_rfl) (by kernel_rfl) (by kernel_rfl) (by kernel_rfl) (by kernel_rfl) (fun _ _ _ h => h) (Or.inl ⟨by rfl, ?_⟩) (by assumption) ?_
  rotate_left 1
  · (intro w' hSw; go_simp; try with_reducible rfl)
  try simp only [Act.put, List.setIfInBounds_toArray, List.set_cons_zero, List.set_cons_succ]
  refine wpAnyW_held (i := 7) (by kernel_rfl) (by simp only [List.getElem?_toArray, List.getElem?_cons_succ, List.getElem?_cons_zero]; rfl) (fun K hK => ?_)
  rw [if_pos (by rfl)]
  refine wpPf (xs' := cellsPa (⟨ad, st, er, tm, wn, nonce, be, se⟩ : Pa)) 11 (.int .u32 nonce) rfl rfl rfl HP.out (by show 11 < 14; decide) infoU rfl rfl ?_
  intro w2 ht hg
  replace HP := Lib.hid ht
  replace HT := Lib.hid (HT.out.grown hg (by simp))
  have hS := And.intro (hHeld.1.kept hg hne1) (hHeld.2.kept hg hne2)
  clear ht hg hHeld
  refine hK.out _ _ hS (fun hHeld => ?_)
  clear hK K hS
  try simp only [Act.put, List.setIfInBounds_toArray, List.set_cons_zero, List.set_cons_succ]
  refine wpAnyW_held (i := 8) (by kernel_rfl) (by simp only [List.getElem?_toArray, List.getElem?_cons_succ, List.getElem?_cons_zero]; rfl) (fun K hK => ?_)
  rw [if_pos (by rfl)]
  go_simp
  refine hK.out _ _ hHeld (fun hHeld => ?_)
  clear hK K
  try simp only [Act.put, List.setIfInBounds_toArray, List.set_cons_zero, List.set_cons_succ]
  refine wpAnyW_held (i := 9) (by kernel_rfl) (by simp only [List.getElem?_toArray, List.getElem?_cons_succ, List.getElem?_cons_zero]; rfl) (fun K hK => ?_)
  rw [if_pos (by rfl)]
  go_simp
  refine hK.out _ _ hHeld (fun hHeld => ?_)
  clear hK K
  try simp only [Act.put, List.setIfInBounds_toArray, List.set_cons_zero, List.set_cons_succ]
  refine wpAnyW_held (i := 10) (by kernel_rfl) (by simp only [List.getElem?_toArray, List.getElem?_cons_succ, List.getElem?_cons_zero]; rfl) (fun K hK => ?_)
  rw [if_pos (by rfl)]
  refine wpPf (xs' := cellsPa (⟨ad, st, er, tm, wn, nonce, now, se⟩ : Pa)) 12 (.int .i64 now) rfl rfl rfl HP.out (by show 12 < 14; decide) infoI rfl rfl ?_
  intro w2 ht hg
  replace HP := Lib.hid ht
  replace HT := Lib.hid (HT.out.grown hg (by simp))
  have hS := And.intro (hHeld.1.kept hg hne1) (hHeld.2.kept hg hne2)
  clear ht hg hHeld
  refine hK.out _ _ hS (fun hHeld => ?_)
  clear hK K hS
  try simp only [Act.put, List.setIfInBounds_toArray, List.set_cons_zero, List.set_cons_succ]
  refine wpAnyW_held (i := 11) (by kernel_rfl) (by simp only [List.getElem?_toArray, List.getElem?_cons_succ, List.getElem?_cons_zero]; rfl) (fun K hK => ?_)
  rw [if_pos (by rfl)]
  go_simp
  refine hK.out _ _ hHeld (fun hHeld => ?_)
  clear hK K
  try simp only [Act.put, List.setIfInBounds_toArray, List.set_cons_zero, List.set_cons_succ]
  refine wpAnyW_held (i := 12) (by kernel_rfl) (by simp only [List.getElem?_toArray, List.getElem?_cons_succ, List.getElem?_cons_zero]; rfl) (fun K hK => ?_)
  rw [if_pos (by rfl)]
  go_simp
  refine hK.out _ _ hHeld (fun hHeld => ?_)
  clear hK K
  try simp only [Act.put, List.setIfInBounds_toArray, List.set_cons_zero, List.set_cons_succ]
  refine wpAnyW_held (i := 13) (by kernel_rfl) (by simp only [List.getElem?_toArray, List.getElem?_cons_succ, List.getElem?_cons_zero]; rfl) (fun K hK => ?_)
  rw [if_pos (by rfl)]
  refine wpPf (xs' := cellsPa (⟨ad, st, er, tm, wn, nonce, now, 1⟩ : Pa)) 13 (.int .i64 1) rfl rfl rfl HP.out (by show 13 < 14; decide) infoI rfl rfl ?_
  intro w2 ht hg
  replace HP := Lib.hid ht
  replace HT := Lib.hid (HT.out.grown hg (by simp))
  have hS := And.intro (hHeld.1.kept hg hne1) (hHeld.2.kept hg hne2)
  clear ht hg hHeld
  refine hK.out _ _ hS (fun hHeld => ?_)
  clear hK K hS
  try simp only [Act.put, List.setIfInBounds_toArray, List.set_cons_zero, List.set_cons_succ]
  refine wpAnyW_done (by kernel_rfl) ?_ _
  refine NoPanic.normal ?_
  go_wp2_with fail
  refine bodyPost_end (results_none rfl _ _ _) rfl ?_
  exact ⟨rfl, HP.out, HT.out⟩
theorem good_fn (x : Pa) (v : Value) (pr al : Int) (g gq o : Nat) (cs0 : Array Value) (hne : g ≠ gq) (w : World) (hp : Pin g 47 cs0 o (cellsPa x) w) (hq : Bx w gq 27 #[v, .int .i64 pr, .int .i64 al]) :
    Calls Try.prog 52 #[.pointer (some ⟨g, o, none⟩), .pointer (some ⟨gq, 0, none⟩)] w fun e w' => e = .returned (.tuple #[]) ∧ Pin g 47 cs0 o (cellsPa (heardF x)) w' ∧ Bx w' gq 27 #[v, .int .i64 pr, .int .i64 0] ∧ Tw [g, gq] w w' := by
  have H := Lib.hid (hear_any x v pr al g gq o cs0 hne w hp hq)
  clear hp hq
  go_enter Try.func52, Try.ntmps52
  go_wp2_with fail
  refine H.out.mono ?_
  rintro e w1 ⟨rfl, h1, h2, h3⟩
  have H1 := Lib.hid h1
  have H2 := Lib.hid h2
  have H3 := Lib.hid h3
  clear h1 h2 h3 H
  go_wp2_with fail
  refine bodyPost_end (results_none rfl _ _ _) rfl ?_
  exact ⟨rfl, H1.out, H2.out, H3.out⟩
set_option maxHeartbeats 1000000 in
theorem prim_fn (x : Pa) (v : Value) (i pr al : Int) (er : Int) (g gi gq ge o : Nat) (cs0 : Array Value) (hne : g ≠ gq) (hne2 : g ≠ ge) (hne3 : gq ≠ ge) (w : World) (hp : Pin g 47 cs0 o (cellsPa x) w) (hi : Bx w gi 3 #[.int .i64 i]) (hq : Bx w gq 27 #[v, .int .i64 pr, .int .i64 al]) (he : Bx w ge 28 #[.int .i64 er]) :
    Calls Try.prog 50 #[.pointer (some ⟨g, o, none⟩), .pointer (some ⟨gi, 0, none⟩), .pointer (some ⟨gq, 0, none⟩), .pointer (some ⟨ge, 0, none⟩)] w fun e w' => e = .returned (.tuple #[]) ∧ Pin g 47 cs0 o (cellsPa x) w' ∧ Bx w' gq 27 #[v, .int .i64 i, .int .i64 al] ∧ Bx w' ge 28 #[.int .i64 (if x.st = 1 then 11 else 0)] ∧ Tw [g, gq, ge] w w' := by
  have HP := Lib.hid hp
  have HQ := Lib.hid hq
  have HE := Lib.hid he
  have HT := Lib.hid (Tw.refl [g, gq, ge] w)
  have ci := hi.cell 0 _ rfl
  clear hp hq he hi
  by_cases h1 : x.st = 1
  · rw [if_pos h1]
    obtain ⟨ad, st, er, tm, wn, no, be, se⟩ := x
    simp only at h1
    subst h1
    go_enter Try.func50, Try.ntmps50
    go_wp2_with (first
    | ((with_reducible refine gate9 ?_); refine stF (.int .i64 i) rfl rfl rfl rfl HQ.out (by show 1 < 3; decide) infoI rfl ?_; intro w2 ht hg; clear ci; replace HT := Lib.hid (HT.out.grown hg (by simp)); replace HP := Lib.hid (HP.out.kept hg hne); replace HE := Lib.hid (HE.out.kept hg (Ne.symm hne3)); replace HQ : Hid (Bx w2 gq 27 #[v, .int .i64 i, .int .i64 al]) := Lib.hid ht; clear ht hg)
    | ((with_reducible refine gate9 ?_); refine stF (.int .i64 0) rfl rfl rfl rfl HE.out (by show 0 < 1; decide) infoE rfl ?_; intro w2 ht hg; replace HT := Lib.hid (HT.out.grown hg (by simp)); replace HP := Lib.hid (HP.out.kept hg (fun e => hne2 e)); replace HQ := Lib.hid (HQ.out.kept hg hne3); replace HE : Hid (Bx w2 ge 28 #[.int .i64 0]) := Lib.hid ht; clear ht hg; try have c1 := HP.out.cell 1 (.int .i64 1) rfl)
    | ((with_reducible refine gate9 ?_); refine stF (.int .i64 11) rfl rfl rfl rfl HE.out (by show 0 < 1; decide) infoE rfl ?_; intro w2 ht hg; replace HT := Lib.hid (HT.out.grown hg (by simp)); replace HP := Lib.hid (HP.out.kept hg (fun e => hne2 e)); replace HQ := Lib.hid (HQ.out.kept hg hne3); replace HE : Hid (Bx w2 ge 28 #[.int .i64 11]) := Lib.hid ht; clear ht hg; try have c1 := HP.out.cell 1 (.int .i64 1) rfl))
    refine bodyPost_end (results_none rfl _ _ _) rfl ?_
    exact ⟨rfl, HP.out, HQ.out, HE.out, HT.out⟩
  · rw [if_neg h1]
    obtain ⟨ad, st, er, tm, wn, no, be, se⟩ := x
    simp only at h1
    go_enter Try.func50, Try.ntmps50
    go_wp2_with (first
    | ((with_reducible refine gate9 ?_); refine stF (.int .i64 i) rfl rfl rfl rfl HQ.out (by show 1 < 3; decide) infoI rfl ?_; intro w2 ht hg; clear ci; replace HT := Lib.hid (HT.out.grown hg (by simp)); replace HP := Lib.hid (HP.out.kept hg hne); replace HE := Lib.hid (HE.out.kept hg (Ne.symm hne3)); replace HQ : Hid (Bx w2 gq 27 #[v, .int .i64 i, .int .i64 al]) := Lib.hid ht; clear ht hg)
    | ((with_reducible refine gate9 ?_); refine stF (.int .i64 0) rfl rfl rfl rfl HE.out (by show 0 < 1; decide) infoE rfl ?_; intro w2 ht hg; replace HT := Lib.hid (HT.out.grown hg (by simp)); replace HP := Lib.hid (HP.out.kept hg (fun e => hne2 e)); replace HQ := Lib.hid (HQ.out.kept hg hne3); replace HE : Hid (Bx w2 ge 28 #[.int .i64 0]) := Lib.hid ht; clear ht hg; try have c1 := HP.out.cell 1 (.int .i64 st) rfl)
    | ((with_reducible refine gate9 ?_); refine stF (.int .i64 11) rfl rfl rfl rfl HE.out (by show 0 < 1; decide) infoE rfl ?_; intro w2 ht hg; replace HT := Lib.hid (HT.out.grown hg (by simp)); replace HP := Lib.hid (HP.out.kept hg (fun e => hne2 e)); replace HQ := Lib.hid (HQ.out.kept hg hne3); replace HE : Hid (Bx w2 ge 28 #[.int .i64 11]) := Lib.hid ht; clear ht hg; try have c1 := HP.out.cell 1 (.int .i64 st) rfl))
    refine bodyPost_end (results_none rfl _ _ _) rfl ?_
    exact ⟨rfl, HP.out, HQ.out, HE.out, HT.out⟩
end Go.Proofs.Ytpihgnpbaaagpaa
