/-
  Messages as the document has them; rows of them that are the same: contracts.
-/
import Derived.Test.YtondgdacjbfihaaOi
import Derived.Laws.StructEq
import Derived.ChangeKeysEq
namespace Go.Proofs.Ytondgdacjbfihaa
open Go.RowKit
set_option linter.unusedVariables false
set_option linter.unusedSimpArgs false
set_option maxRecDepth 100000

theorem equal_rm (x : Mg) (w : World) : (Op.equalIn 10000 47 (.agg (cellsMg x)) (.agg (cellsMg x))).run Try.prog w = .ok true w := by
  have hu := Try.underlying47
  rw [run_equalIn_struct w 9999 _ _ _ (by unfold Program.fieldsOf; rw [hu]) Try.stoodInHeld47]
  unfold Program.fieldsOf
  rw [hu]
  obtain ⟨fi, fr, st, ss, pp, tx⟩ := x
  simp [Op.eqFields, go_sem, cellsMg]
theorem run_bin_at {P : Program} {f : Operand → Value} {o : Oper} {w : World} {b : BinOp} {t t' : TypeId} {x y : Operand} {u v r : Value} (ho : o.op = .binOp b t x y t') (hx : f x = u) (hy : f y = v) (hg : (eqGuard b t x y u v).run P w = .ok () w) (h : (binOp b t u v).run P w = .ok r w) : (execOp f o).run P w = .ok (Next.value r) w := by
  unfold execOp
  simp [ho, hx, hy, hg, h, Result.andThen]
theorem guard_rm (x y : Operand) (b : BinOp) (cs ds : Array Value) (w : World) : (eqGuard b 47 x y (.agg cs) (.agg ds)).run Try.prog w = .ok () w := by
  have h0 : Try.prog.eqGuardType Try.prog.depth 47 = false := by kernel_rfl
  cases b <;> simp [eqGuard, go_sem, h0]
theorem neq_rm (x : Mg) (w : World) : (binOp .neq 47 (.agg (cellsMg x)) (.agg (cellsMg x))).run Try.prog w = .ok (.bool false) w := by
  rw [run_neq_struct, equal_rm]
  rfl
set_option maxHeartbeats 4000000 in
theorem all_any (l : List Mg) (h1 : l.length ≤ 100000) (v : Value) (w : World) (h : RowM w v l) :
    Calls Try.prog 19 #[v] w fun e w' => ∃ A k, e = .returned (.slice A l.length k) ∧ RowM w' (.slice A l.length k) l ∧ Below w.heap.size w w' := by
  have HV := Lib.hid h
  obtain ⟨A, c, rfl, _, _, _⟩ := id h
  obtain ⟨i0, hi0, hz0, hz1, hz2⟩ := info_parts infoRMZ
  have HI := Lib.hid hi0
  have HZ0 := Lib.hid hz0
  have HZ1 := Lib.hid hz1
  have HZ2 := Lib.hid hz2
  have HTK : Hid (∀ j (h : j < l.length), l.take (j + 1) = l.take j ++ [l[j]]) := Lib.hid (fun j h => List.take_succ_eq_append_getElem h)
  have HFU : Hid (l.take l.length = l) := Lib.hid (List.take_length ..)
  have hlI : (l.length : Int) ≤ 100000 := by omega
  clear h hi0 hz0 hz1 hz2
  go_enter Try.func19, Try.ntmps19
  go_wp2_with fail
  go_loopw [3, 4] (fun v3 v4 wr => ∃ (j : Nat) (A5 : Option Addr) (k5 : Nat), j ≤ l.length ∧ v3 = .slice A5 j k5 ∧ v4 = .int .i64 j ∧ Hid (OwnG wr w.heap.size 47 6 (.slice A5 j k5) j (flatM (l.take j))) ∧ Hid (Below w.heap.size w wr))
    (fun _ v4 _ => l.length - (intOf v4).toNat)
  case atStart => exact ⟨0, none, 0, Nat.zero_le _, rfl, rfl, Lib.hid (OwnG.nil _ _ _ _), Lib.hid (Below.refl _ _)⟩
  case round =>
    obtain ⟨j, A5, k5, hj, rfl, rfl, HO, HB⟩ := hrel
    by_cases hlt : j < l.length
    · obtain ⟨b, off, c', e9, hb, -, -, hrg⟩ := HV.out.at hlt
      cases e9
      have HRG := Lib.hid (range_below hrg hb HB.out)
      have HNJ := Lib.hid (HTK.out j hlt)
      have q1 : (0 : Int) ≤ (j : Int) := by omega
      have q2 : (j : Int) < (l.length : Int) := by omega
      clear hrg
      generalize l[j] = x at *
      have hcz : (cellsMg x).size = 6 := rfl
      go_wp2_with (first
        | ((with_reducible refine gate9 ?_); refine ldMg (ty := 40) rfl rfl rfl HRG.out Try.underlying40 rfl infoM ?_)
        | (go_at_call 14; (with_reducible refine (one_any x _).mono ?_); rintro e w4 ⟨rfl, hb⟩; replace HO := Lib.hid (HO.out.later hb); replace HB := Lib.hid (HB.out.trans (hb.mono HB.out.size)); have hw4 := HB.out.size; clear hb)
        | (at_builtin; refine wpList_append_fed _ rfl (.tmp 11) (.tmp 17) 31 31 rfl w.heap.size 47 i0 _ 6 32 Try.underlying31 (.inr ⟨_, Try.underlying31⟩) HI.out HZ0.out HZ1.out HZ2.out rfl _ _ _ rfl (HO.out.alloc _) _ 1 (cellsMg x).toList rfl (Fed.block (heap_alloc_new _ _) rfl (fun u hu => cells_one hu)) (by unfold maxLen; omega) (by omega) (by rw [World.size_alloc]; omega) ?_; intro v8 w8 hown hgr; replace HB := Lib.hid ((HB.out.alloc HB.out.size _).grown hgr (by rw [World.size_alloc]; omega) (fun z hz => by have := (HO.out.lt z hz).1; omega)); obtain ⟨A8, k8, rfl, -, -, -⟩ := id hown.slice; have HO8 := Lib.hid hown; clear hown hgr))
      go_roundw
      case rel => exact ⟨j + 1, A8, k8, by omega, rfl, by go_num, Lib.hid (by rw [HNJ.out, flatM_add]; exact HO8.out), HB⟩
      case measure => simp [intOf]; omega
    · obtain rfl : j = l.length := by omega
      have h5 := HO.out
      rw [HFU.out] at h5
      have HO9 := Lib.hid (rowM_of_ownG h5)
      clear h5
      go_wp2_with fail
      go_ret
      exact ⟨_, _, rfl, HO9.out, HB.out⟩
set_option maxHeartbeats 4000000 in
theorem sameAll_any (l : List Mg) (h1 : l.length ≤ 100000) (v v2 : Value) (w : World) (h : RowM w v l) (h2 : RowM w v2 l) :
    Calls Try.prog 18 #[v, v2] w fun e w' => e = .returned (.bool true) ∧ Below w.heap.size w w' := by
  have HV := Lib.hid h
  have HV2 := Lib.hid h2
  obtain ⟨A, c, rfl, _, _, _⟩ := id h
  obtain ⟨A', c', rfl, _, _, _⟩ := id h2
  have hlI : (l.length : Int) ≤ 100000 := by omega
  clear h h2
  go_enter Try.func18, Try.ntmps18
  go_wp2_with fail
  go_loopw [5] (fun v5 wr => ∃ j : Nat, j ≤ l.length ∧ v5 = .int .i64 j ∧ Hid (Below w.heap.size w wr))
    (fun v5 _ => l.length - (intOf v5).toNat)
  case atStart => exact ⟨0, Nat.zero_le _, rfl, Lib.hid (Below.refl _ _)⟩
  case round =>
    obtain ⟨j, hj, rfl, HB⟩ := hrel
    by_cases hlt : j < l.length
    · obtain ⟨b, off, c', e9, hb1, -, -, hr1⟩ := HV.out.at hlt
      cases e9
      obtain ⟨b', off', c'', e9, hb2, -, -, hr2⟩ := HV2.out.at hlt
      cases e9
      have q1 : (0 : Int) ≤ (j : Int) := by omega
      have q2 : (j : Int) < (l.length : Int) := by omega
      generalize l[j] = x at *
      go_wp2_with fail
      have HS : (fun U => Below w.heap.size w U ∧ Below wr.heap.size wr U) wr.drew := ⟨below_drawn HB.out, below_drawn (Below.refl _ _)⟩
      refine wp_region_noPanic ?_
      refine wp_region_waits (S := (fun U => Below w.heap.size w U ∧ Below wr.heap.size wr U)) [] (by kernel_rfl) HS (fun hHeld => ?_)
      clear HS
      refine wpAnyW_take (i := 0) (v := ?_) (by simp only [List.getElem?_toArray, List.getElem?_cons_zero]; rfl) (by kernel_rfl) (by kernel_rfl) (by kernel_rfl) (by kernel_rfl) (by kernel_rfl) (fun _ _ _ h => h) (Or.inl ⟨by rfl, ?_⟩) (by assumption) ?_
      rotate_left 1
      · (intro w' hSw; go_simp; try with_reducible rfl)
      try simp only [Act.put, List.setIfInBounds_toArray, List.set_cons_zero, List.set_cons_succ]
      refine wpAnyW_take (i := 1) (v := ?_) (by simp only [List.getElem?_toArray, List.getElem?_cons_succ, List.getElem?_cons_zero]; rfl) (by kernel_rfl) (by kernel_rfl) (by kernel_rfl) (by kernel_rfl) (by kernel_rfl) (fun _ _ _ h => h) (Or.inl ⟨by rfl, ?_⟩) (by assumption) ?_
      rotate_left 1
      · (intro w' hSw; go_simp; try with_reducible rfl)
      try simp only [Act.put, List.setIfInBounds_toArray, List.set_cons_zero, List.set_cons_succ]
      refine wpAnyW_take (i := 2) (v := ?_) (by simp only [List.getElem?_toArray, List.getElem?_cons_succ, List.getElem?_cons_zero]; rfl) (by kernel_rfl) (by kernel_rfl) (by kernel_rfl) (by kernel_rfl) (by kernel_rfl) (fun _ _ _ h => h) (Or.inl ⟨by rfl, ?_⟩) (by assumption) ?_
      rotate_left 1
      · (intro w' hSw; go_simp; try with_reducible rfl)
      try simp only [Act.put, List.setIfInBounds_toArray, List.set_cons_zero, List.set_cons_succ]
      refine wpAnyW_take (i := 3) (v := _) (by simp only [List.getElem?_toArray, List.getElem?_cons_succ, List.getElem?_cons_zero]; rfl) (by kernel_rfl) (by kernel_rfl) (by kernel_rfl) (by kernel_rfl) (by kernel_rfl) (fun _ _ _ h => h) (yMg (ty := 47) (by rfl) rfl rfl (fun V h => range_below hr1 hb1 h.1) Try.underlying47 rfl infoRM) (by assumption) ?_
      try simp only [Act.put, List.setIfInBounds_toArray, List.set_cons_zero, List.set_cons_succ]
      refine wpAnyW_take (i := 4) (v := ?_) (by simp only [List.getElem?_toArray, List.getElem?_cons_succ, List.getElem?_cons_zero]; rfl) (by kernel_rfl) (by kernel_rfl) (by kernel_rfl) (by kernel_rfl) (by kernel_rfl) (fun _ _ _ h => h) (Or.inl ⟨by rfl, ?_⟩) (by assumption) ?_
      rotate_left 1
      · (intro w' hSw; go_simp; try with_reducible rfl)
      try simp only [Act.put, List.setIfInBounds_toArray, List.set_cons_zero, List.set_cons_succ]
      refine wpAnyW_take (i := 5) (v := ?_) (by simp only [List.getElem?_toArray, List.getElem?_cons_succ, List.getElem?_cons_zero]; rfl) (by kernel_rfl) (by kernel_rfl) (by kernel_rfl) (by kernel_rfl) (by kernel_rfl) (fun _ _ _ h => h) (Or.inl ⟨by rfl, ?_⟩) (by assumption) ?_
      rotate_left 1
      · (intro w' hSw; go_simp; try with_reducible rfl)
      try simp only [Act.put, List.setIfInBounds_toArray, List.set_cons_zero, List.set_cons_succ]
      refine wpAnyW_take (i := 6) (v := ?_) (by simp only [List.getElem?_toArray, List.getElem?_cons_succ, List.getElem?_cons_zero]; rfl) (by kernel_rfl) (by kernel_rfl) (by kernel_rfl) (by kernel_rfl) (by kernel_rfl) (fun _ _ _ h => h) (Or.inl ⟨by rfl, ?_⟩) (by assumption) ?_
      rotate_left 1
      · (intro w' hSw; go_simp; try with_reducible rfl)
      try simp only [Act.put, List.setIfInBounds_toArray, List.set_cons_zero, List.set_cons_succ]
      refine wpAnyW_take (i := 7) (v := _) (by simp only [List.getElem?_toArray, List.getElem?_cons_succ, List.getElem?_cons_zero]; rfl) (by kernel_rfl) (by kernel_rfl) (by kernel_rfl) (by kernel_rfl) (by kernel_rfl) (fun _ _ _ h => h) (yMg (ty := 47) (by rfl) rfl rfl (fun V h => range_below hr2 hb2 h.1) Try.underlying47 rfl infoRM) (by assumption) ?_
      try simp only [Act.put, List.setIfInBounds_toArray, List.set_cons_zero, List.set_cons_succ]
      refine wpAnyW_take (i := 8) (v := .bool false) (by simp only [List.getElem?_toArray, List.getElem?_cons_succ, List.getElem?_cons_zero]; rfl) (by kernel_rfl) (by kernel_rfl) (by kernel_rfl) (by kernel_rfl) (by kernel_rfl) (fun _ _ _ h => h) (Or.inl ⟨by rfl, ?_⟩) (by assumption) ?_
      · (intro w' hSw; exact run_bin_at (u := .agg (cellsMg x)) (v := .agg (cellsMg x)) rfl rfl rfl (guard_rm _ _ _ _ _ w') (neq_rm x w'))
      try simp only [Act.put, List.setIfInBounds_toArray, List.set_cons_zero, List.set_cons_succ]
      replace HB := Lib.hid hHeld.1
      clear hHeld
      refine wpAnyW_done (by kernel_rfl) ?_ _
      refine NoPanic.normal ?_
      go_wp2_with fail
      go_roundw
      case rel => exact ⟨j + 1, by omega, by go_num, HB⟩
      case measure => simp [intOf]; omega
    · obtain rfl : j = l.length := by omega
      go_wp2_with fail
      go_ret
      exact ⟨rfl, HB.out⟩
end Go.Proofs.Ytondgdacjbfihaa
