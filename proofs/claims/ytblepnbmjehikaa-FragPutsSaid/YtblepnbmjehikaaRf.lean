/-
  The document's Put in one contract; bags that are the same.
-/
import Derived.Test.YtblepnbmjehikaaRe
namespace Go.Proofs.Ytblepnbmjehikaa
open Go.RowKit
set_option linter.unusedVariables false
set_option linter.unusedSimpArgs false
set_option maxRecDepth 100000

theorem rput_any (l : List Pc) (hl : l.length < 999) (hok : OkB l) (p : Pc) (hz : bytesL l + p.tx.size ≤ 1000000000) (v : Value) (w : World) (h : RowP w v l) :
    Calls Try.prog 15 #[.agg #[v], .agg (cellsPc p)] w fun e w' => RPutR w w' v l e (putP l p).1 (putP l p).2 := by
  rcases putP_cases (p := p) hok hl with ⟨h1, e⟩ | ⟨h1, h2, h3, e⟩ | ⟨r, h1, h2, h3, h4, h5, e⟩
  · rw [e]
    cases hf : findT l p.ts with
    | some x => exact rput_there l (by omega) p x hf v w h
    | none =>
      rcases h1 with h1 | h1
      · rw [hf] at h1; cases h1
      · exact rput_empty l (by omega) p hf h1 v w h
  · rw [e]; exact rput_wait l hl hok p h1 h2 h3 v w h
  · rw [e]
    have hok2 := okB_put hok h1 h2
    have hb := bytes_split hok2.nd (by rw [List.length_append, List.length_singleton]; omega) h4
    rw [bytes_add] at hb
    exact rput_done l hl hok p h1 h2 r h3 (by omega) v w h
theorem rput_anyE (l : List Pc) (hl : l.length < 999) (hok : OkB l) (p : Pc) (hz : bytesL l + p.tx.size ≤ 1000000000) (v : Value) (w : World) (h : RowP w v l) :
    Calls Try.prog 15 #[.agg #[v], .agg (cellsPc p)] w fun e w' => ∃ A k, e = .returned (.tuple #[.agg #[.slice A (putP l p).1.length k], .agg (cellsMg ((putP l p).2.getD zeroMg)), .bool (putP l p).2.isSome]) ∧ RowP w' (.slice A (putP l p).1.length k) (putP l p).1 ∧ (∀ g, g < w.heap.size → Apart v l g → Apart (.slice A (putP l p).1.length k) (putP l p).1 g) ∧ Below w.heap.size w w' := rput_any l hl hok p hz v w h
theorem equal_rp (x : Pc) (w : World) : (Op.equalIn 10000 47 (.agg (cellsPc x)) (.agg (cellsPc x))).run Try.prog w = .ok true w := by
  have hu := Try.underlying47
  rw [run_equalIn_struct w 9999 _ _ _ (by unfold Program.fieldsOf; rw [hu]) Try.stoodInHeld47]
  unfold Program.fieldsOf
  rw [hu]
  obtain ⟨ts, bg, en, fr, st, ss, pp, tx⟩ := x
  simp [Op.eqFields, go_sem, cellsPc]
theorem guard_rp (x y : Operand) (b : BinOp) (cs ds : Array Value) (w : World) : (eqGuard b 47 x y (.agg cs) (.agg ds)).run Try.prog w = .ok () w := by
  have h0 : Try.prog.eqGuardType Try.prog.depth 47 = false := by kernel_rfl
  cases b <;> simp [eqGuard, go_sem, h0]
theorem neq_rp (x : Pc) (w : World) : (binOp .neq 47 (.agg (cellsPc x)) (.agg (cellsPc x))).run Try.prog w = .ok (.bool false) w := by
  rw [run_neq_struct, equal_rp]
  rfl
set_option maxHeartbeats 4000000 in
theorem same_any (l : List Pc) (hl : l.length ≤ 1000) (V1 V2 : Value) (w : World) (h1 : RowP w V1 l) (h2 : RowP w V2 l) :
    Calls Try.prog 19 #[.agg #[V1], .agg #[V2]] w fun e w' => e = .returned (.bool true) ∧ Below w.heap.size w w' := by
  obtain ⟨W, hW, HA, HA2, HB, hs⟩ := two_open w 32 35 #[V1] #[V2]
  obtain ⟨A1, k1, rfl, _, _, _⟩ := id h1
  obtain ⟨A2, k2, rfl, _, _, _⟩ := id h2
  have HV1 := Lib.hid (h1.below HB.out)
  have HV2 := Lib.hid (h2.below HB.out)
  have HWS : Hid (w.heap.size ≤ W.heap.size) := Lib.hid HB.out.size
  have a0 := HA.out.cell 0 (.slice A1 l.length k1) rfl
  have a1 := HA2.out.cell 0 (.slice A2 l.length k2) rfl
  have hlI : (l.length : Int) ≤ 1000 := by omega
  clear h1 h2 hs
  go_enter Try.func19, Try.ntmps19
  go_wp2_with fail
  clear hW a0 a1
  go_loopw [5] (fun v5 wr => ∃ j : Nat, j ≤ l.length ∧ v5 = .int .i64 j ∧ Hid (Below W.heap.size W wr))
    (fun v5 _ => l.length - (intOf v5).toNat)
  case atStart => exact ⟨0, Nat.zero_le _, rfl, Lib.hid (Below.refl _ _)⟩
  case round =>
    obtain ⟨j, hj, rfl, HW⟩ := hrel
    have a0 := (HA.out.later HW.out).cell 0 (.slice A1 l.length k1) rfl
    by_cases hlt : j < l.length
    · obtain ⟨b1, o1, c1, e1, hb1, -, -, hr1⟩ := HV1.out.at hlt
      cases e1
      obtain ⟨b2, o2, c2, e2, hb2, -, -, hr2⟩ := HV2.out.at hlt
      cases e2
      have HR1 := Lib.hid hr1
      have HR2 := Lib.hid hr2
      have q1 : (0 : Int) ≤ (j : Int) := by omega
      have q2 : (j : Int) < (l.length : Int) := by omega
      clear hr1 hr2
      generalize l[j] = x at *
      go_wp2_with fail
      clear a0
      have HS : (fun V => Below W.heap.size W V) wr.drew := below_drawn HW.out
      refine wp_region_noPanic ?_
      refine wp_region_waits (S := (fun V => Below W.heap.size W V)) [] (by kernel_rfl) HS (fun hHeld => ?_)
      clear HS
      refine wpAnyW_take (i := 0) (v := ?_) (by simp only [List.getElem?_toArray, List.getElem?_cons_zero]; rfl) (by kernel_rfl) (by kernel_rfl) (by kernel_rfl) (by kernel_rfl) (by kernel_rfl) (fun _ _ _ h => h) (Or.inl ⟨by rfl, ?_⟩) (by assumption) ?_
      rotate_left 1
      · (intro w' hSw; go_simp; try with_reducible rfl)
      try simp only [Act.put, List.setIfInBounds_toArray, List.set_cons_zero, List.set_cons_succ]
      refine wpAnyW_take (i := 1) (v := ?_) (by simp only [List.getElem?_toArray, List.getElem?_cons_succ, List.getElem?_cons_zero]; rfl) (by kernel_rfl) (by kernel_rfl) (by kernel_rfl) (by kernel_rfl) (by kernel_rfl) (fun _ _ _ h => h) (Or.inl ⟨by rfl, ?_⟩) (by assumption) ?_
      rotate_left 1
      · (intro w' hSw; have hq := (HA.out.later hSw).cell 0 (.slice (some ⟨b1, o1, none⟩) l.length k1) rfl; go_simp; try with_reducible rfl)
      try simp only [Act.put, List.setIfInBounds_toArray, List.set_cons_zero, List.set_cons_succ]
      refine wpAnyW_take (i := 2) (v := ?_) (by simp only [List.getElem?_toArray, List.getElem?_cons_succ, List.getElem?_cons_zero]; rfl) (by kernel_rfl) (by kernel_rfl) (by kernel_rfl) (by kernel_rfl) (by kernel_rfl) (fun _ _ _ h => h) (Or.inl ⟨by rfl, ?_⟩) (by assumption) ?_
      rotate_left 1
      · (intro w' hSw; go_simp; try with_reducible rfl)
      try simp only [Act.put, List.setIfInBounds_toArray, List.set_cons_zero, List.set_cons_succ]
      refine wpAnyW_take (i := 3) (v := ?_) (by simp only [List.getElem?_toArray, List.getElem?_cons_succ, List.getElem?_cons_zero]; rfl) (by kernel_rfl) (by kernel_rfl) (by kernel_rfl) (by kernel_rfl) (by kernel_rfl) (fun _ _ _ h => h) (Or.inl ⟨by rfl, ?_⟩) (by assumption) ?_
      rotate_left 1
      · (intro w' hSw; go_simp; try with_reducible rfl)
      try simp only [Act.put, List.setIfInBounds_toArray, List.set_cons_zero, List.set_cons_succ]
      refine wpAnyW_take (i := 4) (v := _) (by simp only [List.getElem?_toArray, List.getElem?_cons_succ, List.getElem?_cons_zero]; rfl) (by kernel_rfl) (by kernel_rfl) (by kernel_rfl) (by kernel_rfl) (by kernel_rfl) (fun _ _ _ h => h) (yPc (ty := 43) (by rfl) rfl rfl (fun V h => range_below HR1.out hb1 h) Try.underlying43 rfl infoP) (by assumption) ?_
      try simp only [Act.put, List.setIfInBounds_toArray, List.set_cons_zero, List.set_cons_succ]
      refine wpAnyW_take (i := 6) (v := ?_) (by simp only [List.getElem?_toArray, List.getElem?_cons_succ, List.getElem?_cons_zero]; rfl) (by kernel_rfl) (by kernel_rfl) (by kernel_rfl) (by kernel_rfl) (by kernel_rfl) (fun _ _ _ h => h) (Or.inl ⟨by rfl, ?_⟩) (by assumption) ?_
      rotate_left 1
      · (intro w' hSw; go_simp; try with_reducible rfl)
      try simp only [Act.put, List.setIfInBounds_toArray, List.set_cons_zero, List.set_cons_succ]
      refine wpAnyW_take (i := 7) (v := ?_) (by simp only [List.getElem?_toArray, List.getElem?_cons_succ, List.getElem?_cons_zero]; rfl) (by kernel_rfl) (by kernel_rfl) (by kernel_rfl) (by kernel_rfl) (by kernel_rfl) (fun _ _ _ h => h) (Or.inl ⟨by rfl, ?_⟩) (by assumption) ?_
      rotate_left 1
      · (intro w' hSw; have hq := (HA2.out.later hSw).cell 0 (.slice (some ⟨b2, o2, none⟩) l.length k2) rfl; go_simp; try with_reducible rfl)
      try simp only [Act.put, List.setIfInBounds_toArray, List.set_cons_zero, List.set_cons_succ]
      refine wpAnyW_take (i := 8) (v := ?_) (by simp only [List.getElem?_toArray, List.getElem?_cons_succ, List.getElem?_cons_zero]; rfl) (by kernel_rfl) (by kernel_rfl) (by kernel_rfl) (by kernel_rfl) (by kernel_rfl) (fun _ _ _ h => h) (Or.inl ⟨by rfl, ?_⟩) (by assumption) ?_
      rotate_left 1
      · (intro w' hSw; go_simp; try with_reducible rfl)
      try simp only [Act.put, List.setIfInBounds_toArray, List.set_cons_zero, List.set_cons_succ]
      refine wpAnyW_take (i := 9) (v := ?_) (by simp only [List.getElem?_toArray, List.getElem?_cons_succ, List.getElem?_cons_zero]; rfl) (by kernel_rfl) (by kernel_rfl) (by kernel_rfl) (by kernel_rfl) (by kernel_rfl) (fun _ _ _ h => h) (Or.inl ⟨by rfl, ?_⟩) (by assumption) ?_
      rotate_left 1
      · (intro w' hSw; go_simp; try with_reducible rfl)
      try simp only [Act.put, List.setIfInBounds_toArray, List.set_cons_zero, List.set_cons_succ]
      refine wpAnyW_take (i := 10) (v := _) (by simp only [List.getElem?_toArray, List.getElem?_cons_succ, List.getElem?_cons_zero]; rfl) (by kernel_rfl) (by kernel_rfl) (by kernel_rfl) (by kernel_rfl) (by kernel_rfl) (fun _ _ _ h => h) (yPc (ty := 47) (by rfl) rfl rfl (fun V h => range_below HR2.out hb2 h) Try.underlying47 rfl infoRP) (by assumption) ?_
      try simp only [Act.put, List.setIfInBounds_toArray, List.set_cons_zero, List.set_cons_succ]
      refine wpAnyW_held (i := 5) (by kernel_rfl) (by simp only [List.getElem?_toArray, List.getElem?_cons_succ, List.getElem?_cons_zero]; rfl) (fun K hK => ?_)
      rw [if_pos (by rfl)]
      go_simp
      refine (one_any x _).mono ?_
      rintro _ w8 ⟨rfl, hb⟩
      have HS : (fun V => Below W.heap.size W V) _ := hHeld.trans (hb.mono hHeld.size)
      clear hHeld hb
      go_wp2_with fail
      refine hK.out _ _ HS (fun hHeld => ?_)
      clear hK K HS
      try simp only [Act.put, List.setIfInBounds_toArray, List.set_cons_zero, List.set_cons_succ]
      refine wpAnyW_take (i := 11) (v := .bool false) (by simp only [List.getElem?_toArray, List.getElem?_cons_succ, List.getElem?_cons_zero]; rfl) (by kernel_rfl) (by kernel_rfl) (by kernel_rfl) (by kernel_rfl) (by kernel_rfl) (fun _ _ _ h => h) (Or.inl ⟨by rfl, ?_⟩) (by assumption) ?_
      · (intro w' hSw; exact run_bin_at (u := .agg (cellsPc x)) (v := .agg (cellsPc x)) rfl rfl rfl (guard_rp _ _ _ _ _ w') (neq_rp x w'))
      try simp only [Act.put, List.setIfInBounds_toArray, List.set_cons_zero, List.set_cons_succ]
      have HW2 := Lib.hid hHeld
      clear hHeld
      refine wpAnyW_done (by kernel_rfl) ?_ _
      refine NoPanic.normal ?_
      go_wp2_with fail
      go_roundw
      case rel => exact ⟨j + 1, by omega, by go_num, HW2⟩
      case measure => simp [intOf]; omega
    · obtain rfl : j = l.length := by omega
      go_wp2_with fail
      go_ret
      exact ⟨rfl, HB.out.trans (HW.out.mono HWS.out)⟩
end Go.Proofs.Ytblepnbmjehikaa
