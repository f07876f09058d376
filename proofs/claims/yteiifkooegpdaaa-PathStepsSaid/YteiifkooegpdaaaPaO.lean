/-
  Paths as the document has them, whether two are the same, and whether addresses can be gone through: contracts.
-/
import Derived.Test.YteiifkooegpdaaaPaN
import Derived.Test.YteiifkooegpdaaaPaI
namespace Go.Proofs.Yteiifkooegpdaaa
open Go.RowKit
set_option linter.unusedVariables false
set_option linter.unusedSimpArgs false
set_option maxRecDepth 100000

def smallTo (l : List ByteArray) (k : Nat) : Prop := ∀ j (h : j < l.length), j < k → l[j].size ≤ 100
def smallB (l : List ByteArray) : Bool := decide (l.length ≤ 30) && l.all fun s => decide (s.size ≤ 100)
theorem small_not {l : List ByteArray} {k : Nat} (h : k < l.length) (hs : ¬ l[k].size ≤ 100) : smallB l = false := by
  unfold smallB
  rw [Bool.and_eq_false_iff]
  right
  rw [List.all_eq_false]
  exact ⟨l[k], List.getElem_mem h, by simpa using hs⟩
theorem small_yes {l : List ByteArray} (hl : l.length ≤ 30) (h : smallTo l l.length) : smallB l = true := by
  unfold smallB
  rw [Bool.and_eq_true]
  refine ⟨decide_eq_true hl, ?_⟩
  rw [List.all_eq_true]
  intro s hs
  obtain ⟨j, hj, rfl⟩ := List.mem_iff_getElem.1 hs
  exact decide_eq_true (h j hj hj)
set_option maxHeartbeats 1000000 in
theorem small_any (l : List ByteArray) (hs : ∀ s ∈ l, s.size ≤ maxLen) (v : Value) (w : World) (hv : RowE encS w v l) : Calls Try.prog 9 #[v] w fun e w' => e = .returned (.bool (smallB l)) ∧ w' = w := by
  obtain ⟨R, hR⟩ : ∃ R, smallB l = R := ⟨_, rfl⟩
  rw [hR]
  have HRR := Lib.hid hR
  clear hR
  obtain ⟨A, cap, rfl, hcap, hmax, hcells⟩ := hv
  have HC := Lib.hid hcells
  have HS := Lib.hid hs
  have hml : (l.length : Int) ≤ 9223372036854775807 := by unfold maxLen at hmax; omega
  clear hcells hs
  by_cases hl : l.length ≤ 30
  · have hl' : ¬ (30 : Int) < (l.length : Int) := by omega
    go_enter Try.func9, Try.ntmps9
    go_wp2_with fail
    go_loopw [3] (fun i wr => ∃ k : Nat, k ≤ l.length ∧ i = .int .i64 k ∧ Hid (smallTo l k) ∧ Hid (wr = w))
      (fun i _ => l.length - (intOf i).toNat)
    case atStart => exact ⟨0, Nat.zero_le _, rfl, Lib.hid (fun j _ h => absurd h (by omega)), Lib.hid rfl⟩
    case round =>
      obtain ⟨k, hk, rfl, HF, HW⟩ := hrel
      have hwr := HW.out
      subst hwr
      by_cases hlt : k < l.length
      · obtain ⟨b, off, rfl, hb, hc⟩ := HC.out (by omega)
        have hc0 := hc k hlt
        rw [getElem!_pos l k hlt] at hc0
        have HN := Lib.hid (fun h => small_not hlt h)
        have HY := Lib.hid (fun (h : l[k].size ≤ 100) => show smallTo l (k + 1) from fun j hj hjk => by
          by_cases e : j = k
          · subst e; exact h
          · exact HF.out j hj (by omega))
        have hsz := HS.out l[k] (List.getElem_mem hlt)
        have q4 : (0 : Int) ≤ (k : Int) := by omega
        have q5 : (k : Int) < (l.length : Int) := by omega
        generalize l[k] = t at *
        unfold encS at hc0
        have hsz' : (t.size : Int) ≤ 9223372036854775807 := by unfold maxLen at hsz; omega
        clear hc
        by_cases h1 : t.size ≤ 100
        · have h1' : ¬ (100 : Int) < (t.size : Int) := by omega
          go_wp2_with fail
          go_roundw
          case rel => exact ⟨k + 1, by omega, by go_num, Lib.hid (HY.out h1), Lib.hid (by trivial)⟩
          case measure => simp [intOf]; omega
        · have h1' : (100 : Int) < (t.size : Int) := by omega
          have HG := Lib.hid (HN.out h1)
          go_wp2_with fail
          go_ret
          exact ⟨ret_bool (by rw [← HRR.out]; exact HG.out.symm), rfl⟩
      · obtain rfl : k = l.length := by omega
        have HG := Lib.hid (small_yes hl HF.out)
        go_wp2_with fail
        go_ret
        exact ⟨ret_bool (by rw [← HRR.out]; exact HG.out.symm), rfl⟩
  · have hl' : (30 : Int) < (l.length : Int) := by omega
    have HG := Lib.hid (show smallB l = false by simp [smallB, hl])
    go_enter Try.func9, Try.ntmps9
    go_wp2_with fail
    go_ret
    exact ⟨ret_bool (by rw [← HRR.out]; exact HG.out.symm), rfl⟩
theorem eT (s v r b : Int) (k : Bool) (w : World) : (Op.equalIn 9999 71 (.agg #[.int .i64 s, .int .i64 v, .int .i64 r, .int .i64 b, .bool k]) (.agg #[.int .i64 s, .int .i64 v, .int .i64 r, .int .i64 b, .bool k])).run Try.prog w = .ok true w := by
  have hu := Try.underlying71
  rw [run_equalIn_struct w 9998 _ _ _ (by unfold Program.fieldsOf; rw [hu]) Try.stoodInHeld71]
  unfold Program.fieldsOf
  rw [hu]
  simp [Op.eqFields, go_sem]
theorem eW (s v r : Int) (w : World) : (Op.equalIn 9999 73 (.agg #[.int .i64 s, .int .i64 v, .int .i64 r]) (.agg #[.int .i64 s, .int .i64 v, .int .i64 r])).run Try.prog w = .ok true w := by
  have hu := Try.underlying73
  rw [run_equalIn_struct w 9998 _ _ _ (by unfold Program.fieldsOf; rw [hu]) Try.stoodInHeld73]
  unfold Program.fieldsOf
  rw [hu]
  simp [Op.eqFields, go_sem]
set_option maxHeartbeats 1000000 in
theorem equal_same (x : Pa) (w : World) : (Op.equalIn 10000 76 (.agg (cellsPa x)) (.agg (cellsPa x))).run Try.prog w = .ok true w := by
  have hu := Try.underlying76
  rw [run_equalIn_struct w 9999 _ _ _ (by unfold Program.fieldsOf; rw [hu]) Try.stoodInHeld76]
  unfold Program.fieldsOf
  rw [hu]
  obtain ⟨ad, st, er, ⟨s, v, r, b, k⟩, ⟨cw, ss, pa⟩, no, be, se⟩ := x
  simp [Op.eqFields, go_sem, cellsPa, eT, eW]
theorem neq_same (x : Pa) (w : World) : (binOp .neq 76 (.agg (cellsPa x)) (.agg (cellsPa x))).run Try.prog w = .ok (.bool false) w := by
  rw [run_neq_struct, equal_same]
  rfl
set_option maxHeartbeats 4000000 in
theorem same_any (l : List Pa) (hl : l.length ≤ 100000) (v1 v2 : Value) (pr al : Int) (w : World) (h1 : RowP w v1 l) (h2 : RowP w v2 l) : Calls Try.prog 12 #[.agg #[v1, .int .i64 pr, .int .i64 al], .agg #[v2, .int .i64 pr, .int .i64 al]] w fun e w' => e = .returned (.bool true) ∧ Below w.heap.size w w' := by
  obtain ⟨A1, cap1, rfl, hc1, hm1, hh1⟩ := h1
  obtain ⟨A2, cap2, rfl, hc2, hm2, hh2⟩ := h2
  obtain ⟨W1, hW1, HA, HZ, HB, hs1⟩ := two_open w 33 33 #[.slice A1 l.length cap1, .int .i64 pr, .int .i64 al] #[.slice A2 l.length cap2, .int .i64 pr, .int .i64 al]
  have HC1 := Lib.hid hh1
  have HC2 := Lib.hid hh2
  have hl' : (l.length : Int) ≤ 100000 := by omega
  have c0 := HA.out.cell 0 (.slice A1 l.length cap1) rfl
  have c1 := HA.out.cell 1 (.int .i64 pr) rfl
  have c2 := HA.out.cell 2 (.int .i64 al) rfl
  have d0 := HZ.out.cell 0 (.slice A2 l.length cap2) rfl
  have d1 := HZ.out.cell 1 (.int .i64 pr) rfl
  have d2 := HZ.out.cell 2 (.int .i64 al) rfl
  clear hh1 hh2
  go_enter Try.func12, Try.ntmps12
  go_wp2_with fail
  clear c0 c1 c2 d0 d1 d2 hW1
  go_loopw [5] (fun i wr => ∃ k : Nat, k ≤ l.length ∧ i = .int .i64 k ∧ Hid (Bx wr w.heap.size 33 #[.slice A1 l.length cap1, .int .i64 pr, .int .i64 al] ∧ Bx wr (w.heap.size + 1) 33 #[.slice A2 l.length cap2, .int .i64 pr, .int .i64 al] ∧ Below w.heap.size w wr))
    (fun i _ => l.length - (intOf i).toNat)
  case atStart => exact ⟨0, Nat.zero_le _, rfl, Lib.hid ⟨HA.out, HZ.out, HB.out⟩⟩
  case round =>
    clear HA HZ HB
    obtain ⟨k, hk, rfl, HS⟩ := hrel
    have c0 := HS.out.1.cell 0 (.slice A1 l.length cap1) rfl
    by_cases hlt : k < l.length
    · obtain ⟨b1, off1, rfl, hb1, hr1⟩ := HC1.out (by omega)
      obtain ⟨b2, off2, rfl, hb2, hr2⟩ := HC2.out (by omega)
      have HR1 := Lib.hid (hr1 k hlt)
      have HR2 := Lib.hid (hr2 k hlt)
      generalize l[k] = x9 at *
      have q4 : (0 : Int) ≤ (k : Int) := by omega
      have q5 : (k : Int) < (l.length : Int) := by omega
      have hq := fun W => neq_same x9 W
      clear hr1 hr2
      go_wp2_with fail
      refine wp_region_noPanic ?_
      refine wp_region_waits (S := fun V => Bx V w.heap.size 33 #[.slice (some ⟨b1, off1, none⟩) l.length cap1, .int .i64 pr, .int .i64 al] ∧ Bx V (w.heap.size + 1) 33 #[.slice (some ⟨b2, off2, none⟩) l.length cap2, .int .i64 pr, .int .i64 al] ∧ Below w.heap.size w V) [] (by kernel_rfl) ⟨HS.out.1.drew, HS.out.2.1.drew, below_drawn HS.out.2.2⟩ (fun hHeld => ?_)
      clear c0 HS
      refine wpAnyW_take (i := 0) (v := ?_) (by simp only [List.getElem?_toArray, List.getElem?_cons_zero]; rfl) (by kernel_rfl) (by kernel_rfl) (by kernel_rfl) (by kernel_rfl) (by kernel_rfl) (fun _ _ _ h => h) (Or.inl ⟨by rfl, ?_⟩) (by assumption) ?_
      rotate_left 1
      · (intro w' hSw; go_simp; try with_reducible rfl)
      try simp only [Act.put, List.setIfInBounds_toArray, List.set_cons_zero, List.set_cons_succ]
      refine wpAnyW_take (i := 1) (v := ?_) (by simp only [List.getElem?_toArray, List.getElem?_cons_succ, List.getElem?_cons_zero]; rfl) (by kernel_rfl) (by kernel_rfl) (by kernel_rfl) (by kernel_rfl) (by kernel_rfl) (fun _ _ _ h => h) (Or.inl ⟨by rfl, ?_⟩) (by assumption) ?_
      rotate_left 1
      · (intro w' hSw; have hq : w'.cell? ⟨w.heap.size, 0, none⟩ = some (.slice (some ⟨b1, off1, none⟩) l.length cap1) := hSw.1.cell 0 _ rfl; go_simp; try with_reducible rfl)
      try simp only [Act.put, List.setIfInBounds_toArray, List.set_cons_zero, List.set_cons_succ]
      refine wpAnyW_take (i := 2) (v := ?_) (by simp only [List.getElem?_toArray, List.getElem?_cons_succ, List.getElem?_cons_zero]; rfl) (by kernel_rfl) (by kernel_rfl) (by kernel_rfl) (by kernel_rfl) (by kernel_rfl) (fun _ _ _ h => h) (Or.inl ⟨by rfl, ?_⟩) (by assumption) ?_
      rotate_left 1
      · (intro w' hSw; go_simp; try with_reducible rfl)
      try simp only [Act.put, List.setIfInBounds_toArray, List.set_cons_zero, List.set_cons_succ]
      refine wpAnyW_take (i := 3) (v := ?_) (by simp only [List.getElem?_toArray, List.getElem?_cons_succ, List.getElem?_cons_zero]; rfl) (by kernel_rfl) (by kernel_rfl) (by kernel_rfl) (by kernel_rfl) (by kernel_rfl) (fun _ _ _ h => h) (Or.inl ⟨by rfl, ?_⟩) (by assumption) ?_
      rotate_left 1
      · (intro w' hSw; go_simp; try with_reducible rfl)
      try simp only [Act.put, List.setIfInBounds_toArray, List.set_cons_zero, List.set_cons_succ]
      refine wpAnyW_take (i := 4) (v := _) (by simp only [List.getElem?_toArray, List.getElem?_cons_succ, List.getElem?_cons_zero]; rfl) (by kernel_rfl) (by kernel_rfl) (by kernel_rfl) (by kernel_rfl) (by kernel_rfl) (fun _ _ _ h => h) (yR (cs := cellsPa x9) (by rfl) rfl rfl (fun V h => range_below HR1.out hb1 h.2.2) Try.underlying76 rfl infoRPa) (by assumption) ?_
      try simp only [Act.put, List.setIfInBounds_toArray, List.set_cons_zero, List.set_cons_succ]
      refine wpAnyW_take (i := 5) (v := ?_) (by simp only [List.getElem?_toArray, List.getElem?_cons_succ, List.getElem?_cons_zero]; rfl) (by kernel_rfl) (by kernel_rfl) (by kernel_rfl) (by kernel_rfl) (by kernel_rfl) (fun _ _ _ h => h) (Or.inl ⟨by rfl, ?_⟩) (by assumption) ?_
      rotate_left 1
      · (intro w' hSw; go_simp; try with_reducible rfl)
      try simp only [Act.put, List.setIfInBounds_toArray, List.set_cons_zero, List.set_cons_succ]
      refine wpAnyW_take (i := 6) (v := ?_) (by simp only [List.getElem?_toArray, List.getElem?_cons_succ, List.getElem?_cons_zero]; rfl) (by kernel_rfl) (by kernel_rfl) (by kernel_rfl) (by kernel_rfl) (by kernel_rfl) (fun _ _ _ h => h) (Or.inl ⟨by rfl, ?_⟩) (by assumption) ?_
      rotate_left 1
      · (intro w' hSw; have hq : w'.cell? ⟨w.heap.size + 1, 0, none⟩ = some (.slice (some ⟨b2, off2, none⟩) l.length cap2) := hSw.2.1.cell 0 _ rfl; go_simp; try with_reducible rfl)
      try simp only [Act.put, List.setIfInBounds_toArray, List.set_cons_zero, List.set_cons_succ]
      refine wpAnyW_take (i := 7) (v := ?_) (by simp only [List.getElem?_toArray, List.getElem?_cons_succ, List.getElem?_cons_zero]; rfl) (by kernel_rfl) (by kernel_rfl) (by kernel_rfl) (by kernel_rfl) (by kernel_rfl) (fun _ _ _ h => h) (Or.inl ⟨by rfl, ?_⟩) (by assumption) ?_
      rotate_left 1
      · (intro w' hSw; go_simp; try with_reducible rfl)
      try simp only [Act.put, List.setIfInBounds_toArray, List.set_cons_zero, List.set_cons_succ]
      refine wpAnyW_take (i := 8) (v := ?_) (by simp only [List.getElem?_toArray, List.getElem?_cons_succ, List.getElem?_cons_zero]; rfl) (by kernel_rfl) (by kernel_rfl) (by kernel_rfl) (by kernel_rfl) (by kernel_rfl) (fun _ _ _ h => h) (Or.inl ⟨by rfl, ?_⟩) (by assumption) ?_
      rotate_left 1
      · (intro w' hSw; go_simp; try with_reducible rfl)
      try simp only [Act.put, List.setIfInBounds_toArray, List.set_cons_zero, List.set_cons_succ]
      refine wpAnyW_take (i := 9) (v := _) (by simp only [List.getElem?_toArray, List.getElem?_cons_succ, List.getElem?_cons_zero]; rfl) (by kernel_rfl) (by kernel_rfl) (by kernel_rfl) (by kernel_rfl) (by kernel_rfl) (fun _ _ _ h => h) (yR (cs := cellsPa x9) (by rfl) rfl rfl (fun V h => range_below HR2.out hb2 h.2.2) Try.underlying76 rfl infoRPa) (by assumption) ?_
      try simp only [Act.put, List.setIfInBounds_toArray, List.set_cons_zero, List.set_cons_succ]
      refine wpAnyW_held (i := 10) (by kernel_rfl) (by simp only [List.getElem?_toArray, List.getElem?_cons_succ, List.getElem?_cons_zero]; rfl) (fun K hK => ?_)
      rw [if_pos (by rfl)]
      go_simp
      refine hK.out _ _ hHeld (fun hHeld => ?_)
      clear hK K
      try simp only [Act.put, List.setIfInBounds_toArray, List.set_cons_zero, List.set_cons_succ]
      refine wpAnyW_done (by kernel_rfl) ?_ _
      refine NoPanic.normal ?_
      go_wp2_with fail
      go_roundw
      case rel => exact ⟨k + 1, by omega, by go_num, Lib.hid hHeld⟩
      case measure => simp [intOf]; omega
    · obtain rfl : k = l.length := by omega
      go_wp2_with fail
      go_ret
      exact ⟨rfl, HS.out.2.2⟩
end Go.Proofs.Yteiifkooegpdaaa
