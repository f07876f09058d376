/-
  Package frag: Put, sameTexts, small, Bytes: contracts.
-/
import Derived.Test.YtgngdgiipifacaaSj
namespace Go.Proofs.Ytgngdgiipifacaa
open Go.RowKit
set_option linter.unusedVariables false
set_option linter.unusedSimpArgs false
set_option maxRecDepth 100000

theorem put_any (l : List Pc) (hl : l.length < 999) (hok : OkB l) (p : Pc) (hz : bytesL l + p.tx.size ≤ 1000000000) (v : Value) (w : World) (h : RowP w v l) :
    Calls Try.prog 14 #[.agg #[v], .agg (cellsPc p)] w fun e w' => PutR w w' e (putP l p).1 (putP l p).2 := by
  rcases putP_cases (p := p) hok hl with ⟨h1, e⟩ | ⟨h1, h2, h3, e⟩ | ⟨r, h1, h2, h3, h4, h5, e⟩
  · rw [e]
    cases hf : findT l p.ts with
    | some x => exact put_there l (by omega) hok p x hf v w h
    | none =>
      rcases h1 with h1 | h1
      · rw [hf] at h1; cases h1
      · exact put_empty l (by omega) hok p hf h1 v w h
  · rw [e]; exact put_wait l hl hok p h1 h2 h3 v w h
  · rw [e]
    have hok2 := okB_put hok h1 h2
    have hb := bytes_split hok2.nd (by rw [List.length_append, List.length_singleton]; omega) h4
    rw [bytes_add] at hb
    exact put_done l hl hok p h1 h2 r h3 (by omega) v w h
theorem RowE.atS {w : World} {v : Value} {l : List ByteArray} (h : RowE encS w v l) {j : Nat} (hj : j < l.length) : ∃ b off cap, v = .slice (some ⟨b, off, none⟩) l.length cap ∧ b < w.heap.size ∧ l.length ≤ cap ∧ cap ≤ maxLen ∧ w.cell? ⟨b, off + j, none⟩ = some (.string l[j]) := by
  obtain ⟨A, cap, rfl, h1, h2, h3⟩ := h
  obtain ⟨b, off, rfl, hb, hc⟩ := h3 (by omega)
  exact ⟨b, off, cap, rfl, hb, h1, h2, by have := hc j hj; rw [getElem!_pos l j hj] at this; exact this⟩
set_option maxHeartbeats 1000000 in
theorem same_texts (l : List ByteArray) (hl : l.length ≤ 100000) (v1 v2 : Value) (w : World) (h1 : RowE encS w v1 l) (h2 : RowE encS w v2 l) :
    Calls Try.prog 12 #[v1, v2] w fun e w' => e = .returned (.bool true) ∧ Below w.heap.size w w' := by
  have HV1 := Lib.hid h1
  have HV2 := Lib.hid h2
  obtain ⟨A1, cap1, rfl, _, _, _⟩ := id h1
  obtain ⟨A2, cap2, rfl, _, _, _⟩ := id h2
  have hlI : (l.length : Int) ≤ 100000 := by omega
  clear h1 h2
  go_enter Try.func12, Try.ntmps12
  go_wp2_with fail
  go_loopw [5] (fun i wr => ∃ j : Nat, j ≤ l.length ∧ i = .int .i64 j ∧ Hid (Below w.heap.size w wr))
    (fun i _ => l.length - (intOf i).toNat)
  case atStart => exact ⟨0, Nat.zero_le _, rfl, Lib.hid (Below.refl _ _)⟩
  case round =>
    obtain ⟨j, hj, rfl, HW⟩ := hrel
    by_cases hlt : j < l.length
    · obtain ⟨b1, o1, c1, e9, hb1, -, -, hc1⟩ := HV1.out.atS hlt
      cases e9
      obtain ⟨b2, o2, c2, e9, hb2, -, -, hc2⟩ := HV2.out.atS hlt
      cases e9
      have q1 : (0 : Int) ≤ (j : Int) := by omega
      have q2 : (j : Int) < (l.length : Int) := by omega
      have e1 := (HW.out.cell (p := ⟨b1, o1 + j, none⟩) hb1).trans hc1
      have e2 := (HW.out.cell (p := ⟨b2, o2 + j, none⟩) hb2).trans hc2
      generalize l[j] = x at *
      clear hc1 hc2
      go_wp2_with fail
      have HS : (fun U => U.cell? ⟨b1, o1 + j, none⟩ = some (.string x) ∧ U.cell? ⟨b2, o2 + j, none⟩ = some (.string x) ∧ Below w.heap.size w U) wr.drew := ⟨e1, e2, below_drawn HW.out⟩
      refine wp_region_noPanic ?_
      refine wp_region_waits (S := (fun U => U.cell? ⟨b1, o1 + j, none⟩ = some (.string x) ∧ U.cell? ⟨b2, o2 + j, none⟩ = some (.string x) ∧ Below w.heap.size w U)) [] (by kernel_rfl) HS (fun hHeld => ?_)
      clear HS
      refine wpAnyW_take (i := 0) (v := ?_) (by simp only [List.getElem?_toArray, List.getElem?_cons_zero]; rfl) (by kernel_rfl) (by kernel_rfl) (by kernel_rfl) (by kernel_rfl) (by kernel_rfl) (fun _ _ _ h => h) (Or.inl ⟨by rfl, ?_⟩) (by assumption) ?_
      rotate_left 1
      · (intro w' hSw; go_simp; try with_reducible rfl)
      try simp only [Act.put, List.setIfInBounds_toArray, List.set_cons_zero, List.set_cons_succ]
      refine wpAnyW_take (i := 1) (v := ?_) (by simp only [List.getElem?_toArray, List.getElem?_cons_succ, List.getElem?_cons_zero]; rfl) (by kernel_rfl) (by kernel_rfl) (by kernel_rfl) (by kernel_rfl) (by kernel_rfl) (fun _ _ _ h => h) (Or.inl ⟨by rfl, ?_⟩) (by assumption) ?_
      rotate_left 1
      · (intro w' hSw; go_simp; try with_reducible rfl)
      try simp only [Act.put, List.setIfInBounds_toArray, List.set_cons_zero, List.set_cons_succ]
      refine wpAnyW_take (i := 2) (v := ?_) (by simp only [List.getElem?_toArray, List.getElem?_cons_succ, List.getElem?_cons_zero]; rfl) (by kernel_rfl) (by kernel_rfl) (by kernel_rfl) (by kernel_rfl) (by kernel_rfl) (fun _ _ _ h => h) (Or.inl ⟨by rfl, ?_⟩) (by assumption) ?_
      rotate_left 1
      · (intro w' hSw; go_simp; try with_reducible rfl)
      try simp only [Act.put, List.setIfInBounds_toArray, List.set_cons_zero, List.set_cons_succ]
      refine wpAnyW_take (i := 3) (v := ?_) (by simp only [List.getElem?_toArray, List.getElem?_cons_succ, List.getElem?_cons_zero]; rfl) (by kernel_rfl) (by kernel_rfl) (by kernel_rfl) (by kernel_rfl) (by kernel_rfl) (fun _ _ _ h => h) (Or.inl ⟨by rfl, ?_⟩) (by assumption) ?_
      rotate_left 1
      · (intro w' hSw; have hq := hSw.1; go_simp; try with_reducible rfl)
      try simp only [Act.put, List.setIfInBounds_toArray, List.set_cons_zero, List.set_cons_succ]
      refine wpAnyW_take (i := 4) (v := ?_) (by simp only [List.getElem?_toArray, List.getElem?_cons_succ, List.getElem?_cons_zero]; rfl) (by kernel_rfl) (by kernel_rfl) (by kernel_rfl) (by kernel_rfl) (by kernel_rfl) (fun _ _ _ h => h) (Or.inl ⟨by rfl, ?_⟩) (by assumption) ?_
      rotate_left 1
      · (intro w' hSw; go_simp; try with_reducible rfl)
      try simp only [Act.put, List.setIfInBounds_toArray, List.set_cons_zero, List.set_cons_succ]
      refine wpAnyW_take (i := 5) (v := ?_) (by simp only [List.getElem?_toArray, List.getElem?_cons_succ, List.getElem?_cons_zero]; rfl) (by kernel_rfl) (by kernel_rfl) (by kernel_rfl) (by kernel_rfl) (by kernel_rfl) (fun _ _ _ h => h) (Or.inl ⟨by rfl, ?_⟩) (by assumption) ?_
      rotate_left 1
      · (intro w' hSw; go_simp; try with_reducible rfl)
      try simp only [Act.put, List.setIfInBounds_toArray, List.set_cons_zero, List.set_cons_succ]
      refine wpAnyW_take (i := 6) (v := ?_) (by simp only [List.getElem?_toArray, List.getElem?_cons_succ, List.getElem?_cons_zero]; rfl) (by kernel_rfl) (by kernel_rfl) (by kernel_rfl) (by kernel_rfl) (by kernel_rfl) (fun _ _ _ h => h) (Or.inl ⟨by rfl, ?_⟩) (by assumption) ?_
      rotate_left 1
      · (intro w' hSw; go_simp; try with_reducible rfl)
      try simp only [Act.put, List.setIfInBounds_toArray, List.set_cons_zero, List.set_cons_succ]
      refine wpAnyW_take (i := 7) (v := ?_) (by simp only [List.getElem?_toArray, List.getElem?_cons_succ, List.getElem?_cons_zero]; rfl) (by kernel_rfl) (by kernel_rfl) (by kernel_rfl) (by kernel_rfl) (by kernel_rfl) (fun _ _ _ h => h) (Or.inl ⟨by rfl, ?_⟩) (by assumption) ?_
      rotate_left 1
      · (intro w' hSw; have hq := hSw.2.1; go_simp; try with_reducible rfl)
      try simp only [Act.put, List.setIfInBounds_toArray, List.set_cons_zero, List.set_cons_succ]
      refine wpAnyW_take (i := 8) (v := ?_) (by simp only [List.getElem?_toArray, List.getElem?_cons_succ, List.getElem?_cons_zero]; rfl) (by kernel_rfl) (by kernel_rfl) (by kernel_rfl) (by kernel_rfl) (by kernel_rfl) (fun _ _ _ h => h) (Or.inl ⟨by rfl, ?_⟩) (by assumption) ?_
      rotate_left 1
      · (intro w' hSw; go_simp; try with_reducible rfl)
      try simp only [Act.put, List.setIfInBounds_toArray, List.set_cons_zero, List.set_cons_succ]
      have HE := Lib.hid hHeld.2.2
      clear hHeld
      refine wpAnyW_done (by kernel_rfl) ?_ _
      refine NoPanic.normal ?_
      go_wp2_with fail
      go_roundw
      case rel => exact ⟨j + 1, by omega, by go_num, HE⟩
      case measure => simp [intOf]; omega
    · obtain rfl : j = l.length := by omega
      go_wp2_with fail
      go_ret
      exact ⟨rfl, HW.out⟩
def smallB (l : List Pc) : Bool := decide (l.length ≤ 60) && l.all fun x => decide (x.tx.size ≤ 1000)
theorem small_long {l : List Pc} (h : smallB l = true) : l.length ≤ 60 ∧ ∀ x ∈ l, x.tx.size ≤ 1000 := by
  unfold smallB at h
  simp only [Bool.and_eq_true, decide_eq_true_eq, List.all_eq_true] at h
  exact h
set_option maxHeartbeats 1000000 in
theorem small_any (l : List Pc) (v : Value) (w : World) (h : RowP w v l) :
    Calls Try.prog 13 #[v] w fun e w' => e = .returned (.bool (smallB l)) ∧ w' = w := by
  have HV := Lib.hid h
  obtain ⟨A, cap, rfl, _, _, _⟩ := id h
  obtain ⟨r, hr⟩ : ∃ r, smallB l = r := ⟨_, rfl⟩
  rw [hr]
  have HR := Lib.hid hr
  clear h hr
  by_cases h60 : l.length ≤ 60
  · have q60 : ¬ (60 : Int) < (l.length : Int) := by omega
    go_enter Try.func13, Try.ntmps13
    go_wp2_with fail
    go_loopw [3] (fun i wr => ∃ j : Nat, wr = w ∧ j ≤ l.length ∧ i = .int .i64 j ∧ Hid ((l.take j).all (fun x => decide (x.tx.size ≤ 1000)) = true))
      (fun i _ => l.length - (intOf i).toNat)
    case atStart => exact ⟨0, rfl, Nat.zero_le _, rfl, Lib.hid rfl⟩
    case round =>
      obtain ⟨j, rfl, hj, rfl, HA⟩ := hrel
      by_cases hlt : j < l.length
      · obtain ⟨b, off, c, e9, hb, -, -, hrg⟩ := HV.out.at hlt
        cases e9
        have q1 : (0 : Int) ≤ (j : Int) := by omega
        have q2 : (j : Int) < (l.length : Int) := by omega
        have e7 := hrg 7 (.string l[j].tx) rfl
        have HNX : Hid (l[j].tx.size ≤ 1000 → (l.take (j + 1)).all (fun x => decide (x.tx.size ≤ 1000)) = true) := Lib.hid (fun hx => by
          rw [List.take_succ_eq_append_getElem hlt, List.all_append, HA.out]
          simp [hx])
        have HNO : Hid (¬ l[j].tx.size ≤ 1000 → r = false) := Lib.hid (fun hx => by
          rw [← HR.out]
          unfold smallB
          rw [Bool.and_eq_false_iff]
          right
          rw [List.all_eq_false]
          exact ⟨l[j], List.getElem_mem hlt, by simpa using hx⟩)
        clear hrg
        generalize l[j] = x at *
        by_cases hx : x.tx.size ≤ 1000
        · have q3 : ¬ (1000 : Int) < (x.tx.size : Int) := by omega
          have HN := Lib.hid (HNX.out hx)
          clear hx
          go_wp2_with fail
          go_roundw
          case rel => exact ⟨j + 1, by first | rfl | trivial, by omega, by go_num, HN⟩
          case measure => simp [intOf]; omega
        · have q3 : (1000 : Int) < (x.tx.size : Int) := by omega
          have HN := Lib.hid (HNO.out hx)
          clear hx
          go_wp2_with fail
          go_ret
          exact ⟨ret_bool HN.out.symm, rfl⟩
      · obtain rfl : j = l.length := by omega
        rw [List.take_length] at HA
        have HN : Hid (r = true) := Lib.hid (by rw [← HR.out]; unfold smallB; rw [HA.out, decide_eq_true h60]; rfl)
        go_wp2_with fail
        go_ret
        exact ⟨ret_bool HN.out.symm, rfl⟩
  · have q60 : (60 : Int) < (l.length : Int) := by omega
    have HN : Hid (r = false) := Lib.hid (by rw [← HR.out]; unfold smallB; rw [decide_eq_false h60]; rfl)
    go_enter Try.func13, Try.ntmps13
    go_wp2_with fail
    go_ret
    exact ⟨ret_bool HN.out.symm, rfl⟩
set_option maxHeartbeats 1000000 in
theorem bytes_any (l : List Pc) (hl : l.length ≤ 100000) (hz : bytesL l ≤ 1000000000) (v : Value) (w : World) (h : RowP w v l) :
    Calls Try.prog 21 #[.agg #[v]] w fun e w' => e = .returned (.int .i64 (bytesL l : Int)) ∧ Below w.heap.size w w' := by
  obtain ⟨W, hW, HA, HB, hs⟩ := one_open w 32 #[v]
  have HV := Lib.hid h
  obtain ⟨A, cap, rfl, _, _, _⟩ := id h
  have c0 := HA.out.cell 0 (.slice A l.length cap) rfl
  have HBT := Lib.hid (bytes_take l)
  have HFU : Hid (bytesL (l.take l.length) = bytesL l) := Lib.hid (by rw [List.take_length])
  have HNX : Hid (∀ j (h : j < l.length), bytesL (l.take (j + 1)) = bytesL (l.take j) + l[j].tx.size) := Lib.hid (fun j h => by rw [List.take_succ_eq_append_getElem h, bytes_add])
  have hlI : (l.length : Int) ≤ 100000 := by omega
  clear h
  go_enter Try.func21, Try.ntmps21
  go_wp2_with fail
  clear c0 hW
  go_loopw [3, 9] (fun s i wr => ∃ j : Nat, j ≤ l.length ∧ s = .int .i64 (bytesL (l.take j) : Int) ∧ i = .int .i64 j ∧ Hid (Below w.heap.size w wr))
    (fun _ i _ => l.length - (intOf i).toNat)
  case atStart => exact ⟨0, Nat.zero_le _, rfl, rfl, HB⟩
  case round =>
    clear HB HA
    obtain ⟨j, hj, rfl, rfl, HW⟩ := hrel
    by_cases hlt : j < l.length
    · obtain ⟨b, off, c, e9, hb, -, -, hrg⟩ := HV.out.at hlt
      cases e9
      have HRG := Lib.hid (range_below hrg hb HW.out)
      have hbt := HBT.out j hlt
      have hnx := HNX.out j hlt
      have q1 : (0 : Int) ≤ (j : Int) := by omega
      have q2 : (j : Int) < (l.length : Int) := by omega
      clear hrg
      generalize l[j] = x at *
      obtain ⟨u, hu⟩ : ∃ u, bytesL (l.take j) = u := ⟨_, rfl⟩
      rw [hu] at hbt hnx ⊢
      have HN := Lib.hid hnx
      have s1 : IntKind.i64.wrap ((u : Int) + (x.tx.size : Int)) = ((u + x.tx.size : Nat) : Int) := by rw [IntKind.wrap_i64]; omega
      clear hu hnx
      obtain ⟨W3, hW3, HT, HB3, hs3⟩ := one_open wr 43 #[.int .u32 0, .bool false, .bool false, .bool false, .int .u16 0, .int .u16 0, .int .u32 0, .string ⟨#[]⟩]
      go_wp2_with (first
        | ((with_reducible refine gate9 ?_); refine ldPc (ty := 43) rfl rfl rfl HRG.out Try.underlying43 rfl infoP ?_)
        | ((with_reducible refine gate9 ?_); refine stB (ty := 43) (cellsPc x) rfl rfl rfl rfl HT.out infoP rfl (cellsPc_one _) ?_; intro w4 ht hg; replace HB3 := Lib.hid (below_of_grown1 HB3.out hg HB3.out.size (Nat.le_refl _)); have t7 := (show Bx w4 wr.heap.size 43 (cellsPc x) from ht).cell 7 (.string x.tx) rfl; clear ht hg))
      go_roundw
      case rel => exact ⟨j + 1, by omega, (by rw [HN.out]; first | rfl | (congr 1)), by go_num, Lib.hid (HW.out.trans (HB3.out.mono HW.out.size))⟩
      case measure => simp [intOf]; omega
    · obtain rfl : j = l.length := by omega
      go_wp2_with fail
      go_ret
      exact ⟨ret_i64 (by rw [HFU.out]), HW.out⟩
end Go.Proofs.Ytgngdgiipifacaa
