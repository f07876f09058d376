/-
  Package order: Waits, Bytes, and the document's: contracts.
-/
import Derived.Test.YtondgdacjbfihaaOb
namespace Go.Proofs.Ytondgdacjbfihaa
open Go.RowKit
set_option linter.unusedVariables false
set_option linter.unusedSimpArgs false
set_option maxRecDepth 100000

theorem fit16 (x : UInt16) : (x.toNat : Int) ≤ 65535 ∧ IntKind.i64.wrap (x.toNat : Int) = (x.toNat : Int) := by
  have h := x.toNat_lt
  have h1 : (x.toNat : Int) ≤ 65535 := by omega
  exact ⟨h1, IntWalk.i64_in _ ⟨by omega, by omega⟩⟩
set_option maxHeartbeats 2000000 in
theorem obytes_any (l : List Mg) (hl : l.length ≤ 100000) (hz : bytesN l ≤ 1000000000) (vn v : Value) (hn : vn.oneCell' = true) (w : World) (h : RowM w v l) :
    Calls Try.prog 22 #[.agg #[vn, v]] w fun e w' => e = .returned (.int .i64 (bytesN l : Int)) ∧ Below w.heap.size w w' := by
  obtain ⟨W, hW, HA, HB, hs⟩ := one_open w 27 #[vn, v]
  have HV := Lib.hid h
  obtain ⟨A, cap, rfl, _, _, _⟩ := id h
  have c1 := HA.out.cell 1 (.slice A l.length cap) rfl
  have HFU : Hid (bytesN (l.take l.length) = bytesN l) := Lib.hid (by rw [List.take_length])
  have hlI : (l.length : Int) ≤ 100000 := by omega
  have HNX := Lib.hid (fun j h => bytes_next l j h)
  have HLE := Lib.hid (bytes_take l)
  clear h
  go_enter Try.func22, Try.ntmps22
  go_wp2_with fail
  clear c1 hW
  go_loopw [3, 9] (fun s0 i wr => ∃ j : Nat, j ≤ l.length ∧ s0 = .int .i64 (bytesN (l.take j) : Int) ∧ i = .int .i64 j ∧ Hid (Below w.heap.size w wr))
    (fun _ i _ => l.length - (intOf i).toNat)
  case atStart => exact ⟨0, Nat.zero_le _, rfl, rfl, HB⟩
  case round =>
    obtain ⟨j, hj, rfl, rfl, HW⟩ := hrel
    by_cases hlt : j < l.length
    · obtain ⟨b, off, c, e9, hb, -, -, hrg⟩ := HV.out.at hlt
      cases e9
      have HRG := Lib.hid (range_below hrg hb HW.out)
      have hle := HLE.out (j + 1)
      have hnx := HNX.out j hlt
      have q1 : (0 : Int) ≤ (j : Int) := by omega
      have q2 : (j : Int) < (l.length : Int) := by omega
      clear hrg
      generalize l[j] = x at *
      obtain ⟨u, hu⟩ : ∃ u, bytesN (l.take j) = u := ⟨_, rfl⟩
      rw [hnx] at hle
      rw [hu] at hle hnx ⊢
      have HN := Lib.hid hnx
      clear hu hnx
      obtain ⟨W3, hW3, HT, HB3, hs3⟩ := one_open wr 40 #[.int .u32 0, .bool false, .int .u16 0, .int .u16 0, .int .u32 0, .string ⟨#[]⟩]
      have s1 : IntKind.i64.wrap ((u : Int) + (x.tx.size : Int)) = ((u + x.tx.size : Nat) : Int) := by rw [IntKind.wrap_i64]; omega
      go_wp2_with (first
        | ((with_reducible refine gate9 ?_); refine ldMg (ty := 40) rfl rfl rfl HRG.out Try.underlying40 rfl infoM ?_)
        | ((with_reducible refine gate9 ?_); refine stB (ty := 40) (cellsMg x) rfl rfl rfl rfl HT.out infoM rfl (cellsMg_one _) ?_; intro w4 ht hg; replace HB3 := Lib.hid (below_of_grown1 HB3.out hg HB3.out.size (Nat.le_refl _)); have t7 := (show Bx w4 wr.heap.size 40 (cellsMg x) from ht).cell 5 (.string x.tx) rfl; clear ht hg))
      go_roundw
      case rel => exact ⟨j + 1, by omega, (by rw [HN.out]; first | rfl | (congr 1)), by go_num, Lib.hid (HW.out.trans (HB3.out.mono HW.out.size))⟩
      case measure => simp [intOf]; omega
    · obtain rfl : j = l.length := by omega
      go_wp2_with fail
      go_ret
      exact ⟨ret_i64 (by rw [HFU.out]), HW.out⟩
set_option maxHeartbeats 2000000 in
theorem owaits_any (l : List Mg) (hl : l.length ≤ 100000) (s : Int) (vn v : Value) (hn : vn.oneCell' = true) (w : World) (h : RowM w v l) :
    Calls Try.prog 20 #[.agg #[vn, v], .int .i64 s] w fun e w' => e = .returned (.int .i64 (waitsN l s : Int)) ∧ Below w.heap.size w w' := by
  obtain ⟨W, hW, HA, HB, hs⟩ := one_open w 27 #[vn, v]
  have HV := Lib.hid h
  obtain ⟨A, cap, rfl, _, _, _⟩ := id h
  have c1 := HA.out.cell 1 (.slice A l.length cap) rfl
  have HFU : Hid (waitsN (l.take l.length) s = waitsN l s) := Lib.hid (by rw [List.take_length])
  have hlI : (l.length : Int) ≤ 100000 := by omega
  have HNX := Lib.hid (fun j h => waits_next l s j h)
  have HLE : Hid (∀ j, waitsN (l.take j) s ≤ l.length) := Lib.hid (fun j => Nat.le_trans (waits_le _ s) (by rw [List.length_take]; omega))
  clear h
  go_enter Try.func20, Try.ntmps20
  go_wp2_with fail
  clear c1 hW
  go_loopw [5, 11] (fun s0 i wr => ∃ j : Nat, j ≤ l.length ∧ s0 = .int .i64 (waitsN (l.take j) s : Int) ∧ i = .int .i64 j ∧ Hid (Below w.heap.size w wr))
    (fun _ i _ => l.length - (intOf i).toNat)
  case atStart => exact ⟨0, Nat.zero_le _, rfl, rfl, HB⟩
  case round =>
    obtain ⟨j, hj, rfl, rfl, HW⟩ := hrel
    by_cases hlt : j < l.length
    · obtain ⟨b, off, c, e9, hb, -, -, hrg⟩ := HV.out.at hlt
      cases e9
      have HRG := Lib.hid (range_below hrg hb HW.out)
      have hle := HLE.out (j + 1)
      have hnx := HNX.out j hlt
      have q1 : (0 : Int) ≤ (j : Int) := by omega
      have q2 : (j : Int) < (l.length : Int) := by omega
      clear hrg
      generalize l[j] = x at *
      obtain ⟨u, hu⟩ : ∃ u, waitsN (l.take j) s = u := ⟨_, rfl⟩
      rw [hnx] at hle
      rw [hu] at hle hnx ⊢
      have HN := Lib.hid hnx
      clear hu hnx
      obtain ⟨W3, hW3, HT, HB3, hs3⟩ := one_open wr 40 #[.int .u32 0, .bool false, .int .u16 0, .int .u16 0, .int .u32 0, .string ⟨#[]⟩]
      obtain ⟨b1, b3⟩ := fit16 x.st
      by_cases hs1 : (x.st.toNat : Int) = s
      · have e1 : ofB s x = true := decide_eq_true hs1
        subst hs1
        rw [e1] at HN hle
        have hle2 : (u : Int) ≤ 100000 := by omega
        replace HN : Hid (waitsN (l.take (j + 1)) (x.st.toNat : Int) = u + 1) := HN
        clear e1 hle
        go_wp2_with (first
        | ((with_reducible refine gate9 ?_); refine ldMg (ty := 40) rfl rfl rfl HRG.out Try.underlying40 rfl infoM ?_)
        | ((with_reducible refine gate9 ?_); refine stB (ty := 40) (cellsMg x) rfl rfl rfl rfl HT.out infoM rfl (cellsMg_one _) ?_; intro w4 ht hg; replace HB3 := Lib.hid (below_of_grown1 HB3.out hg HB3.out.size (Nat.le_refl _)); have t7 := (show Bx w4 wr.heap.size 40 (cellsMg x) from ht).cell 2 (.int .u16 (x.st.toNat : Int)) rfl; clear ht hg))
        go_roundw
        case rel => exact ⟨j + 1, by omega, (by rw [HN.out]; first | rfl | (congr 1)), by go_num, Lib.hid (HW.out.trans (HB3.out.mono HW.out.size))⟩
        case measure => simp [intOf]; omega
      · have e1 : ofB s x = false := decide_eq_false hs1
        have t1 : ((x.st.toNat : Int) == s) = false := by rw [beq_eq_false_iff_ne]; exact hs1
        rw [e1] at HN hle
        have hle2 : (u : Int) ≤ 100000 := by omega
        replace HN : Hid (waitsN (l.take (j + 1)) s = u + 0) := HN
        clear e1 hle
        clear hs1
        go_wp2_with (first
        | ((with_reducible refine gate9 ?_); refine ldMg (ty := 40) rfl rfl rfl HRG.out Try.underlying40 rfl infoM ?_)
        | ((with_reducible refine gate9 ?_); refine stB (ty := 40) (cellsMg x) rfl rfl rfl rfl HT.out infoM rfl (cellsMg_one _) ?_; intro w4 ht hg; replace HB3 := Lib.hid (below_of_grown1 HB3.out hg HB3.out.size (Nat.le_refl _)); have t7 := (show Bx w4 wr.heap.size 40 (cellsMg x) from ht).cell 2 (.int .u16 (x.st.toNat : Int)) rfl; clear ht hg))
        go_roundw
        case rel => exact ⟨j + 1, by omega, (by rw [HN.out]; first | rfl | (congr 1)), by go_num, Lib.hid (HW.out.trans (HB3.out.mono HW.out.size))⟩
        case measure => simp [intOf]; omega
    · obtain rfl : j = l.length := by omega
      go_wp2_with fail
      go_ret
      exact ⟨ret_i64 (by rw [HFU.out]), HW.out⟩
set_option maxHeartbeats 2000000 in
theorem rbytes_any (l : List Mg) (hl : l.length ≤ 100000) (hz : bytesN l ≤ 1000000000) (vn v : Value) (hn : vn.oneCell' = true) (w : World) (h : RowM w v l) :
    Calls Try.prog 23 #[.agg #[vn, v]] w fun e w' => e = .returned (.int .i64 (bytesN l : Int)) ∧ Below w.heap.size w w' := by
  obtain ⟨W, hW, HA, HB, hs⟩ := one_open w 33 #[vn, v]
  have HV := Lib.hid h
  obtain ⟨A, cap, rfl, _, _, _⟩ := id h
  have c1 := HA.out.cell 1 (.slice A l.length cap) rfl
  have HFU : Hid (bytesN (l.take l.length) = bytesN l) := Lib.hid (by rw [List.take_length])
  have hlI : (l.length : Int) ≤ 100000 := by omega
  have HNX := Lib.hid (fun j h => bytes_next l j h)
  have HLE := Lib.hid (bytes_take l)
  clear h
  go_enter Try.func23, Try.ntmps23
  go_wp2_with fail
  go_loopw [3, 4] (fun s0 i wr => ∃ j : Nat, j ≤ l.length ∧ s0 = .int .i64 (bytesN (l.take j) : Int) ∧ i = .int .i64 j ∧ wr = W ∧ True)
    (fun _ i _ => l.length - (intOf i).toNat)
  case atStart => exact ⟨0, Nat.zero_le _, rfl, rfl, rfl, trivial⟩
  case round =>
    obtain ⟨j, hj, rfl, rfl, rfl, -⟩ := hrel
    have HW := HB
    by_cases hlt : j < l.length
    · obtain ⟨b, off, c, e9, hb, -, -, hrg⟩ := HV.out.at hlt
      cases e9
      have HRG := Lib.hid (range_below hrg hb HW.out)
      have hle := HLE.out (j + 1)
      have hnx := HNX.out j hlt
      have q1 : (0 : Int) ≤ (j : Int) := by omega
      have q2 : (j : Int) < (l.length : Int) := by omega
      clear hrg
      generalize l[j] = x at *
      obtain ⟨u, hu⟩ : ∃ u, bytesN (l.take j) = u := ⟨_, rfl⟩
      rw [hnx] at hle
      rw [hu] at hle hnx ⊢
      have HN := Lib.hid hnx
      clear hu hnx
      have s1 : IntKind.i64.wrap ((u : Int) + (x.tx.size : Int)) = ((u + x.tx.size : Nat) : Int) := by rw [IntKind.wrap_i64]; omega
      have x5 := HRG.out 5 (.string x.tx) rfl
      go_wp2_with fail
      go_roundw
      case rel => exact ⟨j + 1, by omega, (by rw [HN.out]; first | rfl | (congr 1)), by go_num, by first | rfl | trivial, trivial⟩
      case measure => simp [intOf]; omega
    · obtain rfl : j = l.length := by omega
      go_wp2_with fail
      go_ret
      exact ⟨ret_i64 (by rw [HFU.out]), HW.out⟩
set_option maxHeartbeats 2000000 in
theorem rwaits_any (l : List Mg) (hl : l.length ≤ 100000) (s : Int) (vn v : Value) (hn : vn.oneCell' = true) (w : World) (h : RowM w v l) :
    Calls Try.prog 21 #[.agg #[vn, v], .int .i64 s] w fun e w' => e = .returned (.int .i64 (waitsN l s : Int)) ∧ Below w.heap.size w w' := by
  obtain ⟨W, hW, HA, HB, hs⟩ := one_open w 33 #[vn, v]
  have HV := Lib.hid h
  obtain ⟨A, cap, rfl, _, _, _⟩ := id h
  have c1 := HA.out.cell 1 (.slice A l.length cap) rfl
  have HFU : Hid (waitsN (l.take l.length) s = waitsN l s) := Lib.hid (by rw [List.take_length])
  have hlI : (l.length : Int) ≤ 100000 := by omega
  have HNX := Lib.hid (fun j h => waits_next l s j h)
  have HLE : Hid (∀ j, waitsN (l.take j) s ≤ l.length) := Lib.hid (fun j => Nat.le_trans (waits_le _ s) (by rw [List.length_take]; omega))
  clear h
  go_enter Try.func21, Try.ntmps21
  go_wp2_with fail
  go_loopw [5, 6] (fun s0 i wr => ∃ j : Nat, j ≤ l.length ∧ s0 = .int .i64 (waitsN (l.take j) s : Int) ∧ i = .int .i64 j ∧ wr = W ∧ True)
    (fun _ i _ => l.length - (intOf i).toNat)
  case atStart => exact ⟨0, Nat.zero_le _, rfl, rfl, rfl, trivial⟩
  case round =>
    obtain ⟨j, hj, rfl, rfl, rfl, -⟩ := hrel
    have HW := HB
    by_cases hlt : j < l.length
    · obtain ⟨b, off, c, e9, hb, -, -, hrg⟩ := HV.out.at hlt
      cases e9
      have HRG := Lib.hid (range_below hrg hb HW.out)
      have hle := HLE.out (j + 1)
      have hnx := HNX.out j hlt
      have q1 : (0 : Int) ≤ (j : Int) := by omega
      have q2 : (j : Int) < (l.length : Int) := by omega
      clear hrg
      generalize l[j] = x at *
      obtain ⟨u, hu⟩ : ∃ u, waitsN (l.take j) s = u := ⟨_, rfl⟩
      rw [hnx] at hle
      rw [hu] at hle hnx ⊢
      have HN := Lib.hid hnx
      clear hu hnx
      obtain ⟨b1, b3⟩ := fit16 x.st
      by_cases hs1 : (x.st.toNat : Int) = s
      · have e1 : ofB s x = true := decide_eq_true hs1
        subst hs1
        rw [e1] at HN hle
        have hle2 : (u : Int) ≤ 100000 := by omega
        replace HN : Hid (waitsN (l.take (j + 1)) (x.st.toNat : Int) = u + 1) := HN
        clear e1 hle
        have x2 := HRG.out 2 (.int .u16 (x.st.toNat : Int)) rfl
        go_wp2_with fail
        go_roundw
        case rel => exact ⟨j + 1, by omega, (by rw [HN.out]; first | rfl | (congr 1)), by go_num, by first | rfl | trivial, trivial⟩
        case measure => simp [intOf]; omega
      · have e1 : ofB s x = false := decide_eq_false hs1
        have t1 : ((x.st.toNat : Int) == s) = false := by rw [beq_eq_false_iff_ne]; exact hs1
        rw [e1] at HN hle
        have hle2 : (u : Int) ≤ 100000 := by omega
        replace HN : Hid (waitsN (l.take (j + 1)) s = u + 0) := HN
        clear e1 hle
        have x2 := HRG.out 2 (.int .u16 (x.st.toNat : Int)) rfl
        clear hs1
        go_wp2_with fail
        go_roundw
        case rel => exact ⟨j + 1, by omega, (by rw [HN.out]; first | rfl | (congr 1)), by go_num, by first | rfl | trivial, trivial⟩
        case measure => simp [intOf]; omega
    · obtain rfl : j = l.length := by omega
      go_wp2_with fail
      go_ret
      exact ⟨ret_i64 (by rw [HFU.out]), HW.out⟩
end Go.Proofs.Ytondgdacjbfihaa
