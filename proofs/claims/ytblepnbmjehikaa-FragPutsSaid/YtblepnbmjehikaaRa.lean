/-
  The document's find, kin, Bytes, Open; the program's Open; pieces and messages as the document has them: contracts.
-/
import Derived.Test.YtblepnbmjehikaaSo
namespace Go.Proofs.Ytblepnbmjehikaa
open Go.RowKit
set_option linter.unusedVariables false
set_option linter.unusedSimpArgs false
set_option maxRecDepth 100000

def isT (t : UInt32) (x : Pc) : Bool := decide (x.ts = t)
theorem idx_none {l : List Pc} {t : UInt32} (h : findT l t = none) : idxP (isT t) l = -1 := by
  unfold idxP
  rw [idxP_none (fun i hi _ => decide_eq_false (find_none.1 h _ (List.getElem_mem hi)))]
theorem idx_some {l : List Pc} {t : UInt32} {a : Pc} (h : findT l t = some a) : ∃ (i : Nat) (hi : i < l.length), idxP (isT t) l = (i : Int) ∧ l[i] = a := by
  unfold findT at h
  cases hf : findL (isT t) l with
  | none =>
    unfold findL at hf
    rw [List.findIdx?_eq_none_iff] at hf
    have h1 := List.mem_of_find?_eq_some h
    have h2 := List.find?_some h
    have := hf a h1
    unfold isT at this
    rw [this] at h2
    cases h2
  | some i =>
    have hf2 := hf
    unfold findL at hf2
    rw [List.findIdx?_eq_some_iff_getElem] at hf2
    obtain ⟨hi, h1, h2⟩ := hf2
    refine ⟨i, hi, by unfold idxP; rw [hf], ?_⟩
    rw [List.find?_eq_some_iff_getElem] at h
    obtain ⟨g1, k, hk, g2, g3⟩ := h
    rcases Nat.lt_trichotomy i k with e | e | e
    · have := g3 i e; unfold isT at h1; simp [h1] at this
    · subst e; exact g2
    · have := h2 k e
      unfold isT at this
      rw [g2, g1] at this
      simp at this
set_option maxHeartbeats 1000000 in
theorem rfind_any (l : List Pc) (t : UInt32) (v : Value) (w : World) (h : RowP w v l) : Calls Try.prog 29 #[v, .int .u32 (t.toNat : Int)] w fun e w' => e = .returned (.int .i64 (idxP (isT t) l)) ∧ w' = w := by
  have HR := Lib.hid h
  obtain ⟨A, cap, rfl, _, hmx, _⟩ := id h
  have hmI : (cap : Int) ≤ 9223372036854775807 := by unfold maxLen at hmx; omega
  have hlc : l.length ≤ cap := by obtain ⟨_, _, e, h1, _⟩ := id h; cases e; exact h1
  have hlI : (l.length : Int) ≤ 9223372036854775807 := by omega
  clear h
  go_enter Try.func29, Try.ntmps29
  go_wp2_with fail
  go_loopw [5] (fun i wr => ∃ j : Nat, wr = w ∧ j ≤ l.length ∧ i = .int .i64 j ∧ Hid (NoneP (isT t) l j))
    (fun i _ => l.length - (intOf i).toNat)
  case atStart => exact ⟨0, rfl, Nat.zero_le _, rfl, Lib.hid (fun i h h0 => absurd h0 (by omega))⟩
  case round =>
    obtain ⟨j, rfl, hj, rfl, HN⟩ := hrel
    by_cases hlt : j < l.length
    · obtain ⟨b, off, cap', e9, hb, hc1, hc2, hrg⟩ := HR.out.at hlt
      cases e9
      have e0 := hrg 0 (.int .u32 (l[j].ts.toNat : Int)) rfl
      rw [Nat.add_zero] at e0
      have HXQ := Lib.hid (idxP_hit (f := isT t) HN.out hlt)
      have HNX : Hid (isT t l[j] = false → NoneP (isT t) l (j + 1)) := Lib.hid (fun hf i hi hij => by
        by_cases e : i = j
        · subst e; exact hf
        · exact HN.out i hi (by omega))
      have q1 : (0 : Int) ≤ (j : Int) := by omega
      have q2 : (j : Int) < (l.length : Int) := by omega
      clear hrg
      generalize l[j] = x at *
      by_cases hx : x.ts = t
      · have HE : Hid (idxP (isT t) l = (j : Int)) := Lib.hid (by unfold idxP; rw [HXQ.out (decide_eq_true hx)])
        have q3 : ((x.ts.toNat : Int) == (t.toNat : Int)) = true := by rw [hx]; simp
        generalize x.ts.toNat = n1 at *
        generalize t.toNat = n2 at *
        clear hx HXQ HNX
        go_wp2_with fail
        go_ret
        exact ⟨ret_i64 (by rw [HE.out]), rfl⟩
      · have HNN := Lib.hid (HNX.out (decide_eq_false hx))
        have q3 : ((x.ts.toNat : Int) == (t.toNat : Int)) = false := by rw [beq_eq_false_iff_ne]; intro e; exact hx (UInt32.toNat_inj.1 (by omega))
        generalize x.ts.toNat = n1 at *
        generalize t.toNat = n2 at *
        clear hx HXQ HNX
        go_wp2_with fail
        go_roundw
        case rel => exact ⟨j + 1, by first | rfl | trivial, by omega, by go_num, HNN⟩
        case measure => simp [intOf]; omega
    · obtain rfl : j = l.length := by omega
      have HE : Hid (idxP (isT t) l = -1) := Lib.hid (by unfold idxP; rw [idxP_none HN.out])
      go_wp2_with fail
      go_ret
      exact ⟨ret_i64 (by rw [HE.out]), rfl⟩
set_option maxHeartbeats 1000000 in
theorem kin_any (p q : Pc) (w : World) : Calls Try.prog 36 #[.agg (cellsPc p), .agg (cellsPc q)] w fun e w' => e = .returned (.bool (kinB p q)) ∧ Below w.heap.size w w' := by
  obtain ⟨W, hW, HP, HQ, HB, hs⟩ := two_open w 47 47 (cellsPc p) (cellsPc q)
  have p3 := HP.out.cell 3 (.bool p.fr) rfl
  have p4 := HP.out.cell 4 (.int .u16 (p.st.toNat : Int)) rfl
  have p5 := HP.out.cell 5 (.int .u16 (p.ss.toNat : Int)) rfl
  have q3 := HQ.out.cell 3 (.bool q.fr) rfl
  have q4 := HQ.out.cell 4 (.int .u16 (q.st.toNat : Int)) rfl
  have q5 := HQ.out.cell 5 (.int .u16 (q.ss.toNat : Int)) rfl
  obtain ⟨r, hr⟩ : ∃ r, kinB p q = r := ⟨_, rfl⟩
  rw [hr]
  have e1 : ((p.st.toNat : Int) == (q.st.toNat : Int)) = decide (p.st = q.st) := by
    by_cases e : p.st = q.st
    · simp [e]
    · rw [decide_eq_false e, beq_eq_false_iff_ne]; intro h; exact e (UInt16.toNat_inj.1 (by omega))
  have e2 : ((p.ss.toNat : Int) == (q.ss.toNat : Int)) = decide (p.ss = q.ss) := by
    by_cases e : p.ss = q.ss
    · simp [e]
    · rw [decide_eq_false e, beq_eq_false_iff_ne]; intro h; exact e (UInt16.toNat_inj.1 (by omega))
  unfold kinB at hr
  generalize decide (p.st = q.st) = b1 at *
  generalize decide (p.ss = q.ss) = b2 at *
  generalize p.fr = pf at *
  generalize q.fr = qf at *
  generalize (p.st.toNat : Int) = n1 at *
  generalize (q.st.toNat : Int) = n2 at *
  generalize (p.ss.toNat : Int) = n3 at *
  generalize (q.ss.toNat : Int) = n4 at *
  have HR := Lib.hid hr
  clear hr
  cases pf <;> cases qf <;> cases b1 <;> cases b2 <;> (
    go_enter Try.func36, Try.ntmps36
    go_wp2_with fail
    go_ret
    exact ⟨ret_bool (by rw [← HR.out]; rfl), HB.out⟩)
theorem one_any (p : Pc) (w : World) : Calls Try.prog 16 #[.agg (cellsPc p)] w fun e w' => e = .returned (.agg (cellsPc p)) ∧ Below w.heap.size w w' := by
  obtain ⟨W, hW, HP, HZ, HB, hs⟩ := two_open w 43 47 (cellsPc p) #[.int .u32 0, .bool false, .bool false, .bool false, .int .u16 0, .int .u16 0, .int .u32 0, .string ⟨#[]⟩]
  have p0 := HP.out.cell 0 (.int .u32 (p.ts.toNat : Int)) rfl
  have p1 := HP.out.cell 1 (.bool p.bg) rfl
  have p2 := HP.out.cell 2 (.bool p.en) rfl
  have p3 := HP.out.cell 3 (.bool p.fr) rfl
  have p4 := HP.out.cell 4 (.int .u16 (p.st.toNat : Int)) rfl
  have p5 := HP.out.cell 5 (.int .u16 (p.ss.toNat : Int)) rfl
  have p6 := HP.out.cell 6 (.int .u32 (p.pp.toNat : Int)) rfl
  have p7 := HP.out.cell 7 (.string p.tx) rfl
  go_enter Try.func16, Try.ntmps16
  go_wp2_with ((with_reducible refine gate9 ?_); refine stB (ty := 47) (cellsPc p) rfl rfl rfl rfl HZ.out infoRP rfl (cellsPc_one _) ?_; intro w9 ht hg; replace HB := Lib.hid (below_of_grown1 HB.out hg HB.out.size (by omega)); replace HZ := Lib.hid ht; clear ht hg)
  exact bodyPost_ret (retRP rfl rfl rfl HZ.out) rfl ⟨rfl, HB.out⟩
theorem told_any (m : Mg) (w : World) : Calls Try.prog 20 #[.agg (cellsMg m)] w fun e w' => e = .returned (.agg (cellsMg m)) ∧ Below w.heap.size w w' := by
  obtain ⟨W, hW, HP, HZ, HB, hs⟩ := two_open w 39 44 (cellsMg m) #[.int .u32 0, .bool false, .int .u16 0, .int .u16 0, .int .u32 0, .string ⟨#[]⟩]
  have p0 := HP.out.cell 0 (.int .u32 (m.fi.toNat : Int)) rfl
  have p1 := HP.out.cell 1 (.bool m.fr) rfl
  have p2 := HP.out.cell 2 (.int .u16 (m.st.toNat : Int)) rfl
  have p3 := HP.out.cell 3 (.int .u16 (m.ss.toNat : Int)) rfl
  have p4 := HP.out.cell 4 (.int .u32 (m.pp.toNat : Int)) rfl
  have p5 := HP.out.cell 5 (.string m.tx) rfl
  go_enter Try.func20, Try.ntmps20
  go_wp2_with ((with_reducible refine gate9 ?_); refine stB (ty := 44) (cellsMg m) rfl rfl rfl rfl HZ.out infoRM rfl (cellsMg_one _) ?_; intro w9 ht hg; replace HB := Lib.hid (below_of_grown1 HB.out hg HB.out.size (by omega)); replace HZ := Lib.hid ht; clear ht hg)
  exact bodyPost_ret (retRM rfl rfl rfl HZ.out) rfl ⟨rfl, HB.out⟩
end Go.Proofs.Ytblepnbmjehikaa
