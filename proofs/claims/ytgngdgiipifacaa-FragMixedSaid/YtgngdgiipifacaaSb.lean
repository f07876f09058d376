/-
  Package frag: copies, the map of a bag, whether a row goes on: contracts.
-/
import Derived.Test.YtgngdgiipifacaaSa
namespace Go.Proofs.Ytgngdgiipifacaa
open Go.RowKit
set_option linter.unusedVariables false
set_option linter.unusedSimpArgs false
set_option maxRecDepth 100000

/-- What append is fed with: paths that lie in a row. -/
theorem fedP {w : World} {a : Addr} {cap : Nat} {l : List Pc} (h : RowP w (.slice (some a) l.length cap) l) : ∀ j u, (flatP l)[j]? = some u → w.cell? (a.add j) = some u := by
  obtain ⟨A', cap', hv, _, _, hc⟩ := h
  cases hv
  intro j u hu
  have hj : j < l.length * 8 := by have := (List.getElem?_eq_some_iff.1 hu).1; rw [flatP_length] at this; exact this
  obtain ⟨b, off, e, hlt, hcell⟩ := hc (by omega)
  cases e
  rw [addr_plain]
  have hj2 : j / 8 < l.length := by omega
  have hjm : j % 8 < 8 := Nat.mod_lt _ (by omega)
  have e1 : j = j / 8 * 8 + j % 8 := by omega
  have hu' : (cellsPc l[j / 8]).toList[j % 8]? = some u := by rw [← flatP_at l (j / 8) (j % 8) hj2 hjm, ← e1]; exact hu
  have := hcell (j / 8) hj2 (j % 8) u hu'
  rw [Nat.add_assoc, ← e1] at this
  exact this
set_option maxHeartbeats 1000000 in
theorem clone_any (l : List Pc) (hl : l.length ≤ 100000) (v : Value) (w : World) (h : RowP w v l) :
    Calls Try.prog 24 #[v] w fun e w' => ∃ v', e = .returned v' ∧ w'.ownsRow w.heap.size 43 8 v' l.length (flatP l) ∧ Below w.heap.size w w' := by
  obtain ⟨A, cap, rfl, hcap, hmax, hcells⟩ := id h
  have q22 : ∀ (w : World) (a : Option Addr) (n c n' c' : Nat), (binOp .eql 29 (.slice a n c) (.slice none n' c')).run Try.prog w = .ok (.bool a.isNone) w := fun w a n c n' c' => Lib.run_eql_slice_nil w _ _ a n c n' c' Try.underlying29
  by_cases hA : A = none
  · subst hA
    have h0 : l.length = 0 := by
      by_cases h1 : 0 < l.length
      · obtain ⟨b, off, e, _⟩ := hcells h1
        cases e
      · omega
    obtain rfl : l = [] := List.eq_nil_of_length_eq_zero h0
    clear h hcells
    go_enter Try.func24, Try.ntmps24
    go_wp2_with fail
    go_ret
    exact ⟨_, rfl, ⟨rfl, .inl ⟨rfl, rfl⟩⟩, Below.refl _ _⟩
  · obtain ⟨a, rfl⟩ := Option.ne_none_iff_exists'.1 hA
    obtain ⟨i0, hi0, hz0, hz1, hz2⟩ := info_parts infoPZ
    have HI := Lib.hid hi0
    have HZ0 := Lib.hid hz0
    have HZ1 := Lib.hid hz1
    have HZ2 := Lib.hid hz2
    have HF := Lib.hid (fedP (h.below ((Below.refl w.heap.size w).alloc (Nat.le_refl _) (.cells #[] 43))))
    clear h hcells hi0 hz0 hz1 hz2 hA
    have HO := Lib.hid (World.ownsRow_lit w (base := w.heap.size) (e := 43) (size := 8) #[] 0 (Nat.le_refl _) (Nat.zero_le _) rfl)
    have HL := Lib.hid (flatP_length l)
    have H1 := Lib.hid (flatP_one l)
    go_enter Try.func24, Try.ntmps24
    go_wp2_with (at_builtin; refine wpList_append_own _ rfl _ _ 29 rfl w.heap.size 43 i0 _ 8 32 Try.underlying29 HI.out HZ0.out HZ1.out HZ2.out rfl (by decide) _ 0 [] rfl HO.out a l.length cap _ rfl HL.out HF.out H1.out ?c3 ?c4 ?c5 ?_)
    case c3 => unfold maxLen; omega
    case c4 => omega
    intro v' w1 hown hgrow _
    have HO2 := Lib.hid hown
    have HB := Lib.hid (((Below.refl w.heap.size w).alloc (Nat.le_refl _) (.cells #[] 43)).grown hgrow (by rw [World.size_alloc]; omega) (fun k hk => by cases hk; exact Nat.le_refl _))
    clear hown hgrow
    go_wp2_with fail
    go_ret
    exact ⟨_, rfl, by have := HO2.out; simpa using this, HB.out⟩
theorem own_form2 {w : World} {base size n : Nat} {e : TypeId} {v : Value} {xs : List Value} (h : w.ownsRow base e size v n xs) : ∃ A cap, v = .slice A n cap ∧ n ≤ cap ∧ cap ≤ maxLen := by
  obtain ⟨A, cap, h1, h2, h3, _⟩ := own_slice h
  exact ⟨A, cap, h1, h2, h3⟩
theorem ownP_keep {w w' : World} {B size n : Nat} {T : TypeId} {v : Value} {xs : List Value} {k : Nat} (h : w.ownsRow B T size v n xs) (hg : w.grownBy w' (some k)) (hk : k < B) : w'.ownsRow B T size v n xs := by
  refine ⟨h.1, ?_⟩
  rcases h.2 with h0 | ⟨g, cap, cur, rfl, hB, hh, r⟩
  · exact .inl h0
  · exact .inr ⟨g, cap, cur, rfl, hB, (hg.block g (Array.getElem?_eq_some_iff.1 hh).1 (by simp; omega)).trans hh, r⟩
theorem ownsCh {S : Nat → Prop} {w w' : World} {B size n : Nat} {T : TypeId} {v : Value} {xs : List Value} (h : w.ownsRow B T size v n xs) (hc : Ch S w w') (hk : ∀ k, S k → k < B) : w'.ownsRow B T size v n xs := by
  refine ⟨h.1, ?_⟩
  rcases h.2 with h0 | ⟨g, cap, cur, rfl, hB, hh, r⟩
  · exact .inl h0
  · exact .inr ⟨g, cap, cur, rfl, hB, (hc.block g (Array.getElem?_eq_some_iff.1 hh).1 (fun hs => by have := hk g hs; omega)).trans hh, r⟩
section
variable {P : Program} {ops : Array Oper} {rest : List Oper} {o : Oper} {a : Act} {w : World} {Q : Exit → Act → World → Prop}
/-- A piece of a row is loaded. -/
theorem ldPc {ty : TypeId} {x : Operand} {g i : Nat} {z : Pc} {d : TypeDesc} (hgd : o.guard = none) (ho : o.op = .load ty x) (hx : a.eval x = .pointer (some ⟨g, i, none⟩)) (h : w.rangeAt g i (cellsPc z).toList)
    (hu : P.underlying ty = some d) (hd : d.isRow = true) (hi : (P.info? ty).map (·.size) = some 8)
    (hk : wpList P ops Q rest (a.put o.dst (.agg (cellsPc z))) w) : wpList P ops Q (o :: rest) a w :=
  ldP hgd ho hx h hu hd hi (by simpa using hk)
theorem yPc {S : World → Prop} {op : Oper} {ty : TypeId} {x : Operand} {g i : Nat} {z : Pc} {d : TypeDesc} (hw : Region.wanted op (yielded ops a.tmps) = true) (ho : op.op = .load ty x) (hx : a.eval x = .pointer (some ⟨g, i, none⟩)) (hS : ∀ w, S w → w.rangeAt g i (cellsPc z).toList)
    (hu : P.underlying ty = some d) (hd : d.isRow = true) (hi : (P.info? ty).map (·.size) = some 8) : YieldsIf P ops S op (.agg (cellsPc z)) a := by
  have := yieldsIf_load_mid (P := P) (ops := ops) (S := S) hw ty x ho g i hx (cellsPc z).toList d hS hu hd hi
  simpa using this
end
/-- Row l of v, by place. -/
theorem RowP.at {w : World} {v : Value} {l : List Pc} (h : RowP w v l) {j : Nat} (hj : j < l.length) : ∃ b off cap, v = .slice (some ⟨b, off, none⟩) l.length cap ∧ b < w.heap.size ∧ l.length ≤ cap ∧ cap ≤ maxLen ∧ w.rangeAt b (off + j * 8) (cellsPc l[j]).toList := by
  obtain ⟨A, cap, rfl, h1, h2, h3⟩ := h
  obtain ⟨b, off, rfl, hb, hc⟩ := h3 (by omega)
  exact ⟨b, off, cap, rfl, hb, h1, h2, hc j hj⟩
open Go.Maps
set_option maxHeartbeats 1000000 in
theorem goes_any (p q : Pc) (w : World) : Calls Try.prog 31 #[.agg (cellsPc p), .agg (cellsPc q)] w fun e w' => e = .returned (.bool (goesB p q)) ∧ Below w.heap.size w w' := by
  obtain ⟨W, hW, HP, HQ, HB, hs⟩ := two_open w 43 43 (cellsPc p) (cellsPc q)
  have p2 := HP.out.cell 2 (.bool p.en) rfl
  have p3 := HP.out.cell 3 (.bool p.fr) rfl
  have p4 := HP.out.cell 4 (.int .u16 (p.st.toNat : Int)) rfl
  have p5 := HP.out.cell 5 (.int .u16 (p.ss.toNat : Int)) rfl
  have q1 := HQ.out.cell 1 (.bool q.bg) rfl
  have q3 := HQ.out.cell 3 (.bool q.fr) rfl
  have q4 := HQ.out.cell 4 (.int .u16 (q.st.toNat : Int)) rfl
  have q5 := HQ.out.cell 5 (.int .u16 (q.ss.toNat : Int)) rfl
  obtain ⟨r, hr⟩ : ∃ r, goesB p q = r := ⟨_, rfl⟩
  rw [hr]
  have e1 : ((p.st.toNat : Int) == (q.st.toNat : Int)) = decide (p.st = q.st) := by
    by_cases e : p.st = q.st
    · simp [e]
    · rw [decide_eq_false e, beq_eq_false_iff_ne]; intro h; exact e (UInt16.toNat_inj.1 (by omega))
  have e2 : ((p.ss.toNat : Int) == (q.ss.toNat : Int)) = decide (p.ss = q.ss) := by
    by_cases e : p.ss = q.ss
    · simp [e]
    · rw [decide_eq_false e, beq_eq_false_iff_ne]; intro h; exact e (UInt16.toNat_inj.1 (by omega))
  unfold goesB kinB at hr
  generalize decide (p.st = q.st) = b1 at *
  generalize decide (p.ss = q.ss) = b2 at *
  generalize p.en = pe at *
  generalize q.bg = qb at *
  generalize p.fr = pf at *
  generalize q.fr = qf at *
  generalize (p.st.toNat : Int) = n1 at *
  generalize (q.st.toNat : Int) = n2 at *
  generalize (p.ss.toNat : Int) = n3 at *
  generalize (q.ss.toNat : Int) = n4 at *
  have HR := Lib.hid hr
  clear hr
  cases pe with
  | true =>
    go_enter Try.func31, Try.ntmps31
    go_wp2_with fail
    go_ret
    exact ⟨ret_bool (by rw [← HR.out]; rfl), HB.out⟩
  | false =>
    cases qb with
    | true =>
      go_enter Try.func31, Try.ntmps31
      go_wp2_with fail
      go_ret
      exact ⟨ret_bool (by rw [← HR.out]; rfl), HB.out⟩
    | false =>
      cases pf <;> cases qf <;> cases b1 <;> cases b2 <;> (
        go_enter Try.func31, Try.ntmps31
        go_wp2_with fail
        go_ret
        exact ⟨ret_bool (by rw [← HR.out]; rfl), HB.out⟩)
theorem findT_take (l : List Pc) (j : Nat) (h : j < l.length) (hl : (l.map (·.ts)).Nodup) : (fun t => if t = l[j].ts then some l[j] else findT (l.take j) t) = findT (l.take (j + 1)) := by
  funext t
  rw [List.take_succ_eq_append_getElem h, find_append, find_one]
  by_cases e : t = l[j].ts
  · subst e
    rw [if_pos rfl, if_pos rfl]
    have hn : findT (l.take j) l[j].ts = none := by
      rw [find_none]
      intro x hx e
      obtain ⟨i, hi, rfl⟩ := List.getElem_of_mem hx
      rw [List.getElem_take] at e
      rw [List.length_take] at hi
      have h2 := (List.nodup_iff_pairwise_ne.1 hl)
      rw [List.pairwise_iff_getElem] at h2
      exact h2 i j (by rw [List.length_map]; omega) (by rw [List.length_map]; exact h) (by omega) (by rw [List.getElem_map, List.getElem_map]; exact e)
    rw [hn]; rfl
  · rw [if_neg e, if_neg (fun h => e h.symm), Option.or_none]
set_option maxHeartbeats 1000000 in
theorem byTsn_any (l : List Pc) (hl : l.length ≤ 1000) (hnd : (l.map (·.ts)).Nodup) (v : Value) (w : World) (h : RowP w v l) :
    Calls Try.prog 23 #[.agg #[v]] w fun e w' => ∃ b n, e = .returned (.map (some b)) ∧ MapF w' b n (findT l) ∧ n ≤ l.length ∧ w.heap.size ≤ b ∧ Below w.heap.size w w' := by
  obtain ⟨W, hW, HA, HB, hs⟩ := one_open w 32 #[v]
  have HV := Lib.hid h
  have HR := Lib.hid (h.below HB.out)
  obtain ⟨A, cap, rfl, _, hmx, _⟩ := id h
  have c0 := HA.out.cell 0 (.slice A l.length cap) rfl
  have hmm := run_makeMapN
  obtain ⟨W2, hW2⟩ : ∃ W2, W.alloc (.map #[] 0) = W2 := ⟨_, rfl⟩
  obtain ⟨g, hg⟩ : ∃ g, W.heap.size = g := ⟨_, rfl⟩
  have HM0 : Hid (MapF W2 g 0 (findT (l.take 0))) := Lib.hid (by have := MapF.made W; rw [hW2, hg] at this; exact this)
  have HB2 : Hid (Below w.heap.size w W2) := Lib.hid (by rw [← hW2]; exact HB.out.alloc (by omega) _)
  replace HR := Lib.hid (HR.out.below (show Below W.heap.size W W2 by rw [← hW2]; exact below_one _ _))
  have c02 : W2.cell? ⟨w.heap.size, 0, none⟩ = some (.slice A l.length cap) := by rw [← hW2]; exact (HA.out.later (below_one _ _)).cell 0 (.slice A l.length cap) rfl
  have HNX := Lib.hid (fun j h => findT_take l j h hnd)
  have HFU : Hid (findT (l.take l.length) = findT l) := Lib.hid (by rw [List.take_length])
  have hgw : w.heap.size ≤ g := by omega
  have q0 : (l.length : Int) ≤ 1000 := by omega
  clear h hs
  go_enter Try.func23, Try.ntmps23
  go_wp2_with fail
  go_loopw [14] (fun i wr => ∃ j : Nat, j ≤ l.length ∧ i = .int .i64 j ∧ Hid (MapF wr g j (findT (l.take j))) ∧ Hid (Below w.heap.size w wr))
    (fun i _ => l.length - (intOf i).toNat)
  case atStart => exact ⟨0, Nat.zero_le _, rfl, HM0, HB2⟩
  case round =>
    clear HM0 hW hW2 c0 c02 HB2 HB HA HR
    obtain ⟨j, hj, rfl, HM, HW⟩ := hrel
    by_cases hlt : j < l.length
    · obtain ⟨b, off, cap', e9, hb, hc1, hc2, hrg⟩ := HV.out.at hlt
      cases e9
      have HRG := Lib.hid (range_below hrg hb HW.out)
      have HN := Lib.hid (HNX.out j hlt)
      have q1 : (0 : Int) ≤ (j : Int) := by omega
      have q2 : (j : Int) < (l.length : Int) := by omega
      clear hrg
      generalize l[j] = x at *
      obtain ⟨W3, hW3, HT, HB3, hs3⟩ := one_open wr 43 #[.int .u32 0, .bool false, .bool false, .bool false, .int .u16 0, .int .u16 0, .int .u32 0, .string ⟨#[]⟩]
      have hgl := HM.out.lt
      replace HM := Lib.hid (HM.out.later HB3.out)
      go_wp2_with (first
        | ((with_reducible refine gate9 ?_); refine ldPc (ty := 43) rfl rfl rfl HRG.out Try.underlying43 rfl infoP ?_)
        | ((with_reducible refine gate9 ?_); refine stB (ty := 43) (cellsPc x) rfl rfl rfl rfl HT.out infoP rfl (cellsPc_one _) ?_; intro w4 ht hg; replace HB3 := Lib.hid (below_of_grown1 HB3.out hg HB3.out.size (Nat.le_refl _)); replace HM := Lib.hid (HM.out.kept hg (by simp; omega)); replace HT := Lib.hid ht; have t0 := HT.out.cell 0 (.int .u32 (x.ts.toNat : Int)) rfl; clear ht hg)
        | ((with_reducible refine gate9 ?_); refine ldB rfl rfl rfl HT.out Try.underlying43 rfl infoP ?_)
        | ((with_reducible refine gate9 ?_); refine storeF rfl _ _ _ rfl x HM.out (by unfold maxLen; omega) rfl rfl rfl ?_; intro w5 hm hg; replace HW := Lib.hid (below_of_grown1 (HW.out.trans (HB3.out.mono HW.out.size)) hg (HW.out.trans (HB3.out.mono HW.out.size)).size hgw); replace HM := Lib.hid hm; clear hm hg t0))
      go_roundw
      case rel => exact ⟨j + 1, by omega, by go_num, Lib.hid (by rw [← HN.out]; exact HM.out), HW⟩
      case measure => simp [intOf]; omega
    · obtain rfl : j = l.length := by omega
      rw [HFU.out] at HM
      go_wp2_with fail
      go_ret
      exact ⟨g, l.length, rfl, HM.out, Nat.le_refl _, hgw, HW.out⟩
end Go.Proofs.Ytgngdgiipifacaa
