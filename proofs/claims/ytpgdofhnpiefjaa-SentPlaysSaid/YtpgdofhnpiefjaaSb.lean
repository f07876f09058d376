/-
  Package sent: copies, what is under way, what is lost: contracts.
-/
import Derived.Test.YtpgdofhnpiefjaaSa
namespace Go.Proofs.Ytpgdofhnpiefjaa
open Go.RowKit
set_option linter.unusedVariables false
set_option linter.unusedSimpArgs false
set_option maxRecDepth 100000

/-- What append is fed with: paths that lie in a row. -/
theorem fedP {w : World} {a : Addr} {cap : Nat} {l : List Pc} (h : RowP w (.slice (some a) l.length cap) l) : ∀ j u, (flatP l)[j]? = some u → w.cell? (a.add j) = some u := by
  obtain ⟨A', cap', hv, _, _, hc⟩ := h
  cases hv
  intro j u hu
  have hj : j < l.length * 7 := by have := (List.getElem?_eq_some_iff.1 hu).1; rw [flatP_length] at this; exact this
  obtain ⟨b, off, e, hlt, hcell⟩ := hc (by omega)
  cases e
  rw [addr_plain]
  have hj2 : j / 7 < l.length := by omega
  have hjm : j % 7 < 7 := Nat.mod_lt _ (by omega)
  have e1 : j = j / 7 * 7 + j % 7 := by omega
  have hu' : (cellsPc l[j / 7]).toList[j % 7]? = some u := by rw [← flatP_at l (j / 7) (j % 7) hj2 hjm, ← e1]; exact hu
  have := hcell (j / 7) hj2 (j % 7) u hu'
  rw [Nat.add_assoc, ← e1] at this
  exact this
set_option maxHeartbeats 1000000 in
theorem clone_any (l : List Pc) (hl : l.length ≤ 100000) (v : Value) (w : World) (h : RowP w v l) :
    Calls Try.prog 22 #[v] w fun e w' => ∃ v', e = .returned v' ∧ w'.ownsRow w.heap.size 58 7 v' l.length (flatP l) ∧ Below w.heap.size w w' := by
  obtain ⟨A, cap, rfl, hcap, hmax, hcells⟩ := id h
  have q22 : ∀ (w : World) (a : Option Addr) (n c n' c' : Nat), (binOp .eql 25 (.slice a n c) (.slice none n' c')).run Try.prog w = .ok (.bool a.isNone) w := fun w a n c n' c' => Lib.run_eql_slice_nil w _ _ a n c n' c' Try.underlying25
  by_cases hA : A = none
  · subst hA
    have h0 : l.length = 0 := by
      by_cases h1 : 0 < l.length
      · obtain ⟨b, off, e, _⟩ := hcells h1
        cases e
      · omega
    obtain rfl : l = [] := List.eq_nil_of_length_eq_zero h0
    clear h hcells
    go_enter Try.func22, Try.ntmps22
    go_wp2_with fail
    go_ret
    exact ⟨_, rfl, ⟨rfl, .inl ⟨rfl, rfl⟩⟩, Below.refl _ _⟩
  · obtain ⟨a, rfl⟩ := Option.ne_none_iff_exists'.1 hA
    obtain ⟨i0, hi0, hz0, hz1, hz2⟩ := info_parts infoPZ
    have HI := Lib.hid hi0
    have HZ0 := Lib.hid hz0
    have HZ1 := Lib.hid hz1
    have HZ2 := Lib.hid hz2
    have HF := Lib.hid (fedP (h.below ((Below.refl w.heap.size w).alloc (Nat.le_refl _) (.cells #[] 58))))
    clear h hcells hi0 hz0 hz1 hz2 hA
    have HO := Lib.hid (World.ownsRow_lit w (base := w.heap.size) (e := 58) (size := 7) #[] 0 (Nat.le_refl _) (Nat.zero_le _) rfl)
    have HL := Lib.hid (flatP_length l)
    have H1 := Lib.hid (flatP_one l)
    go_enter Try.func22, Try.ntmps22
    go_wp2_with (at_builtin; refine wpList_append_own _ rfl _ _ 25 rfl w.heap.size 58 i0 _ 7 56 Try.underlying25 HI.out HZ0.out HZ1.out HZ2.out rfl (by decide) _ 0 [] rfl HO.out a l.length cap _ rfl HL.out HF.out H1.out ?c3 ?c4 ?c5 ?_)
    case c3 => unfold maxLen; omega
    case c4 => omega
    intro v' w1 hown hgrow _
    have HO2 := Lib.hid hown
    have HB := Lib.hid (((Below.refl w.heap.size w).alloc (Nat.le_refl _) (.cells #[] 58)).grown hgrow (by rw [World.size_alloc]; omega) (fun k hk => by cases hk; exact Nat.le_refl _))
    clear hown hgrow
    go_wp2_with fail
    go_ret
    exact ⟨_, rfl, by have := HO2.out; simpa using this, HB.out⟩
theorem own_form2 {w : World} {base size n : Nat} {e : TypeId} {v : Value} {xs : List Value} (h : w.ownsRow base e size v n xs) : ∃ A cap, v = .slice A n cap ∧ n ≤ cap ∧ cap ≤ maxLen := by
  obtain ⟨A, cap, h1, h2, h3, _⟩ := own_slice h
  exact ⟨A, cap, h1, h2, h3⟩
theorem ownP_keep {w w' : World} {B size n : Nat} {T : TypeId} {v : Value} {xs : List Value} {k : Nat} (h : w.ownsRow B T size v n xs) (hg : w.grownBy w' (some k)) (hk : k < B) : w'.ownsRow B T size v n xs := by
  refine ⟨h.1, ?_⟩
  rcases h.2 with h0 | ⟨g, cap, cur, rfl, hB, hh, r⟩
  · exact .inl h0
  · exact .inr ⟨g, cap, cur, rfl, hB, (hg.block g (Array.getElem?_eq_some_iff.1 hh).1 (by simp; omega)).trans hh, r⟩
theorem ownsCh {S : Nat → Prop} {w w' : World} {B size n : Nat} {T : TypeId} {v : Value} {xs : List Value} (h : w.ownsRow B T size v n xs) (hc : Ch S w w') (hk : ∀ k, S k → k < B) : w'.ownsRow B T size v n xs := by
  refine ⟨h.1, ?_⟩
  rcases h.2 with h0 | ⟨g, cap, cur, rfl, hB, hh, r⟩
  · exact .inl h0
  · exact .inr ⟨g, cap, cur, rfl, hB, (hc.block g (Array.getElem?_eq_some_iff.1 hh).1 (fun hs => by have := hk g hs; omega)).trans hh, r⟩
set_option maxHeartbeats 1000000 in
theorem copied_any (c : UInt32) (l : List Pc) (hl : l.length ≤ 100000) (v : Value) (w : World) (h : RowP w v l) :
    Calls Try.prog 19 #[.agg #[.int .u32 (c.toNat : Int), v]] w fun e w' => ∃ A k, e = .returned (.agg #[.int .u32 (c.toNat : Int), .slice A l.length k]) ∧ w'.ownsRow w.heap.size 58 7 (.slice A l.length k) l.length (flatP l) ∧ Below w.heap.size w w' := by
  obtain ⟨W, hW, HA, HZ, HB, hs⟩ := two_open w 27 27 #[.int .u32 (c.toNat : Int), v] #[.int .u32 0, .slice none 0 0]
  have HC := Lib.hid (fun W h => clone_any l hl v W h)
  have HR := Lib.hid (show RowP W v l from h.below HB.out)
  obtain ⟨A, cap, rfl, _, _, _⟩ := h
  have c1 := HA.out.cell 1 _ rfl
  go_enter Try.func19, Try.ntmps19
  go_wp2_with fail
  refine (HC.out _ HR.out).mono ?_
  rintro e w1 ⟨v1, rfl, hown, hb⟩
  obtain ⟨A1, cap1, rfl, _, _⟩ := own_form2 hown
  clear c1 hW HR
  replace HA := Lib.hid (HA.out.later hb)
  replace HZ := Lib.hid (HZ.out.later hb)
  replace HB := Lib.hid (HB.out.trans (hb.mono (by omega)))
  have HO := Lib.hid (own_base hown (show w.heap.size + 2 ≤ W.heap.size by omega))
  have hs1 : w.heap.size + 2 ≤ w1.heap.size := by have := hb.size; omega
  clear hb hown
  go_wp2_with (first
    | ((with_reducible refine gate9 ?_); refine stF (.slice A1 l.length cap1) rfl rfl rfl rfl HA.out (by show 1 < 2; decide) infoSL rfl ?_; intro w2 ht hg; replace HZ := Lib.hid (HZ.out.kept hg (by omega)); replace HB := Lib.hid (below_of_grown1 HB.out hg HB.out.size (by omega)); replace HO := Lib.hid (ownP_keep HO.out hg (by omega)); replace HA := Lib.hid ht; clear ht hg)
    | ((with_reducible refine gate9 ?_); refine ldB rfl rfl rfl HA.out Try.underlying27 rfl infoS ?_)
    | ((with_reducible refine gate9 ?_); refine stB #[.int .u32 (c.toNat : Int), .slice A1 l.length cap1] rfl rfl rfl rfl HZ.out infoS rfl (cellsS_one _ _ _ _) ?_; intro w2 ht hg; replace HB := Lib.hid (below_of_grown1 HB.out hg HB.out.size (by omega)); replace HO := Lib.hid (ownP_keep HO.out hg (by omega)); replace HZ := Lib.hid ht; clear ht hg))
  exact bodyPost_ret (retS rfl rfl rfl HZ.out) rfl ⟨_, _, rfl, own_base HO.out (by omega), HB.out⟩
section
variable {P : Program} {ops : Array Oper} {rest : List Oper} {o : Oper} {a : Act} {w : World} {Q : Exit → Act → World → Prop}
/-- A piece of a row is loaded. -/
theorem ldPc {ty : TypeId} {x : Operand} {g i : Nat} {z : Pc} {d : TypeDesc} (hgd : o.guard = none) (ho : o.op = .load ty x) (hx : a.eval x = .pointer (some ⟨g, i, none⟩)) (h : w.rangeAt g i (cellsPc z).toList)
    (hu : P.underlying ty = some d) (hd : d.isRow = true) (hi : (P.info? ty).map (·.size) = some 7)
    (hk : wpList P ops Q rest (a.put o.dst (.agg (cellsPc z))) w) : wpList P ops Q (o :: rest) a w :=
  ldP hgd ho hx h hu hd hi (by simpa using hk)
theorem yPc {S : World → Prop} {op : Oper} {ty : TypeId} {x : Operand} {g i : Nat} {z : Pc} {d : TypeDesc} (hw : Region.wanted op (yielded ops a.tmps) = true) (ho : op.op = .load ty x) (hx : a.eval x = .pointer (some ⟨g, i, none⟩)) (hS : ∀ w, S w → w.rangeAt g i (cellsPc z).toList)
    (hu : P.underlying ty = some d) (hd : d.isRow = true) (hi : (P.info? ty).map (·.size) = some 7) : YieldsIf P ops S op (.agg (cellsPc z)) a := by
  have := yieldsIf_load_mid (P := P) (ops := ops) (S := S) hw ty x ho g i hx (cellsPc z).toList d hS hu hd hi
  simpa using this
end
/-- Row l of v, by place. -/
theorem RowP.at {w : World} {v : Value} {l : List Pc} (h : RowP w v l) {j : Nat} (hj : j < l.length) : ∃ b off cap, v = .slice (some ⟨b, off, none⟩) l.length cap ∧ b < w.heap.size ∧ l.length ≤ cap ∧ cap ≤ maxLen ∧ w.rangeAt b (off + j * 7) (cellsPc l[j]).toList := by
  obtain ⟨A, cap, rfl, h1, h2, h3⟩ := h
  obtain ⟨b, off, rfl, hb, hc⟩ := h3 (by omega)
  exact ⟨b, off, cap, rfl, hb, h1, h2, hc j hj⟩
set_option maxHeartbeats 1000000 in
theorem under_any (c : UInt32) (l : List Pc) (p : Int) (hl : l.length ≤ 1000) (hok : ∀ x ∈ l, OkPc x) (v : Value) (w : World) (h : RowP w v l) :
    Calls Try.prog 8 #[.agg #[.int .u32 (c.toNat : Int), v], .int .i64 p] w fun e w' => e = .returned (.int .i64 (underL p l)) ∧ Below w.heap.size w w' := by
  obtain ⟨W, hW, HA, HB, hs⟩ := one_open w 27 #[.int .u32 (c.toNat : Int), v]
  have HR := Lib.hid (h.below HB.out)
  obtain ⟨A, cap, rfl, _, hmx, _⟩ := id h
  have c1 := HA.out.cell 1 (.slice A l.length cap) rfl
  have HOK := Lib.hid hok
  have HOUT := Lib.hid (fun x W => out_any x p W)
  have HEND := Lib.hid (show underL p (l.take l.length) = underL p l by rw [List.take_length])
  have HST := Lib.hid (show underL p (l.take 0) = 0 from rfl)
  have HPRE := Lib.hid (fun j => sumZ_pre (outB p) hok j)
  clear h hok
  go_enter Try.func8, Try.ntmps8
  go_wp2_with fail
  go_loopw [5, 11] (fun s i wr => ∃ j : Nat, j ≤ l.length ∧ s = .int .i64 (underL p (l.take j)) ∧ i = .int .i64 j ∧ Hid (Below W.heap.size W wr))
    (fun _ i _ => l.length - (intOf i).toNat)
  case atStart => exact ⟨0, Nat.zero_le _, by rw [HST.out], rfl, Lib.hid (Below.refl _ _)⟩
  case round =>
    obtain ⟨j, hj, rfl, rfl, HW⟩ := hrel
    have hu : 0 ≤ underL p (l.take j) ∧ underL p (l.take j) ≤ 1500 * (l.length : Int) := HPRE.out j
    by_cases hlt : j < l.length
    · obtain ⟨b, off, cap', e9, hb, hc1, hc2, hrg⟩ := HR.out.at hlt
      cases e9
      have HRG := Lib.hid (range_below hrg hb HW.out)
      have HNX : Hid (underL p (l.take (j + 1)) = underL p (l.take j) + if outB p l[j] then l[j].sz else 0) := Lib.hid (sumZ_take (outB p) l j hlt)
      have hz1 := (HOK.out _ (List.getElem_mem hlt)).z1
      have hz2 := (HOK.out _ (List.getElem_mem hlt)).z2
      clear hrg
      generalize l[j] = x at *
      obtain ⟨u, hu9⟩ : ∃ u, underL p (l.take j) = u := ⟨_, rfl⟩
      rw [hu9] at hu HNX ⊢
      clear hu9
      obtain ⟨hu1, hu2⟩ := hu
      obtain ⟨W3, hW3, HT, HB3, hs3⟩ := one_open wr 58 #[.int .u32 0, .int .i64 0, .int .i64 0, .int .i64 0, .int .i64 0, .int .i64 0, .int .i64 0]
      have q1 : (0 : Int) ≤ (j : Int) := by omega
      have q2 : (j : Int) < (l.length : Int) := by omega
      have q3 : (l.length : Int) ≤ 1000 := by omega
      obtain ⟨sz, hsz⟩ : ∃ sz, x.sz = sz := ⟨_, rfl⟩
      have HSZ := Lib.hid hsz
      rw [hsz] at hz1 hz2
      clear hsz
      cases hbo : outB p x with
      | true =>
        have HBO := Lib.hid hbo
        replace HNX : Hid (underL p (l.take (j + 1)) = u + sz) := Lib.hid (by rw [HNX.out, if_pos hbo, HSZ.out])
        clear hbo
        go_wp2_with (first
          | ((with_reducible refine gate9 ?_); refine ldPc (ty := 58) rfl rfl rfl HRG.out Try.underlying58 rfl infoP ?_)
          | ((with_reducible refine gate9 ?_); refine stB (ty := 58) (cellsPc x) rfl rfl rfl rfl HT.out infoP rfl (cellsPc_one _) ?_; intro w4 ht hg; replace HB3 := Lib.hid (below_of_grown1 HB3.out hg HB3.out.size (Nat.le_refl _)); replace HT := Lib.hid ht; clear ht hg)
          | ((with_reducible refine gate9 ?_); refine ldB rfl rfl rfl HT.out Try.underlying58 rfl infoP ?_)
          | (go_at_call 17; (with_reducible refine (HOUT.out _ _).mono ?_); rintro e w1 ⟨rfl, hb5⟩; (try rw [HBO.out]); replace HB3 := Lib.hid (HB3.out.trans (hb5.mono HB3.out.size)); replace HT := Lib.hid (HT.out.later hb5); clear hb5; have t1 : w1.cell? ⟨wr.heap.size, 1, none⟩ = some (.int .i64 sz) := by have h9 := HT.out.cell 1 (.int .i64 x.sz) rfl; rw [HSZ.out] at h9; exact h9))
        go_roundw
        case rel => exact ⟨j + 1, by omega, by rw [HNX.out], by go_num, Lib.hid (HW.out.trans (HB3.out.mono HW.out.size))⟩
        case measure => simp [intOf]; omega
      | false =>
        have HBO := Lib.hid hbo
        replace HNX : Hid (underL p (l.take (j + 1)) = u) := Lib.hid (by rw [HNX.out, if_neg (by rw [hbo]; decide)]; omega)
        clear hbo
        go_wp2_with (first
          | ((with_reducible refine gate9 ?_); refine ldPc (ty := 58) rfl rfl rfl HRG.out Try.underlying58 rfl infoP ?_)
          | ((with_reducible refine gate9 ?_); refine stB (ty := 58) (cellsPc x) rfl rfl rfl rfl HT.out infoP rfl (cellsPc_one _) ?_; intro w4 ht hg; replace HB3 := Lib.hid (below_of_grown1 HB3.out hg HB3.out.size (Nat.le_refl _)); replace HT := Lib.hid ht; clear ht hg)
          | ((with_reducible refine gate9 ?_); refine ldB rfl rfl rfl HT.out Try.underlying58 rfl infoP ?_)
          | (go_at_call 17; (with_reducible refine (HOUT.out _ _).mono ?_); rintro e w1 ⟨rfl, hb5⟩; (try rw [HBO.out]); replace HB3 := Lib.hid (HB3.out.trans (hb5.mono HB3.out.size)); clear hb5))
        go_roundw
        case rel => exact ⟨j + 1, by omega, by rw [HNX.out], by go_num, Lib.hid (HW.out.trans (HB3.out.mono HW.out.size))⟩
        case measure => simp [intOf]; omega
    · obtain rfl : j = l.length := by omega
      go_wp2_with fail
      go_ret
      exact ⟨ret_i64 (by rw [HEND.out]), HB.out.trans (HW.out.mono (by omega))⟩
end Go.Proofs.Ytpgdofhnpiefjaa
