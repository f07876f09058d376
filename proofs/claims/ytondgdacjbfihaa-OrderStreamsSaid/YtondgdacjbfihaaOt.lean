/-
  Package order: takeOut: contract.
-/
import Derived.Test.YtondgdacjbfihaaOp
import Derived.Deep.LoopGhost
import Derived.WalkMore
namespace Go.Proofs.Ytondgdacjbfihaa
open Go.RowKit
set_option linter.unusedVariables false
set_option linter.unusedSimpArgs false
set_option maxRecDepth 100000

theorem run_ix (ra : Array Value) (i : Nat) (v : Int) (hi : i < 256) (h : ra[i]? = some (.int .i64 v)) (w : World) : (Instr.index 80 (.agg ra) (.int .i64 (i : Int))).run Try.prog w = .ok (.int .i64 v) w := by
  have hu := Try.underlying80
  have hq := infoI
  cases hI : Try.prog.info? 3 with
  | none => rw [hI] at hq; cases hq
  | some q =>
    have hs : q.size = 1 := by rw [hI] at hq; simpa using hq
    have hlt : (i : Int) < 256 := by omega
    simp [Instr.index, run_underlying hu, asIntOf, hlt, part, sizeOf, typeInfo, hI, hs, h, go_sem]
    intro hh
    omega
theorem falses (n : Nat) : (madeCells (Value.bool false).cells (n * 1)).toList = (List.replicate n false).map encB := by
  rw [Nat.mul_one]
  simp [madeCells, encB, Value.cells, Nat.mod_one, List.map_const']
theorem fresh_ownG {w : World} {base size n : Nat} {e : TypeId} {v : Value} {xs : List Value} (h : OwnG w base e size v n xs) : Fresh base v := fun a n c e => (h.lt a.block (by rw [e]; rfl)).1
theorem RowB.cell_set {α : Type} {enc : α → Value} {W : World} {g i : Nat} {T : TypeId} {l : List α} {x : α} (h : RowB enc W g T (l.set i x)) (hi : i < l.length) : W.cell? ⟨g, i, none⟩ = some (enc x) := by
  have := h.cell (j := i) (by rw [List.length_set]; exact hi)
  rw [List.getElem_set_self] at this
  exact this
theorem Ch.under {S : Nat → Prop} {w w' w'' : World} {B : Nat} (h : Ch S w w') (hb : Below B w' w'') (hB : w.heap.size ≤ B) : Ch S w w'' :=
  ⟨hb.os.trans h.os, hb.tape.trans h.tape, hb.output.trans h.output, Nat.le_trans h.size hb.size, fun k hk hn => (hb.block k (Nat.lt_of_lt_of_le hk hB)).trans (h.block k hk hn)⟩
theorem RowB.under {α : Type} {enc : α → Value} {W W' : World} {g B : Nat} {T : TypeId} {l : List α} (h : RowB enc W g T l) (hb : Below B W W') (hg : g < B) : RowB enc W' g T l := h.same (hb.block g hg)
theorem without_at (wt : List Mg) (hl : wt.length ≤ 1000) (s : Int) (n : UInt16) (k g : Nat) (vw : Value) (W : World) (hw : RowM W vw wt) (ht : RowB encB W g 4 (takenL wt s n k)) :
    Calls Try.prog 38 #[vw, .slice (some ⟨g, 0, none⟩) wt.length wt.length] W fun e w' => ∃ A c, e = .returned (.slice A (leftL wt s n k).length c) ∧ OwnG w' W.heap.size 40 6 (.slice A (leftL wt s n k).length c) (leftL wt s n k).length (flatM (leftL wt s n k)) ∧ Below W.heap.size W w' := by
  have hr := ht.row (cap := wt.length) (by rw [taken_len]; exact Nat.le_refl _) (by unfold maxLen; omega)
  rw [taken_len] at hr
  have h := without_any wt (takenL wt s n k) (by omega) (taken_len ..) vw _ W hw hr
  rw [keep_taken] at h
  exact h
theorem places_at (nx : List UInt16) (wt : List Mg) (hl : wt.length ≤ 1000) (st : Nat) (hst : st < nx.length) (hst2 : st ≤ 65535) (n0 : UInt16) (bn cn : Nat) (hc1 : nx.length ≤ cn) (hc2 : cn ≤ maxLen) (vw : Value) (k : Nat) (W : World) (hn : RowB enc16 W bn 38 (nx.set st (up n0 k))) (hw : RowM W vw wt) :
    Calls Try.prog 37 #[.agg #[.slice (some ⟨bn, 0, none⟩) nx.length cn, vw], .int .i64 (st : Int)] W fun e w' => e = .returned (.agg (rowI (plAt wt (st : Int) (up n0 k)))) ∧ Below W.heap.size W w' := by
  have hr := hn.row (cap := cn) (by rw [List.length_set]; exact hc1) hc2
  have h := places_any (nx.set st (up n0 k)) wt (by omega) st (by rw [List.length_set]; exact hst) hst2 _ vw W hr hw
  rw [List.getElem_set_self, List.length_set] at h
  exact h
set_option maxHeartbeats 8000000 in
theorem takeOut_any (nx : List UInt16) (wt : List Mg) (hl : wt.length ≤ 1000) (hd : Dis wt) (st : Nat) (hst : st < nx.length) (hst2 : st ≤ 65535) (gq bn cn : Nat) (vw : Value) (w : World)
    (hq : Bx w gq 27 #[.slice (some ⟨bn, 0, none⟩) nx.length cn, vw]) (hn : RowB enc16 w bn 38 nx) (hc1 : nx.length ≤ cn) (hc2 : cn ≤ maxLen) (hw : RowM w vw wt) (hne : bn ≠ gq) (hnq : NotIn gq vw) (hnb : NotIn bn vw) :
    Calls Try.prog 27 #[.pointer (some ⟨gq, 0, none⟩), .int .i64 (st : Int)] w fun e w' => ∃ A k A2 k2, e = .returned (.slice A (tellK wt (st : Int) nx[st]).length k) ∧ OwnG w' w.heap.size 40 6 (.slice A (tellK wt (st : Int) nx[st]).length k) (tellK wt (st : Int) nx[st]).length (flatM (tellK wt (st : Int) nx[st]))
      ∧ Bx w' gq 27 #[.slice (some ⟨bn, 0, none⟩) nx.length cn, .slice A2 (leftK wt (st : Int) nx[st]).length k2] ∧ RowB enc16 w' bn 38 (nx.set st (nextK wt (st : Int) nx[st])) ∧ RowM w' (.slice A2 (leftK wt (st : Int) nx[st]).length k2) (leftK wt (st : Int) nx[st]) ∧ Fresh w.heap.size (.slice A2 (leftK wt (st : Int) nx[st]).length k2) ∧ Ch (fun z => z = gq ∨ z = bn) w w' := by
  have HPL := Lib.hid (places_at nx wt hl st hst hst2 nx[st] bn cn hc1 hc2 vw)
  have hset : nx.set st (up nx[st] 0) = nx := by rw [up_zero]; exact List.set_getElem_self hst
  have HQ := Lib.hid hq
  have HN : Hid (RowB enc16 w bn 38 (nx.set st (up nx[st] 0))) := Lib.hid (by rw [hset]; exact hn)
  have HW := Lib.hid hw
  have HNQ := Lib.hid hnq
  have HNB := Lib.hid hnb
  have HD := Lib.hid hd
  have HSN : Hid (st < nx.length) := Lib.hid hst
  obtain ⟨A, cap, rfl, hcap, hmax, _⟩ := id hw
  have hgq := hq.lt
  have hbn := hn.lt
  generalize nx[st] = n0 at *
  have HSL := Lib.hid (fun k => (show (nx.set st (up n0 k)).length = nx.length from List.length_set))
  obtain ⟨i0, hi0, hz0, hz1, hz2⟩ := info_parts infoMZ
  have HI := Lib.hid hi0
  have HZ0 := Lib.hid hz0
  have HZ1 := Lib.hid hz1
  have HZ2 := Lib.hid hz2
  obtain ⟨i1, hi1, hy0, hy1, hy2⟩ := info_parts infoOZ
  have HI1 := Lib.hid hi1
  have HY0 := Lib.hid hy0
  have HY1 := Lib.hid hy1
  have HY2 := Lib.hid hy2
  have hstI : (st : Int) < (nx.length : Int) := by omega
  have hst0 : (0 : Int) ≤ (st : Int) := by omega
  have hnxI : (nx.length : Int) ≤ 9223372036854775807 := by unfold maxLen at hc2; omega
  have hlI : (wt.length : Int) ≤ 1000 := by omega
  have hlI0 : (0 : Int) ≤ (wt.length : Int) := by omega
  have c1 := hq.cell 1 (.slice A wt.length cap) rfl
  clear hset hq hn hw hnq hnb hd hi0 hz0 hz1 hz2 hi1 hy0 hy1 hy2 hst hcap hmax
  go_enter Try.func27, Try.ntmps27
  go_wp2_with fail
  go_step3
  have HB0 := Lib.hid (Ch.refl (fun z => z = gq ∨ z = bn) w)
  go_wp2_with (at_make; refine wpList_make_full _ rfl (.tmp 13) (.tmp 13) 79 rfl w.heap.size 4 i1 _ 1 Try.underlying79 HI1.out HY0.out HY1.out .i64 .i64 _ _ wt.length rfl rfl rfl rfl (by rw [HY2.out]; omega) (by unfold maxLen; omega) (Nat.le_refl _) ?_; intro w5 hown hg5; rw [falses] at hown; have hb5 := below_none hg5; have HTK := Lib.hid (RowB.of_some hown); replace HQ := Lib.hid (HQ.out.later hb5); replace HN := Lib.hid (HN.out.later hb5); have HC := Lib.hid (HB0.out.below hb5); clear hown hg5 hb5 c1)
  have HHS0 : Hid (∀ j, j < 0 → hasS wt (st : Int) (up n0 j) = true) := Lib.hid (fun j hj => absurd hj (Nat.not_lt_zero _))
  have hgt0 := HTK.out.lt
  replace HTK : Hid (RowB encB w5 w.heap.size 4 (takenL wt (st : Int) n0 0)) := Lib.hid (by rw [taken_zero]; exact HTK.out)
  have HO : Hid (OwnG w5 (w.heap.size + 1) 40 6 (.slice none 0 0) 0 (flatM (toldL wt (st : Int) n0 0))) := Lib.hid (OwnG.nil _ _ _ _)
  clear HB0
  go_wp2_with fail
  go_step3
  go_wp2_with fail
  go_loopg [5] wt.length (fun gh v5 wr => ∃ (k : Nat) (A5 : Option Addr) (c5 : Nat), gh = wt.length - k ∧ k ≤ wt.length ∧ v5 = .slice A5 k c5 ∧ Hid (∀ j, j < k → hasS wt (st : Int) (up n0 j) = true) ∧ Hid (OwnG wr (w.heap.size + 1) 40 6 (.slice A5 k c5) k (flatM (toldL wt (st : Int) n0 k))) ∧ Hid (Bx wr gq 27 #[.slice (some ⟨bn, 0, none⟩) nx.length cn, .slice A wt.length cap]) ∧ Hid (RowB enc16 wr bn 38 (nx.set st (up n0 k))) ∧ Hid (RowB encB wr w.heap.size 4 (takenL wt (st : Int) n0 k)) ∧ Hid (Ch (fun z => z = gq ∨ z = bn) w wr))
  case atStart => exact ⟨0, none, 0, by omega, Nat.zero_le _, rfl, HHS0, HO, HQ, HN, HTK, HC⟩
  case round =>
    clear HHS0 HO HQ HN HTK HC
    obtain ⟨k0, A5, c5, rfl, hk0, rfl, HHS, HO, HQ, HN, HTK, HC⟩ := hrel
    have HWR := Lib.hid (HW.out.ch HC.out (fun z hz => by rcases hz with rfl | rfl; exact HNQ.out; exact HNB.out))
    go_wp2_with (first
      | ((with_reducible refine gate9 ?_); refine ldB (ty := 27) rfl rfl rfl HQ.out Try.underlying27 rfl infoQ ?_)
      | (go_at_call 37; (with_reducible refine (HPL.out k0 _ HN.out HWR.out).mono ?_); rintro e w6 ⟨rfl, hb⟩; replace HQ := Lib.hid (HQ.out.later hb); replace HN := Lib.hid (HN.out.later hb); replace HTK := Lib.hid (HTK.out.later hb); replace HO := Lib.hid (HO.out.later hb); replace HC := Lib.hid (HC.out.below hb); clear hb HWR))
    have HRA : Hid (∀ i, i < 256 → (rowI (plAt wt (st : Int) (up n0 k0)))[i]? = some (.int .i64 (idxS wt (st : Int) (up n0 (k0 + i))))) := Lib.hid (fun i hi => by
      rw [rowI_at _ hi, plAt_idx _ _ _ _ (by omega)]
      show some (Value.int .i64 (idxS wt (st : Int) (up (up n0 k0) i))) = _
      rw [up_up])
    have hrs := rowI_size (plAt wt (st : Int) (up n0 k0))
    generalize rowI (plAt wt (st : Int) (up n0 k0)) = ra at *
    go_loopg [5, 20] 256 (fun gh v5 v20 wr2 => ∃ (i : Nat) (A6 : Option Addr) (c6 : Nat), gh = 256 - i ∧ i ≤ 256 ∧ v5 = .slice A6 (k0 + i) c6 ∧ v20 = .int .i64 i ∧ Hid (∀ j, j < k0 + i → hasS wt (st : Int) (up n0 j) = true) ∧ Hid (OwnG wr2 (w.heap.size + 1) 40 6 (.slice A6 (k0 + i) c6) (k0 + i) (flatM (toldL wt (st : Int) n0 (k0 + i)))) ∧ Hid (Bx wr2 gq 27 #[.slice (some ⟨bn, 0, none⟩) nx.length cn, .slice A wt.length cap]) ∧ Hid (RowB enc16 wr2 bn 38 (nx.set st (up n0 (k0 + i)))) ∧ Hid (RowB encB wr2 w.heap.size 4 (takenL wt (st : Int) n0 (k0 + i))) ∧ Hid (Ch (fun z => z = gq ∨ z = bn) w wr2))
    case atStart => exact ⟨0, A5, c5, by omega, Nat.zero_le _, rfl, rfl, HHS, HO, HQ, HN, HTK, HC⟩
    case round =>
      clear HHS HO HQ HN HTK HC
      obtain ⟨i, A6, c6, rfl, hi, rfl, rfl, HHS, HO, HQ, HN, HTK, HC⟩ := hrel
      by_cases hlt : i < 256
      · have hx := HRA.out i hlt
        have q1 : (0 : Int) ≤ (i : Int) := by omega
        have q2 : (i : Int) < 256 := by omega
        by_cases hp : idxS wt (st : Int) (up n0 (k0 + i)) = -1
        · have hix := fun w => run_ix ra i (-1) hlt (by rw [HRA.out i hlt, hp]) w
          have c1 := HQ.out.cell 1 (.slice A wt.length cap) rfl
          have hkl := count_le (st : Int) n0 (k0 + i) wt (by omega) HHS.out
          have hno := (idx_has).1 hp
          have HK := Lib.hid (runK_eq (by omega) (by omega) HHS.out hno)
          clear hp hno
          obtain ⟨tl, hte, htl, -⟩ := told_at HD.out HHS.out
          have HE1 : Hid (tellK wt (st : Int) n0 = toldL wt (st : Int) n0 (k0 + i)) := Lib.hid (by unfold tellK; rw [HK.out])
          have HE2 : Hid (leftK wt (st : Int) n0 = leftL wt (st : Int) n0 (k0 + i)) := Lib.hid (by unfold leftK; rw [HK.out])
          have HE3 : Hid (nextK wt (st : Int) n0 = up n0 (k0 + i)) := Lib.hid (by unfold nextK; rw [HK.out])
          have HE4 : Hid ((toldL wt (st : Int) n0 (k0 + i)).length = k0 + i) := Lib.hid (by rw [hte, htl])
          have HWO := Lib.hid (without_at wt hl (st : Int) n0 (k0 + i) w.heap.size (.slice A wt.length cap))
          have HWR := Lib.hid (HW.out.ch HC.out (fun z hz => by rcases hz with rfl | rfl; exact HNQ.out; exact HNB.out))
          have hgt1 := HTK.out.lt
          clear hte htl tl HRA
          generalize leftL wt (st : Int) n0 (k0 + i) = lf at *
          go_wp2_with (first
            | (go_at_call 38; (with_reducible refine (HWO.out _ HWR.out HTK.out).mono ?_); rintro e w6 ⟨A7, c7, rfl, hown, hb⟩; have HR7 := Lib.hid (rowM_of_ownG hown); have HF7 := Lib.hid (fresh_ownG hown); replace HQ := Lib.hid (HQ.out.later hb); replace HN := Lib.hid (HN.out.later hb); replace HO := Lib.hid (HO.out.later hb); replace HC := Lib.hid (HC.out.below hb); clear hown hb HWR)
            | ((with_reducible refine gate9 ?_); refine stF (ty := 25) (.slice A7 lf.length c7) rfl rfl rfl rfl HQ.out (Nat.lt_succ_self 1) infoML rfl ?_; intro w8 ht hg; replace HQ := Lib.hid (show Bx w8 gq 27 #[.slice (some ⟨bn, 0, none⟩) nx.length cn, .slice A7 lf.length c7] from ht); replace HR7 := Lib.hid (HR7.out.kept (NotIn.of_fresh HF7.out (by omega)) hg); replace HN := Lib.hid (HN.out.kept hg hne); replace HO := Lib.hid (HO.out.keep fun z hz => hg.block z (HO.out.lt z hz).2 (by intro e; cases e; have := (HO.out.lt _ hz).1; omega)); replace HC := Lib.hid (HC.out.grown hg (fun z e _ => by cases e; exact .inl rfl)); clear ht hg))
          rw [Exit.noGoto_ret]
          go_ret
          rw [HE1.out, HE2.out, HE3.out, HE4.out]
          exact ⟨A6, c6, A7, c7, rfl, HO.out.base (by omega), HQ.out, HN.out, HR7.out, HF7.out.less (by omega), HC.out⟩
        · obtain ⟨p, hpe, hpl, hmt, hhs⟩ := (idx_has).2 hp
          have hix := fun w => run_ix ra i (p : Int) hlt (by rw [HRA.out i hlt, hpe]) w
          have qp : ((p : Int) == -1) = false := by rw [beq_eq_false_iff_ne]; omega
          have c1 := HQ.out.cell 1 (.slice A wt.length cap) rfl
          clear hp hpe
          have HWR := Lib.hid (HW.out.ch HC.out (fun z hz => by rcases hz with rfl | rfl; exact HNQ.out; exact HNB.out))
          obtain ⟨b, off, c', e9, hb, -, -, hrg⟩ := HWR.out.at hpl
          cases e9
          have HRG := Lib.hid hrg
          have HT1 : Hid (toldL wt (st : Int) n0 (k0 + (i + 1)) = toldL wt (st : Int) n0 (k0 + i) ++ [wt[p]]) := Lib.hid ((told_next wt (st : Int) n0 (k0 + i)).trans (by rw [filter_one HD.out _ (List.getElem_mem hpl) hmt]))
          have HT2 : Hid ((takenL wt (st : Int) n0 (k0 + i)).set p true = takenL wt (st : Int) n0 (k0 + (i + 1))) := Lib.hid (taken_set HD.out (by omega) hpl hmt)
          have HT3 : Hid ((nx.set st (up n0 (k0 + i))).set st (up n0 (k0 + (i + 1))) = nx.set st (up n0 (k0 + (i + 1)))) := Lib.hid (List.set_set ..)
          have HT4 : Hid (∀ j, j < k0 + (i + 1) → hasS wt (st : Int) (up n0 j) = true) := Lib.hid (fun j hj => by
            by_cases e : j < k0 + i
            · exact HHS.out j e
            · obtain rfl : j = k0 + i := by omega
              exact hhs)
          have HTN := Lib.hid (taken_len wt (st : Int) n0 (k0 + i))
          have hgt1 := HTK.out.lt
          have hkl := count_le (st : Int) n0 (k0 + i) wt (by omega) HHS.out
          have s1 : (((up n0 (k0 + i)).toNat : Int) + 1) % 65536 = ((up n0 (k0 + (i + 1))).toNat : Int) := by
            rw [show up n0 (k0 + (i + 1)) = up n0 (k0 + i) + 1 from up_next .., UInt16.toNat_add]
            show _ = ((((up n0 (k0 + i)).toNat + 1) % 65536 : Nat) : Int)
            omega
          have HPL2 : Hid (p < wt.length) := Lib.hid hpl
          have r1 : (0 : Int) ≤ (p : Int) := by omega
          have r2 : (p : Int) < (wt.length : Int) := by omega
          clear hmt hhs hrg HWR HHS
          generalize wt[p] = x at *
          clear hpl
          generalize hu1 : up n0 (k0 + (i + 1)) = u1 at *
          generalize hu0 : up n0 (k0 + i) = u0 at *
          have HU1 := Lib.hid hu1
          obtain ⟨x1, x2, x3, x4, x5, x6⟩ := x
          have hcm : cellsMg ⟨x1, x2, x3, x4, x5, x6⟩ = #[.int .u32 (x1.toNat : Int), .bool x2, .int .u16 (x3.toNat : Int), .int .u16 (x4.toNat : Int), .int .u32 (x5.toNat : Int), .string x6] := rfl
          clear hu0 hu1
          go_wp2_with (first
            | ((with_reducible refine gate9 ?_); refine ldMg (ty := 40) rfl rfl rfl HRG.out Try.underlying40 rfl infoM ?_)
            | (at_builtin; refine wpList_append_fed _ rfl (.tmp 25) (.tmp 33) 25 25 rfl (w.heap.size + 1) 40 i0 _ 6 32 Try.underlying25 (.inr ⟨_, Try.underlying25⟩) HI.out HZ0.out HZ1.out HZ2.out rfl _ _ _ rfl (HO.out.alloc _) _ 1 (cellsMg ⟨x1, x2, x3, x4, x5, x6⟩).toList rfl (Fed.block (heap_alloc_new _ _) rfl (fun u hu => cells_one hu)) (by unfold maxLen; omega) (by omega) (by rw [World.size_alloc]; omega) ?_; intro v8 w8 hown hgr; have hb8 := ((Below.refl (w.heap.size + 1) wr).alloc (by omega) _).grown hgr (by rw [World.size_alloc]; omega) (fun z hz => (HO.out.lt z hz).1); replace HQ := Lib.hid (HQ.out.under hb8 (by omega)); replace HN := Lib.hid (HN.out.under hb8 (by omega)); replace HTK := Lib.hid (HTK.out.under hb8 (by omega)); replace HC := Lib.hid (HC.out.under hb8 (by omega)); obtain ⟨A8, k8, rfl, -, -, -⟩ := id hown.slice; have HO8 := Lib.hid hown; clear hown hgr hb8 c1)
            | ((with_reducible refine gate9 ?_); refine stR (ty := 4) p true rfl rfl rfl rfl HTK.out (by rw [HTN.out]; exact HPL2.out) infoO rfl ?_; intro w9 ht hg; rw [HT2.out] at ht; replace HTK := Lib.hid ht; replace HQ := Lib.hid (HQ.out.kept hg (by omega)); replace HN := Lib.hid (HN.out.kept hg (by omega)); replace HO8 := Lib.hid (HO8.out.keep fun z hz => hg.block z (HO8.out.lt z hz).2 (by intro e; cases e; have := (HO8.out.lt _ hz).1; omega)); replace HC := Lib.hid (HC.out.grown hg (fun z e hz => by cases e; omega)); have c0 := HQ.out.cell 0 (.slice (some ⟨bn, 0, none⟩) nx.length cn) rfl; have en : w9.cell? ⟨bn, st, none⟩ = some (.int .u16 (u0.toNat : Int)) := HN.out.cell_set HSN.out; clear ht hg)
            | ((with_reducible refine gate9 ?_); refine stR (ty := 38) st u1 rfl rfl rfl (by first | rfl | exact congrArg (Value.int .u16) s1) HN.out (by rw [List.length_set]; exact HSN.out) infoH rfl ?_; intro w10 ht hg; rw [HT3.out] at ht; replace HN := Lib.hid ht; replace HQ := Lib.hid (HQ.out.kept hg (by omega)); replace HTK := Lib.hid (HTK.out.kept hg (by omega)); replace HO8 := Lib.hid (HO8.out.keep fun z hz => hg.block z (HO8.out.lt z hz).2 (by intro e; cases e; have := (HO8.out.lt _ hz).1; omega)); replace HC := Lib.hid (HC.out.grown hg (fun z e hz => by cases e; exact .inr rfl)); clear ht hg c0 en))
          go_roundg (256 - (i + 1))
          case measure => omega
          case rel => exact ⟨i + 1, A8, k8, rfl, by omega, rfl, by go_num, HT4, Lib.hid (by rw [HT1.out, flatM_add]; exact HO8.out), HQ, Lib.hid (by rw [HU1.out]; exact HN.out), HTK, HC⟩
      · obtain rfl : i = 256 := by omega
        have hkl := count_le (st : Int) n0 (k0 + 256) wt (by omega) HHS.out
        go_wp2_with fail
        go_roundg (wt.length - (k0 + 256))
        case measure => omega
        case rel => exact ⟨k0 + 256, A6, c6, rfl, hkl, rfl, HHS, HO, HQ, HN, HTK, HC⟩
end Go.Proofs.Ytondgdacjbfihaa
