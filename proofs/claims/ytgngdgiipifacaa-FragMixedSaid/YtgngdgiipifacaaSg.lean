/-
  Package frag: a message out of a row: contract.
-/
import Derived.Test.YtgngdgiipifacaaSf
import Derived.Test.YtgngdgiipifacaaBuilder
import Derived.Shelf.Strings.BuilderK
namespace Go.Proofs.Ytgngdgiipifacaa
open Go.RowKit
set_option linter.unusedVariables false
set_option linter.unusedSimpArgs false
set_option maxRecDepth 100000

theorem builder_later {T e : TypeId} {B b : Nat} {bs : List Value} {w w' : World} (h : Lib.IsBuilder T e B b bs w) (hb : Below w.heap.size w w') : Lib.IsBuilder T e B b bs w' := by
  have step : ∀ p, Lib.BuilderAt T e B b p bs w → Lib.BuilderAt T e B b p bs w' := by
    intro p hp
    have hlt := hp.lt
    obtain ⟨hB, v, hc, hown, hne⟩ := hp
    exact ⟨hB, v, (hb.block b hlt).trans hc, hown.kept (row := none) ⟨hb.os, hb.tape, hb.output, hb.size, fun k hk _ => hb.block k hk⟩ (own_ne_none v), hne⟩
  exact h.imp (step _) (step _)
theorem byteCells_add (l m : List UInt8) : Lib.byteCells l ++ Lib.strCells ⟨m.toArray⟩ = Lib.byteCells (l ++ m) := by simp [Lib.byteCells, Lib.strCells]
theorem builder_drew {T e : TypeId} {B b : Nat} {bs : List Value} {w : World} (h : Lib.IsBuilder T e B b bs w) : Lib.IsBuilder T e B b bs w.drew := builder_later h (below_drawn (Below.refl _ _))
theorem text_k (B b : Nat) (l : List UInt8) (w : World) (h : Lib.IsBuilderF 75 5 B b (Lib.byteCells l) w) (hBw : B ≤ w.heap.size) :
    Calls Try.prog 35 #[.pointer (some ⟨b, 0, none⟩)] w fun e w' => e = .returned (.string ⟨l.toArray⟩) ∧ (Lib.IsBuilderF 75 5 B b (Lib.byteCells l) w' ∧ Below B w w' ∧ Lib.OthersKept 5 (some b) w w') :=
  Any.Builder_String_any_k Try.lays169 Try.Builder_Extra_169 B b l w h hBw
theorem Bx.others {W W' : World} {g b : Nat} {T e : TypeId} {cs : Array Value} (h : Bx W g T cs) (hk : Lib.OthersKept e (some b) W W') (hg : g ≠ b) (hT : T ≠ e) : Bx W' g T cs :=
  hk g _ h (by simpa using hg) (fun c fz e => by cases e; exact hT rfl)
def joinL (r : List Pc) : List UInt8 := r.flatMap fun x => x.tx.data.toList
theorem joinB_eq (r : List Pc) : joinB r = ⟨(joinL r).toArray⟩ := rfl
theorem joinL_take (r : List Pc) (j : Nat) (h : j < r.length) : joinL (r.take (j + 1)) = joinL (r.take j) ++ r[j].tx.data.toList := by
  unfold joinL
  rw [List.take_succ_eq_append_getElem h, List.flatMap_append]
  simp
theorem joinL_len (r : List Pc) : (joinL r).length = bytesL r := by
  unfold joinL bytesL
  rw [List.length_flatMap]
  rfl
theorem bytes_take (r : List Pc) (j : Nat) (h : j < r.length) : bytesL (r.take j) + r[j].tx.size ≤ bytesL r := by
  have e : bytesL r = bytesL (r.take j) + bytesL (r.drop j) := by
    conv => lhs; rw [← List.take_append_drop j r]
    unfold bytesL
    rw [List.map_append, List.sum_append]
  rw [e, List.drop_eq_getElem_cons h]
  unfold bytesL
  rw [List.map_cons, List.sum_cons]
  omega
set_option maxHeartbeats 4000000 in
theorem join_any (r : List Pc) (hr : 0 < r.length) (hr2 : r.length ≤ 1000) (hz : bytesL r ≤ 1000000000) (V : Value) (w : World) (h : RowP w V r) :
    Calls Try.prog 28 #[V] w fun e w' => e = .returned (.agg (cellsMg (joinM r))) ∧ Below w.heap.size w w' := by
  obtain ⟨W1, hW1, HZ, HB1, hs1⟩ := one_open w 39 #[.int .u32 0, .bool false, .int .u16 0, .int .u16 0, .int .u32 0, .string ⟨#[]⟩]
  obtain ⟨g3, hg3⟩ : ∃ g, W1.heap.size = g := ⟨_, rfl⟩
  obtain ⟨w1, hw1⟩ : ∃ W, W1.alloc (.cells #[.pointer none, .slice none 0 0] 75) = W := ⟨_, rfl⟩
  have HI0 : Hid (Lib.IsBuilder 75 5 g3 g3 (Lib.byteCells (joinL (r.take 0))) w1) := Lib.hid (by
    have h9 := Lib.fresh_isBuilder 75 5 W1
    rw [hw1, hg3] at h9
    exact h9)
  have HBw : Hid (Below g3 W1 w1) := Lib.hid (by rw [← hw1, ← hg3]; exact below_one _ _)
  have hsw : w1.heap.size = g3 + 1 := by rw [← hw1, World.size_alloc, hg3]
  have HV := Lib.hid h
  obtain ⟨A, cap, rfl, hcap, hmx, _⟩ := id h
  have HTK := Lib.hid (joinL_take r)
  have HBT := Lib.hid (bytes_take r)
  have HLN := Lib.hid (fun j => joinL_len (r.take j))
  have HFU : Hid (joinL (r.take r.length) = joinL r) := Lib.hid (by rw [List.take_length])
  replace HZ := Lib.hid (HZ.out.under HBw.out (by omega))
  have HB0 := Lib.hid (HB1.out.trans (HBw.out.mono (by omega)))
  have hgw : w.heap.size < g3 := by omega
  have hlI : (r.length : Int) ≤ 1000 := by omega
  have hmxI : (cap : Int) ≤ 9223372036854775807 := by unfold maxLen at hmx; omega
  clear h HB1 hs1
  go_enter Try.func28, Try.ntmps28
  go_wp2_with fail
  clear hW1 hw1 hg3
  go_loopw [9] (fun i wr => ∃ j : Nat, j ≤ r.length ∧ i = .int .i64 j ∧ Hid (Lib.IsBuilder 75 5 g3 g3 (Lib.byteCells (joinL (r.take j))) wr) ∧ Hid (Below g3 w1 wr))
    (fun i _ => r.length - (intOf i).toNat)
  case atStart => exact ⟨0, Nat.zero_le _, rfl, HI0, Lib.hid (Below.refl _ _)⟩
  case round =>
    clear HI0
    obtain ⟨j, hj, rfl, HI, HW⟩ := hrel
    have hbs := HW.out.size
    by_cases hlt : j < r.length
    · obtain ⟨b, off, cap', e9, hb, hc1, hc2, hrg⟩ := HV.out.at hlt
      cases e9
      have HRG := Lib.hid (range_below hrg hb (HB0.out.trans (HW.out.mono (by omega))))
      have HT1 := Lib.hid (HTK.out j hlt)
      have hzl := HBT.out j hlt
      have hln := HLN.out j
      have q1 : (0 : Int) ≤ (j : Int) := by omega
      have q2 : (j : Int) < (r.length : Int) := by omega
      clear hrg
      generalize r[j] = x at *
      obtain ⟨W3, hW3, HT, HB3, hs3⟩ := one_open wr 43 #[.int .u32 0, .bool false, .bool false, .bool false, .int .u16 0, .int .u16 0, .int .u32 0, .string ⟨#[]⟩]
      have HIR := HI
      go_wp2_with (first
        | ((with_reducible refine gate9 ?_); refine ldPc (ty := 43) rfl rfl rfl HRG.out Try.underlying43 rfl infoP ?_)
        | ((with_reducible refine gate9 ?_); refine stB (ty := 43) (cellsPc x) rfl rfl rfl rfl HT.out infoP rfl (cellsPc_one _) ?_; intro w4 ht hg; replace HB3 := Lib.hid (below_of_grown1 HB3.out hg HB3.out.size (Nat.le_refl _)); replace HI := Lib.hid (builder_later HIR.out HB3.out); replace HW := Lib.hid (HW.out.trans (HB3.out.mono (by omega))); have t7 := (show Bx w4 wr.heap.size 43 (cellsPc x) from ht).cell 7 (.string x.tx) rfl; clear ht hg)
        | (go_at_call 34; ((with_reducible refine (builder_write g3 g3 _ x.tx _ HI.out ?hlen (by have := HW.out.size; omega)).mono ?_); (case hlen => rw [Lib.byteCells_length, hln]; omega); rintro e w5 ⟨rfl, hi5, hb5⟩); have HI5 := Lib.hid hi5; clear hi5; replace HW := Lib.hid (HW.out.trans hb5); clear hb5 t7))
      go_roundw
      case rel =>
        refine ⟨j + 1, by omega, by go_num, Lib.hid ?_, HW⟩
        have h9 := HI5.out
        have e9 := byteCells_add (joinL (r.take j)) x.tx.data.toList
        rw [← HT1.out] at e9
        rw [show (⟨x.tx.data.toList.toArray⟩ : ByteArray) = x.tx from rfl] at e9
        rw [e9] at h9
        exact .inr h9
      case measure => simp [intOf]; omega
    · obtain rfl : j = r.length := by omega
      rw [HFU.out] at HI
      obtain ⟨b, off, cap', e9, hb, hc1, hc2, hrg⟩ := HV.out.at hr
      cases e9
      rw [Nat.zero_mul, Nat.add_zero] at hrg
      have HRG := Lib.hid (range_below hrg hb (HB0.out.trans (HW.out.mono (by omega))))
      have HJM : Hid (joinM r = ⟨r[0].ts, r[0].fr, r[0].st, r[0].ss, r[0].pp, ⟨(joinL r).toArray⟩⟩) := Lib.hid (by unfold joinM; rw [getElem!_pos r 0 hr, joinB_eq])
      have q1 : (0 : Int) < (r.length : Int) := by omega
      clear hrg
      generalize r[0] = x at *
      obtain ⟨W3, hW3, HT, HB3, hs3⟩ := one_open wr 43 #[.int .u32 0, .bool false, .bool false, .bool false, .int .u16 0, .int .u16 0, .int .u32 0, .string ⟨#[]⟩]
      obtain ⟨g6, hg6⟩ : ∃ g, wr.heap.size = g := ⟨_, rfl⟩
      rw [hg6] at HT
      replace HZ := Lib.hid (HZ.out.under HW.out (by omega))
      have HIR := HI
      have hgb6 : g3 < g6 := by omega
      go_wp2_with (first
        | ((with_reducible refine gate9 ?_); refine ldPc (ty := 43) rfl rfl rfl HRG.out Try.underlying43 rfl infoP ?_)
        | ((with_reducible refine gate9 ?_); refine stB (ty := 43) (cellsPc x) rfl rfl rfl rfl HT.out infoP rfl (cellsPc_one _) ?_; intro w4 ht hg; replace HB3 := Lib.hid (below_of_grown1 HB3.out hg HB3.out.size (Nat.le_of_eq hg6)); replace HI := Lib.hid (builder_later HIR.out HB3.out); replace HW := Lib.hid (HW.out.trans (HB3.out.mono (by omega))); replace HZ := Lib.hid (HZ.out.later HB3.out); replace HT := Lib.hid (show Bx w4 g6 43 (cellsPc x) from ht); clear ht hg))
      clear hW3 hs3 hg6 HB3 HIR
      have HS : (fun U => Bx U g6 43 (cellsPc x) ∧ Lib.IsBuilderF 75 5 g3 g3 (Lib.byteCells (joinL r)) U ∧ Bx U w.heap.size 39 #[.int .u32 0, .bool false, .int .u16 0, .int .u16 0, .int .u32 0, .string ⟨#[]⟩] ∧ Below g3 w1 U) _ := ⟨HT.out.drew, Lib.IsBuilderF.of (builder_drew HI.out), HZ.out.drew, below_drawn HW.out⟩
      refine wp_region_noPanic ?_
      refine wp_region_waits (S := (fun U => Bx U g6 43 (cellsPc x) ∧ Lib.IsBuilderF 75 5 g3 g3 (Lib.byteCells (joinL r)) U ∧ Bx U w.heap.size 39 #[.int .u32 0, .bool false, .int .u16 0, .int .u16 0, .int .u32 0, .string ⟨#[]⟩] ∧ Below g3 w1 U)) [12] (by kernel_rfl) HS (fun hHeld => ?_)
      clear HS
      refine wpAnyW_take (i := 0) (v := ?_) (by simp only [List.getElem?_toArray, List.getElem?_cons_zero]; rfl) (by kernel_rfl) (by kernel_rfl) (by kernel_rfl) (by kernel_rfl) (by kernel_rfl) (fun _ _ _ h => h) (Or.inl ⟨by rfl, ?_⟩) (by assumption) ?_
      rotate_left 1
      · (intro w' hSw; go_simp; try with_reducible rfl)
      try simp only [Act.put, List.setIfInBounds_toArray, List.set_cons_zero, List.set_cons_succ]
      refine wpAnyW_take (i := 1) (v := ?_) (by simp only [List.getElem?_toArray, List.getElem?_cons_succ, List.getElem?_cons_zero]; rfl) (by kernel_rfl) (by kernel_rfl) (by kernel_rfl) (by kernel_rfl) (by kernel_rfl) (fun _ _ _ h => h) (Or.inl ⟨by rfl, ?_⟩) (by assumption) ?_
      rotate_left 1
      · (intro w' hSw; have hq := hSw.1.cell 0 (.int .u32 (x.ts.toNat : Int)) rfl; go_simp; try with_reducible rfl)
      try simp only [Act.put, List.setIfInBounds_toArray, List.set_cons_zero, List.set_cons_succ]
      refine wpAnyW_take (i := 2) (v := ?_) (by simp only [List.getElem?_toArray, List.getElem?_cons_succ, List.getElem?_cons_zero]; rfl) (by kernel_rfl) (by kernel_rfl) (by kernel_rfl) (by kernel_rfl) (by kernel_rfl) (fun _ _ _ h => h) (Or.inl ⟨by rfl, ?_⟩) (by assumption) ?_
      rotate_left 1
      · (intro w' hSw; go_simp; try with_reducible rfl)
      try simp only [Act.put, List.setIfInBounds_toArray, List.set_cons_zero, List.set_cons_succ]
      refine wpAnyW_take (i := 3) (v := ?_) (by simp only [List.getElem?_toArray, List.getElem?_cons_succ, List.getElem?_cons_zero]; rfl) (by kernel_rfl) (by kernel_rfl) (by kernel_rfl) (by kernel_rfl) (by kernel_rfl) (fun _ _ _ h => h) (Or.inl ⟨by rfl, ?_⟩) (by assumption) ?_
      rotate_left 1
      · (intro w' hSw; have hq := hSw.1.cell 3 (.bool x.fr) rfl; go_simp; try with_reducible rfl)
      try simp only [Act.put, List.setIfInBounds_toArray, List.set_cons_zero, List.set_cons_succ]
      refine wpAnyW_take (i := 4) (v := ?_) (by simp only [List.getElem?_toArray, List.getElem?_cons_succ, List.getElem?_cons_zero]; rfl) (by kernel_rfl) (by kernel_rfl) (by kernel_rfl) (by kernel_rfl) (by kernel_rfl) (fun _ _ _ h => h) (Or.inl ⟨by rfl, ?_⟩) (by assumption) ?_
      rotate_left 1
      · (intro w' hSw; go_simp; try with_reducible rfl)
      try simp only [Act.put, List.setIfInBounds_toArray, List.set_cons_zero, List.set_cons_succ]
      refine wpAnyW_take (i := 5) (v := ?_) (by simp only [List.getElem?_toArray, List.getElem?_cons_succ, List.getElem?_cons_zero]; rfl) (by kernel_rfl) (by kernel_rfl) (by kernel_rfl) (by kernel_rfl) (by kernel_rfl) (fun _ _ _ h => h) (Or.inl ⟨by rfl, ?_⟩) (by assumption) ?_
      rotate_left 1
      · (intro w' hSw; have hq := hSw.1.cell 4 (.int .u16 (x.st.toNat : Int)) rfl; go_simp; try with_reducible rfl)
      try simp only [Act.put, List.setIfInBounds_toArray, List.set_cons_zero, List.set_cons_succ]
      refine wpAnyW_take (i := 6) (v := ?_) (by simp only [List.getElem?_toArray, List.getElem?_cons_succ, List.getElem?_cons_zero]; rfl) (by kernel_rfl) (by kernel_rfl) (by kernel_rfl) (by kernel_rfl) (by kernel_rfl) (fun _ _ _ h => h) (Or.inl ⟨by rfl, ?_⟩) (by assumption) ?_
      rotate_left 1
      · (intro w' hSw; go_simp; try with_reducible rfl)
      try simp only [Act.put, List.setIfInBounds_toArray, List.set_cons_zero, List.set_cons_succ]
      refine wpAnyW_take (i := 7) (v := ?_) (by simp only [List.getElem?_toArray, List.getElem?_cons_succ, List.getElem?_cons_zero]; rfl) (by kernel_rfl) (by kernel_rfl) (by kernel_rfl) (by kernel_rfl) (by kernel_rfl) (fun _ _ _ h => h) (Or.inl ⟨by rfl, ?_⟩) (by assumption) ?_
      rotate_left 1
      · (intro w' hSw; have hq := hSw.1.cell 5 (.int .u16 (x.ss.toNat : Int)) rfl; go_simp; try with_reducible rfl)
      try simp only [Act.put, List.setIfInBounds_toArray, List.set_cons_zero, List.set_cons_succ]
      refine wpAnyW_take (i := 8) (v := ?_) (by simp only [List.getElem?_toArray, List.getElem?_cons_succ, List.getElem?_cons_zero]; rfl) (by kernel_rfl) (by kernel_rfl) (by kernel_rfl) (by kernel_rfl) (by kernel_rfl) (fun _ _ _ h => h) (Or.inl ⟨by rfl, ?_⟩) (by assumption) ?_
      rotate_left 1
      · (intro w' hSw; go_simp; try with_reducible rfl)
      try simp only [Act.put, List.setIfInBounds_toArray, List.set_cons_zero, List.set_cons_succ]
      refine wpAnyW_take (i := 9) (v := ?_) (by simp only [List.getElem?_toArray, List.getElem?_cons_succ, List.getElem?_cons_zero]; rfl) (by kernel_rfl) (by kernel_rfl) (by kernel_rfl) (by kernel_rfl) (by kernel_rfl) (fun _ _ _ h => h) (Or.inl ⟨by rfl, ?_⟩) (by assumption) ?_
      rotate_left 1
      · (intro w' hSw; have hq := hSw.1.cell 6 (.int .u32 (x.pp.toNat : Int)) rfl; go_simp; try with_reducible rfl)
      try simp only [Act.put, List.setIfInBounds_toArray, List.set_cons_zero, List.set_cons_succ]
      refine wpAnyW_held (i := 10) (by kernel_rfl) (by simp only [List.getElem?_toArray, List.getElem?_cons_succ, List.getElem?_cons_zero]; rfl) (fun K hK => ?_)
      rw [if_pos (by rfl)]
      go_simp
      refine (text_k g3 g3 _ _ hHeld.2.1 (by have := hHeld.2.2.2.size; omega)).mono ?_
      rintro _ w9 ⟨rfl, hbf, hb, hok⟩
      have HS : (fun U => Bx U g6 43 (cellsPc x) ∧ Lib.IsBuilderF 75 5 g3 g3 (Lib.byteCells (joinL r)) U ∧ Bx U w.heap.size 39 #[.int .u32 0, .bool false, .int .u16 0, .int .u16 0, .int .u32 0, .string ⟨#[]⟩] ∧ Below g3 w1 U) _ := ⟨hHeld.1.others hok (by omega) (by decide), hbf, hHeld.2.2.1.under hb hgw, hHeld.2.2.2.trans hb⟩
      clear hHeld hb hbf hok
      go_wp2_with fail
      refine hK.out _ _ HS (fun hHeld => ?_)
      clear hK K HS
      try simp only [Act.put, List.setIfInBounds_toArray, List.set_cons_zero, List.set_cons_succ]
      refine wpAnyW_take (i := 11) (v := ?_) (by simp only [List.getElem?_toArray, List.getElem?_cons_succ, List.getElem?_cons_zero]; rfl) (by kernel_rfl) (by kernel_rfl) (by kernel_rfl) (by kernel_rfl) (by kernel_rfl) (fun _ _ _ h => h) (Or.inl ⟨by rfl, ?_⟩) (by assumption) ?_
      rotate_left 1
      · (intro w' hSw; go_simp; try with_reducible rfl)
      try simp only [Act.put, List.setIfInBounds_toArray, List.set_cons_zero, List.set_cons_succ]
      refine wpAnyW_freed (i := 12) (by kernel_rfl) (by kernel_rfl) (by simp only [List.getElem?_toArray, List.getElem?_cons_succ, List.getElem?_cons_zero]; rfl) (fun K hK => ?_)
      rw [if_pos (by rfl)]
      refine wpB (ty := 39) #[.int .u32 (x.ts.toNat : Int), .bool x.fr, .int .u16 (x.st.toNat : Int), .int .u16 (x.ss.toNat : Int), .int .u32 (x.pp.toNat : Int), .string ⟨(joinL r).toArray⟩] rfl rfl rfl hHeld.2.2.1 infoM rfl (by simp [Value.oneCell']) ?_
      intro y1 ht hg
      have HE := Lib.hid (below_of_grown1 (HB0.out.trans (hHeld.2.2.2.mono (by omega))) hg (HB0.out.trans (hHeld.2.2.2.mono (by omega))).size (Nat.le_refl _))
      have HZ9 := Lib.hid ht
      clear ht hg
      refine hK.out _ _ ?_
      clear hK K hHeld
      try simp only [Act.put, List.setIfInBounds_toArray, List.set_cons_zero, List.set_cons_succ]
      refine wpAnyW_done (by kernel_rfl) ?_ _
      refine NoPanic.normal ?_
      go_wp2_with fail
      exact bodyPost_ret (retM rfl rfl rfl HZ9.out) rfl ⟨by rw [HJM.out]; rfl, HE.out⟩
end Go.Proofs.Ytgngdgiipifacaa
