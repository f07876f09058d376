/-
  After any pieces what waits, what is whole, how many bytes wait, and where messages begin, is as the chapter says: any pieces.
-/
import Derived.Test.YtblepnbmjehikaaLift
import Derived.Test.YtblepnbmjehikaaSo
import Derived.Deep.CutBlock
import Derived.Deep.CutRange
import Derived.Deep.Cut
import Derived.Test.YtblepnbmjehikaaRf
namespace Go.Proofs.Ytblepnbmjehikaa.fragPuts
open Go.ChangeShapes Go.WideShapes Go.ChangeAt Go.RowKit
set_option linter.unusedVariables false
set_option linter.unusedSimpArgs false
set_option maxRecDepth 100000

theorem equal_rm (x : Mg) (w : World) : (Op.equalIn 10000 44 (.agg (cellsMg x)) (.agg (cellsMg x))).run Try.prog w = .ok true w := by
  have hu := Try.underlying44
  rw [run_equalIn_struct w 9999 _ _ _ (by unfold Program.fieldsOf; rw [hu]) Try.stoodInHeld44]
  unfold Program.fieldsOf
  rw [hu]
  obtain ⟨fi, fr, st, ss, pp, tx⟩ := x
  simp [Op.eqFields, go_sem, cellsMg]
theorem guard_rm (x y : Operand) (b : BinOp) (cs ds : Array Value) (w : World) : (eqGuard b 44 x y (.agg cs) (.agg ds)).run Try.prog w = .ok () w := by
  have h0 : Try.prog.eqGuardType Try.prog.depth 44 = false := by kernel_rfl
  cases b <;> simp [eqGuard, go_sem, h0]
theorem neq_rm (x : Mg) (w : World) : (binOp .neq 44 (.agg (cellsMg x)) (.agg (cellsMg x))).run Try.prog w = .ok (.bool false) w := by
  rw [run_neq_struct, equal_rm]
  rfl
/-- Block g6 holds the document's bag, whose row lies apart from both. -/
def QAt (g5 g6 : Nat) (l : List Pc) (W : World) : Prop := ∃ A k, Bx W g6 35 #[.slice A l.length k] ∧ RowP W (.slice A l.length k) l ∧ Apart (.slice A l.length k) l g5 ∧ Apart (.slice A l.length k) l g6
theorem RowE.atU {w : World} {v : Value} {l : List UInt32} (h : RowE enc32 w v l) {j : Nat} (hj : j < l.length) : ∃ b off cap, v = .slice (some ⟨b, off, none⟩) l.length cap ∧ b < w.heap.size ∧ l.length ≤ cap ∧ cap ≤ maxLen ∧ w.cell? ⟨b, off + j, none⟩ = some (.int .u32 ((l[j]'hj).toNat : Int)) := by
  obtain ⟨A, cap, rfl, h1, h2, h3⟩ := h
  obtain ⟨b, off, rfl, hb, hc⟩ := h3 (by omega)
  have := hc j hj
  rw [getElem!_pos l j hj] at this
  exact ⟨b, off, cap, rfl, hb, h1, h2, this⟩
set_option maxHeartbeats 32000000 in
theorem walk (l : List Pc) (v : Value) (w : World) (h : RowP w v l) : Calls Try.prog 4 #[v] w fun e w' => e = .returned (.bool true) ∧ Below w.heap.size w w' := by
  have HSH := Lib.hid shown_any
  have HV := Lib.hid h
  have HSM := Lib.hid (fun V W h => small_any l V W h)
  have HB := Lib.hid (Below.refl w.heap.size w)
  obtain ⟨A0, cap0, rfl, _, hmx0, _⟩ := id h
  have hmxI : (l.length : Int) ≤ 9223372036854775807 := by unfold maxLen at hmx0; omega
  clear h
  cases hsm : smallB l with
  | false =>
    rw [hsm] at HSM
    go_enter Try.func4, Try.ntmps4
    go_wp2_with (first
      | (go_at_call 9; (with_reducible refine (HSH.out _).mono ?_); rintro e w1 ⟨rfl, hb⟩; replace HB := Lib.hid (HB.out.trans (hb.mono HB.out.size)); clear hb)
      | (go_at_call 13; (with_reducible refine (HSM.out _ _ (HV.out.below HB.out)).mono ?_); rintro e w2 ⟨rfl, rfl⟩))
    go_ret
    exact ⟨rfl, HB.out⟩
  | true =>
    rw [hsm] at HSM
    obtain ⟨h60, hea⟩ := small_long hsm
    have HIN := Lib.hid (bag_inv hsm)
    have HNX := Lib.hid (bagL_next l)
    have HEA := Lib.hid hea
    clear hea hsm
    go_enter Try.func4, Try.ntmps4
    go_wp2_with (first
      | (go_at_call 9; (with_reducible refine (HSH.out _).mono ?_); rintro e w1 ⟨rfl, hb⟩; replace HB := Lib.hid (HB.out.trans (hb.mono HB.out.size)); clear hb)
      | (go_at_call 13; (with_reducible refine (HSM.out _ _ (HV.out.below HB.out)).mono ?_); rintro e w2 ⟨rfl, rfl⟩; obtain ⟨W9, hW9, HQ0, HB9, hs9⟩ := one_open w2 32 #[.slice none 0 0]; obtain ⟨g5, hg5⟩ : ∃ g, w2.heap.size = g := ⟨_, rfl⟩; rw [hg5] at HQ0)
      | ((with_reducible refine gate9 ?_); refine stB (ty := 32) #[.slice none 0 0] rfl rfl rfl rfl HQ0.out infoB rfl (cellsB_one _ _ _) ?_; intro w3 ht hg; replace HB9 := Lib.hid (below_of_grown1 HB9.out hg HB9.out.size (Nat.le_of_eq hg5)); replace HQ0 := Lib.hid ht; have hwg : w.heap.size ≤ g5 := (by have := HB.out.size; omega); replace HB := Lib.hid (HB.out.trans (HB9.out.mono HB.out.size)); clear ht hg HB9; obtain ⟨W6, hW6, HQ60, HB6, hs6⟩ := one_open w3 35 #[.slice none 0 0]; obtain ⟨g6, hg6⟩ : ∃ g, w3.heap.size = g := ⟨_, rfl⟩; rw [hg6] at HQ60)
      | ((with_reducible refine gate9 ?_); refine stB (ty := 35) #[.slice none 0 0] rfl rfl rfl rfl HQ60.out infoRB rfl (cellsRB_one _ _ _) ?_; intro w4 ht hg; replace HB6 := Lib.hid (below_of_grown1 HB6.out hg HB6.out.size (Nat.le_of_eq hg6)); have hg56 : g5 < g6 := (by have := HQ0.out.lt; omega); replace HQ0 := Lib.hid (HQ0.out.later HB6.out); replace HQ60 := Lib.hid ht; replace HB := Lib.hid (HB.out.trans (HB6.out.mono HB.out.size)); clear ht hg HB6))
    clear hW9 hs9 hg5 hW6 hs6 hg6
    have HBA : Hid (BAt g5 (bagL (l.take 0)) w4) := Lib.hid ⟨none, 0, HQ0.out, RowP.nil _⟩
    have HQA : Hid (QAt g5 g6 (bagL (l.take 0)) w4) := Lib.hid ⟨none, 0, HQ60.out, RowP.nil _, fun h => absurd h (by simp [bagL]), fun h => absurd h (by simp [bagL])⟩
    clear HQ0 HQ60
    go_loopw [7] (fun i wr => ∃ j : Nat, j ≤ l.length ∧ i = .int .i64 j ∧ Hid (BAt g5 (bagL (l.take j)) wr) ∧ Hid (QAt g5 g6 (bagL (l.take j)) wr) ∧ Hid (Below w.heap.size w wr))
      (fun i _ => l.length - (intOf i).toNat)
    case atStart => exact ⟨0, Nat.zero_le _, rfl, HBA, HQA, HB⟩
    case round =>
      clear HBA HQA HB
      obtain ⟨j, hj, rfl, HBA, HQA, HB⟩ := hrel
      have hij := HIN.out j hj
      by_cases hlt : j < l.length
      · obtain ⟨A, k, hbx, hrow⟩ := HBA.out
        obtain ⟨Aq, kq, hbq, hrq, hp5, hp6⟩ := HQA.out
        have HQ := Lib.hid hbx
        have HRS := Lib.hid hrow
        have HQ6 := Lib.hid hbq
        have HRQ := Lib.hid hrq
        have HP5 := Lib.hid hp5
        have HP6 := Lib.hid hp6
        have hgs := hbx.lt
        have hgs6 := hbq.lt
        clear hbx hrow HBA hbq hrq hp5 hp6 HQA
        obtain ⟨b, off, cap', e9, hbw0, hc1, hc2, hrg⟩ := HV.out.at hlt
        cases e9
        have HRG := Lib.hid (range_below hrg hbw0 HB.out)
        have hbw : b < wr.heap.size := by have := HB.out.size; omega
        have hxs := HEA.out _ (List.getElem_mem hlt)
        have hb1 := hij.len
        have hb2 := hij.by'
        have HPU := Lib.hid (fun V W h => put_anyE (bagL (l.take j)) (by omega) hij.ok (l[j]'hlt) (by omega) V W h)
        have HRP := Lib.hid (fun V W h => rput_anyE (bagL (l.take j)) (by omega) hij.ok (l[j]'hlt) (by omega) V W h)
        have hpi := hij.put (by omega) hxs
        have hyl := hpi.len
        have hyb := hpi.by'
        have HBY := Lib.hid (fun V W h => bytes_any (putP (bagL (l.take j)) (l[j]'hlt)).1 (by omega) (by omega) V W h)
        have HRB := Lib.hid (fun V W h => rbytes_any (putP (bagL (l.take j)) (l[j]'hlt)).1 (by omega) (by omega) V W h)
        have HOP := Lib.hid (fun V W h => open_any (putP (bagL (l.take j)) (l[j]'hlt)).1 (by omega) V W h)
        have HRO := Lib.hid (fun V W h => ropen_any (putP (bagL (l.take j)) (l[j]'hlt)).1 (by omega) V W h)
        have HSA := Lib.hid (fun V1 V2 W h1 h2 => same_any (putP (bagL (l.take j)) (l[j]'hlt)).1 (by omega) V1 V2 W h1 h2)
        have HOL := Lib.hid (open_len (putP (bagL (l.take j)) (l[j]'hlt)).1 60)
        have HOF : Hid (openL ((putP (bagL (l.take j)) (l[j]'hlt)).1.take 60) = openL (putP (bagL (l.take j)) (l[j]'hlt)).1) := Lib.hid (by rw [List.take_of_length_le (by omega)])
        have HN := Lib.hid (HNX.out j hlt)
        have HRX := Lib.hid hrg
        have q0 : (0 : Int) ≤ (j : Int) := by omega
        have q1 : (j : Int) < (l.length : Int) := by omega
        clear hrg hij hpi hb1 hb2
        generalize l[j] = x at *
        generalize bagL (l.take j) = Bg at *
        generalize (putP Bg x).1 = Y at *
        generalize (putP Bg x).2 = ox at *
        generalize ox.getD zeroMg = mo at *
        generalize hyb2 : ox.isSome = yb at *
        clear hyb2
        have hOL : (openL Y).length ≤ 60 := by rw [← HOF.out]; exact HOL.out
        clear HOL HOF
        go_wp2_with fail
        go_cut [8, 9, 10] from 29 (fun v8 v9 v10 wx => ∃ (wz : World) (ga gb : Nat) (A2 : Option Addr) (k2 : Nat), wz = wx ∧ v8 = .pointer (some ⟨ga, 0, none⟩) ∧ v9 = .pointer (some ⟨gb, 0, none⟩) ∧ v10 = .bool yb ∧ Hid (Bx wz ga 32 #[.slice A2 Y.length k2] ∧ Bx wz gb 39 (cellsMg mo) ∧ RowP wz (.slice A2 Y.length k2) Y ∧ Fresh (g6 + 1) (.slice A2 Y.length k2) ∧ g6 < ga ∧ Below wr.heap.size wr wz))
        case first =>
            have HS : (fun V => Bx V g5 32 #[.slice A Bg.length k] ∧ Below wr.heap.size wr V) wr.drew := ⟨HQ.out.drew, below_drawn (Below.refl _ _)⟩
            refine wp_region_noPanic ?_
            refine wp_region_waits (S := (fun V => Bx V g5 32 #[.slice A Bg.length k] ∧ Below wr.heap.size wr V)) [14] (by kernel_rfl) HS (fun hHeld => ?_)
            clear HS
            refine wpAnyW_take (i := 0) (v := _) (by simp only [List.getElem?_toArray, List.getElem?_cons_zero]; rfl) (by kernel_rfl) (by kernel_rfl) (by kernel_rfl) (by kernel_rfl) (by kernel_rfl) (fun _ _ _ h => h) (yB (ty := 32) (by rfl) rfl rfl (fun V h => h.1) Try.underlying32 rfl infoB) (by assumption) ?_
            try simp only [Act.put, List.setIfInBounds_toArray, List.set_cons_zero, List.set_cons_succ]
            refine wpAnyW_take (i := 1) (v := ?_) (by simp only [List.getElem?_toArray, List.getElem?_cons_succ, List.getElem?_cons_zero]; rfl) (by kernel_rfl) (by kernel_rfl) (by kernel_rfl) (by kernel_rfl) (by kernel_rfl) (fun _ _ _ h => h) (Or.inl ⟨by rfl, ?_⟩) (by assumption) ?_
            rotate_left 1
            · (intro w' hSw; go_simp; try with_reducible rfl)
            try simp only [Act.put, List.setIfInBounds_toArray, List.set_cons_zero, List.set_cons_succ]
            refine wpAnyW_take (i := 2) (v := ?_) (by simp only [List.getElem?_toArray, List.getElem?_cons_succ, List.getElem?_cons_zero]; rfl) (by kernel_rfl) (by kernel_rfl) (by kernel_rfl) (by kernel_rfl) (by kernel_rfl) (fun _ _ _ h => h) (Or.inl ⟨by rfl, ?_⟩) (by assumption) ?_
            rotate_left 1
            · (intro w' hSw; go_simp; try with_reducible rfl)
            try simp only [Act.put, List.setIfInBounds_toArray, List.set_cons_zero, List.set_cons_succ]
            refine wpAnyW_take (i := 3) (v := ?_) (by simp only [List.getElem?_toArray, List.getElem?_cons_succ, List.getElem?_cons_zero]; rfl) (by kernel_rfl) (by kernel_rfl) (by kernel_rfl) (by kernel_rfl) (by kernel_rfl) (fun _ _ _ h => h) (Or.inl ⟨by rfl, ?_⟩) (by assumption) ?_
            rotate_left 1
            · (intro w' hSw; go_simp; try with_reducible rfl)
            try simp only [Act.put, List.setIfInBounds_toArray, List.set_cons_zero, List.set_cons_succ]
            refine wpAnyW_take (i := 4) (v := _) (by simp only [List.getElem?_toArray, List.getElem?_cons_succ, List.getElem?_cons_zero]; rfl) (by kernel_rfl) (by kernel_rfl) (by kernel_rfl) (by kernel_rfl) (by kernel_rfl) (fun _ _ _ h => h) (yPc (ty := 43) (by rfl) rfl rfl (fun V h => range_below HRG.out hbw h.2) Try.underlying43 rfl infoP) (by assumption) ?_
            try simp only [Act.put, List.setIfInBounds_toArray, List.set_cons_zero, List.set_cons_succ]
            refine wpAnyW_three (i := 5) (i2 := 10) (i3 := 11) (by kernel_rfl) (by simp only [List.getElem?_toArray, List.getElem?_cons_succ, List.getElem?_cons_zero]; rfl) (by simp only [List.getElem?_toArray, List.getElem?_cons_succ, List.getElem?_cons_zero]; rfl) (by simp only [List.getElem?_toArray, List.getElem?_cons_succ, List.getElem?_cons_zero]; rfl) (fun K hK => ?_) (fun K hK => ?_) (fun K hK => ?_)
            · rw [if_pos (by rfl)]
              go_simp
              refine (HPU.out _ _ (HRS.out.below hHeld.2)).mono ?_
              rintro _ u5 ⟨A5, k5, rfl, hr, hf, hb⟩
              have HS : (fun V => Bx V g5 32 #[.slice A Bg.length k] ∧ Below wr.heap.size wr V) _ := ⟨hHeld.1.later hb, hHeld.2.trans (hb.mono hHeld.2.size)⟩
              have HR5 := Lib.hid hr
              have HF5 := Lib.hid (hf.less (show g6 + 1 ≤ _ by have := hHeld.2.size; omega))
              clear hHeld hr hf hb
              go_wp2_with fail
              refine hK.out _ _ HS (fun hHeld => ?_)
              clear hK K HS
              try simp only [Act.put, List.setIfInBounds_toArray, List.set_cons_zero, List.set_cons_succ]
              refine wpAnyW_take (i := 6) (v := ?_) (by simp only [List.getElem?_toArray, List.getElem?_cons_succ, List.getElem?_cons_zero]; rfl) (by kernel_rfl) (by kernel_rfl) (by kernel_rfl) (by kernel_rfl) (by kernel_rfl) (fun _ _ _ h => h) (Or.inl ⟨by rfl, ?_⟩) (by assumption) ?_
              rotate_left 1
              · (intro w' hSw; go_simp; try with_reducible rfl)
              try simp only [Act.put, List.setIfInBounds_toArray, List.set_cons_zero, List.set_cons_succ]
              refine wpAnyW_take (i := 7) (v := ?_) (by simp only [List.getElem?_toArray, List.getElem?_cons_succ, List.getElem?_cons_zero]; rfl) (by kernel_rfl) (by kernel_rfl) (by kernel_rfl) (by kernel_rfl) (by kernel_rfl) (fun _ _ _ h => h) (Or.inl ⟨by rfl, ?_⟩) (by assumption) ?_
              rotate_left 1
              · (intro w' hSw; go_simp; try with_reducible rfl)
              try simp only [Act.put, List.setIfInBounds_toArray, List.set_cons_zero, List.set_cons_succ]
              refine wpAnyW_take (i := 8) (v := ?_) (by simp only [List.getElem?_toArray, List.getElem?_cons_succ, List.getElem?_cons_zero]; rfl) (by kernel_rfl) (by kernel_rfl) (by kernel_rfl) (by kernel_rfl) (by kernel_rfl) (fun _ _ _ h => h) (Or.inl ⟨by rfl, ?_⟩) (by assumption) ?_
              rotate_left 1
              · (intro w' hSw; go_simp; try with_reducible rfl)
              try simp only [Act.put, List.setIfInBounds_toArray, List.set_cons_zero, List.set_cons_succ]
              refine wpAnyW_take (i := 9) (v := ?_) (by simp only [List.getElem?_toArray, List.getElem?_cons_succ, List.getElem?_cons_zero]; rfl) (by kernel_rfl) (by kernel_rfl) (by kernel_rfl) (by kernel_rfl) (by kernel_rfl) (fun _ _ _ h => h) (Or.inl ⟨by rfl, ?_⟩) (by assumption) ?_
              rotate_left 1
              · (intro w' hSw; go_simp; try with_reducible rfl)
              try simp only [Act.put, List.setIfInBounds_toArray, List.set_cons_zero, List.set_cons_succ]
              refine wpAnyW_two (i := 10) (i2 := 11) (by kernel_rfl) (by simp only [List.getElem?_toArray, List.getElem?_cons_succ, List.getElem?_cons_zero]; rfl) (by simp only [List.getElem?_toArray, List.getElem?_cons_succ, List.getElem?_cons_zero]; rfl) (fun K hK => ?_) (fun K hK => ?_)
              · rw [if_pos (by rfl)]
                obtain ⟨v1, hv1, HXa, HBv1, hsv1⟩ := one_open u5 32 #[.slice none 0 0]
                obtain ⟨ga, hga⟩ : ∃ g, u5.heap.size = g := ⟨_, rfl⟩
                rw [hga] at HXa hsv1
                have HS : (fun V => Bx V g5 32 #[.slice A Bg.length k] ∧ Below wr.heap.size wr V) _ := ⟨hHeld.1.later HBv1.out, hHeld.2.trans (HBv1.out.mono hHeld.2.size)⟩
                have hzga : wr.heap.size ≤ ga := by have := hHeld.2.size; omega
                have HNga := Lib.hid (Apart.new HR5.out (Nat.le_of_eq hga))
                replace HR5 := Lib.hid (RowP.below HR5.out HBv1.out)
                clear hHeld HBv1 hsv1
                go_simp
                refine hK.out _ _ HS (fun hHeld => ?_)
                clear hK K HS
                try simp only [Act.put, List.setIfInBounds_toArray, List.set_cons_zero, List.set_cons_succ]
                clear hga
                refine wpAnyW_held (i := 11) (by kernel_rfl) (by simp only [List.getElem?_toArray, List.getElem?_cons_succ, List.getElem?_cons_zero]; rfl) (fun K hK => ?_)
                rw [if_pos (by rfl)]
                obtain ⟨v2, hv2, HXb, HBv2, hsv2⟩ := one_open v1 39 #[.int .u32 0, .bool false, .int .u16 0, .int .u16 0, .int .u32 0, .string ⟨#[]⟩]
                obtain ⟨gb, hgb⟩ : ∃ g, v1.heap.size = g := ⟨_, rfl⟩
                rw [hgb] at HXb hsv2
                have HS : (fun V => Bx V g5 32 #[.slice A Bg.length k] ∧ Below wr.heap.size wr V) _ := ⟨hHeld.1.later HBv2.out, hHeld.2.trans (HBv2.out.mono hHeld.2.size)⟩
                have hzgb : wr.heap.size ≤ gb := by have := hHeld.2.size; omega
                have HNgb := Lib.hid (Apart.new HR5.out (Nat.le_of_eq hgb))
                replace HR5 := Lib.hid (RowP.below HR5.out HBv2.out)
                have hneab : ga ≠ gb := by have := HXa.out.lt; omega
                replace HXa := Lib.hid (HXa.out.later HBv2.out)
                clear hHeld HBv2 hsv2
                go_simp
                refine hK.out _ _ HS (fun hHeld => ?_)
                clear hK K HS
                try simp only [Act.put, List.setIfInBounds_toArray, List.set_cons_zero, List.set_cons_succ]
                clear hgb
                refine wpAnyW_held (i := 12) (by kernel_rfl) (by simp only [List.getElem?_toArray, List.getElem?_cons_succ, List.getElem?_cons_zero]; rfl) (fun K hK => ?_)
                rw [if_pos (by rfl)]
                refine wpB (ty := 32) #[.slice A5 Y.length k5] rfl rfl rfl HXa.out infoB rfl (cellsB_one _ _ _) ?_
                intro y1 ht hg
                have HS : (fun V => Bx V g5 32 #[.slice A Bg.length k] ∧ Below wr.heap.size wr V) _ := ⟨hHeld.1.kept hg (by omega), below_of_grown1 hHeld.2 hg hHeld.2.size hzga⟩
                replace HXb := Lib.hid (HXb.out.kept hg (by omega))
                replace HR5 := Lib.hid (RowP.keptA HR5.out HNga.out hg)
                replace HXa := Lib.hid ht
                clear ht hg hHeld
                refine hK.out _ _ HS (fun hHeld => ?_)
                clear hK K HS
                try simp only [Act.put, List.setIfInBounds_toArray, List.set_cons_zero, List.set_cons_succ]
                refine wpAnyW_held (i := 13) (by kernel_rfl) (by simp only [List.getElem?_toArray, List.getElem?_cons_succ, List.getElem?_cons_zero]; rfl) (fun K hK => ?_)
                rw [if_pos (by rfl)]
                refine wpB (ty := 39) (cellsMg mo) rfl rfl rfl HXb.out infoM rfl (cellsMg_one _) ?_
                intro y2 ht hg
                have HS : (fun V => Bx V g5 32 #[.slice A Bg.length k] ∧ Below wr.heap.size wr V) _ := ⟨hHeld.1.kept hg (by omega), below_of_grown1 hHeld.2 hg hHeld.2.size hzgb⟩
                replace HXa := Lib.hid (HXa.out.kept hg (by omega))
                replace HR5 := Lib.hid (RowP.keptA HR5.out HNgb.out hg)
                replace HXb := Lib.hid ht
                clear ht hg hHeld
                refine hK.out _ _ HS (fun hHeld => ?_)
                clear hK K HS
                try simp only [Act.put, List.setIfInBounds_toArray, List.set_cons_zero, List.set_cons_succ]
                refine wpAnyW_freed (i := 14) (by kernel_rfl) (by kernel_rfl) (by simp only [List.getElem?_toArray, List.getElem?_cons_succ, List.getElem?_cons_zero]; rfl) (fun K hK => ?_)
                rw [if_pos (by rfl)]
                go_simp
                have HE := Lib.hid hHeld
                refine hK.out _ _ ?_
                clear hK K hHeld
                try simp only [Act.put, List.setIfInBounds_toArray, List.set_cons_zero, List.set_cons_succ]
                refine wpAnyW_done (by kernel_rfl) ?_ _
                refine NoPanic.normal ?_
                go_wp2_with fail
                go_meet
                exact ⟨_, ga, gb, A5, k5, rfl, rfl, rfl, rfl, Lib.hid ⟨HXa.out, HXb.out, HR5.out, HF5.out, by omega, HE.out.2⟩⟩
              · rw [if_pos (by rfl)]
                obtain ⟨v1, hv1, HXb, HBv1, hsv1⟩ := one_open u5 39 #[.int .u32 0, .bool false, .int .u16 0, .int .u16 0, .int .u32 0, .string ⟨#[]⟩]
                obtain ⟨gb, hgb⟩ : ∃ g, u5.heap.size = g := ⟨_, rfl⟩
                rw [hgb] at HXb hsv1
                have HS : (fun V => Bx V g5 32 #[.slice A Bg.length k] ∧ Below wr.heap.size wr V) _ := ⟨hHeld.1.later HBv1.out, hHeld.2.trans (HBv1.out.mono hHeld.2.size)⟩
                have hzgb : wr.heap.size ≤ gb := by have := hHeld.2.size; omega
                have HNgb := Lib.hid (Apart.new HR5.out (Nat.le_of_eq hgb))
                replace HR5 := Lib.hid (RowP.below HR5.out HBv1.out)
                clear hHeld HBv1 hsv1
                go_simp
                refine hK.out _ _ HS (fun hHeld => ?_)
                clear hK K HS
                try simp only [Act.put, List.setIfInBounds_toArray, List.set_cons_zero, List.set_cons_succ]
                clear hgb
                refine wpAnyW_held (i := 10) (by kernel_rfl) (by simp only [List.getElem?_toArray, List.getElem?_cons_succ, List.getElem?_cons_zero]; rfl) (fun K hK => ?_)
                rw [if_pos (by rfl)]
                obtain ⟨v2, hv2, HXa, HBv2, hsv2⟩ := one_open v1 32 #[.slice none 0 0]
                obtain ⟨ga, hga⟩ : ∃ g, v1.heap.size = g := ⟨_, rfl⟩
                rw [hga] at HXa hsv2
                have HS : (fun V => Bx V g5 32 #[.slice A Bg.length k] ∧ Below wr.heap.size wr V) _ := ⟨hHeld.1.later HBv2.out, hHeld.2.trans (HBv2.out.mono hHeld.2.size)⟩
                have hzga : wr.heap.size ≤ ga := by have := hHeld.2.size; omega
                have HNga := Lib.hid (Apart.new HR5.out (Nat.le_of_eq hga))
                replace HR5 := Lib.hid (RowP.below HR5.out HBv2.out)
                have hneab : gb ≠ ga := by have := HXb.out.lt; omega
                replace HXb := Lib.hid (HXb.out.later HBv2.out)
                clear hHeld HBv2 hsv2
                go_simp
                refine hK.out _ _ HS (fun hHeld => ?_)
                clear hK K HS
                try simp only [Act.put, List.setIfInBounds_toArray, List.set_cons_zero, List.set_cons_succ]
                clear hga
                refine wpAnyW_held (i := 12) (by kernel_rfl) (by simp only [List.getElem?_toArray, List.getElem?_cons_succ, List.getElem?_cons_zero]; rfl) (fun K hK => ?_)
                rw [if_pos (by rfl)]
                refine wpB (ty := 32) #[.slice A5 Y.length k5] rfl rfl rfl HXa.out infoB rfl (cellsB_one _ _ _) ?_
                intro y1 ht hg
                have HS : (fun V => Bx V g5 32 #[.slice A Bg.length k] ∧ Below wr.heap.size wr V) _ := ⟨hHeld.1.kept hg (by omega), below_of_grown1 hHeld.2 hg hHeld.2.size hzga⟩
                replace HXb := Lib.hid (HXb.out.kept hg (by omega))
                replace HR5 := Lib.hid (RowP.keptA HR5.out HNga.out hg)
                replace HXa := Lib.hid ht
                clear ht hg hHeld
                refine hK.out _ _ HS (fun hHeld => ?_)
                clear hK K HS
                try simp only [Act.put, List.setIfInBounds_toArray, List.set_cons_zero, List.set_cons_succ]
                refine wpAnyW_held (i := 13) (by kernel_rfl) (by simp only [List.getElem?_toArray, List.getElem?_cons_succ, List.getElem?_cons_zero]; rfl) (fun K hK => ?_)
                rw [if_pos (by rfl)]
                refine wpB (ty := 39) (cellsMg mo) rfl rfl rfl HXb.out infoM rfl (cellsMg_one _) ?_
                intro y2 ht hg
                have HS : (fun V => Bx V g5 32 #[.slice A Bg.length k] ∧ Below wr.heap.size wr V) _ := ⟨hHeld.1.kept hg (by omega), below_of_grown1 hHeld.2 hg hHeld.2.size hzgb⟩
                replace HXa := Lib.hid (HXa.out.kept hg (by omega))
                replace HR5 := Lib.hid (RowP.keptA HR5.out HNgb.out hg)
                replace HXb := Lib.hid ht
                clear ht hg hHeld
                refine hK.out _ _ HS (fun hHeld => ?_)
                clear hK K HS
                try simp only [Act.put, List.setIfInBounds_toArray, List.set_cons_zero, List.set_cons_succ]
                refine wpAnyW_freed (i := 14) (by kernel_rfl) (by kernel_rfl) (by simp only [List.getElem?_toArray, List.getElem?_cons_succ, List.getElem?_cons_zero]; rfl) (fun K hK => ?_)
                rw [if_pos (by rfl)]
                go_simp
                have HE := Lib.hid hHeld
                refine hK.out _ _ ?_
                clear hK K hHeld
                try simp only [Act.put, List.setIfInBounds_toArray, List.set_cons_zero, List.set_cons_succ]
                refine wpAnyW_done (by kernel_rfl) ?_ _
                refine NoPanic.normal ?_
                go_wp2_with fail
                go_meet
                exact ⟨_, ga, gb, A5, k5, rfl, rfl, rfl, rfl, Lib.hid ⟨HXa.out, HXb.out, HR5.out, HF5.out, by omega, HE.out.2⟩⟩
            · rw [if_pos (by rfl)]
              obtain ⟨v0, hv0, HXa, HBv0, hsv0⟩ := one_open wr.drew 32 #[.slice none 0 0]
              obtain ⟨ga, hga⟩ : ∃ g, wr.drew.heap.size = g := ⟨_, rfl⟩
              rw [hga] at HXa hsv0
              have HS : (fun V => Bx V g5 32 #[.slice A Bg.length k] ∧ Below wr.heap.size wr V) _ := ⟨hHeld.1.later HBv0.out, hHeld.2.trans (HBv0.out.mono hHeld.2.size)⟩
              have hzga : wr.heap.size ≤ ga := by have := hHeld.2.size; omega
              clear hHeld HBv0 hsv0
              go_simp
              refine hK.out _ _ HS (fun hHeld => ?_)
              clear hK K HS
              try simp only [Act.put, List.setIfInBounds_toArray, List.set_cons_zero, List.set_cons_succ]
              clear hga
              refine wpAnyW_two (i := 5) (i2 := 11) (by kernel_rfl) (by simp only [List.getElem?_toArray, List.getElem?_cons_succ, List.getElem?_cons_zero]; rfl) (by simp only [List.getElem?_toArray, List.getElem?_cons_succ, List.getElem?_cons_zero]; rfl) (fun K hK => ?_) (fun K hK => ?_)
              · rw [if_pos (by rfl)]
                go_simp
                refine (HPU.out _ _ (HRS.out.below hHeld.2)).mono ?_
                rintro _ u5 ⟨A5, k5, rfl, hr, hf, hb⟩
                have HS : (fun V => Bx V g5 32 #[.slice A Bg.length k] ∧ Below wr.heap.size wr V) _ := ⟨hHeld.1.later hb, hHeld.2.trans (hb.mono hHeld.2.size)⟩
                have HR5 := Lib.hid hr
                have HNga := Lib.hid (Apart.freshOf hr hf (show ga < _ by have := HXa.out.lt; omega))
                replace HXa := Lib.hid (HXa.out.later hb)
                have HF5 := Lib.hid (hf.less (show g6 + 1 ≤ _ by have := hHeld.2.size; omega))
                clear hHeld hr hf hb
                go_wp2_with fail
                refine hK.out _ _ HS (fun hHeld => ?_)
                clear hK K HS
                try simp only [Act.put, List.setIfInBounds_toArray, List.set_cons_zero, List.set_cons_succ]
                refine wpAnyW_take (i := 6) (v := ?_) (by simp only [List.getElem?_toArray, List.getElem?_cons_succ, List.getElem?_cons_zero]; rfl) (by kernel_rfl) (by kernel_rfl) (by kernel_rfl) (by kernel_rfl) (by kernel_rfl) (fun _ _ _ h => h) (Or.inl ⟨by rfl, ?_⟩) (by assumption) ?_
                rotate_left 1
                · (intro w' hSw; go_simp; try with_reducible rfl)
                try simp only [Act.put, List.setIfInBounds_toArray, List.set_cons_zero, List.set_cons_succ]
                refine wpAnyW_take (i := 7) (v := ?_) (by simp only [List.getElem?_toArray, List.getElem?_cons_succ, List.getElem?_cons_zero]; rfl) (by kernel_rfl) (by kernel_rfl) (by kernel_rfl) (by kernel_rfl) (by kernel_rfl) (fun _ _ _ h => h) (Or.inl ⟨by rfl, ?_⟩) (by assumption) ?_
                rotate_left 1
                · (intro w' hSw; go_simp; try with_reducible rfl)
                try simp only [Act.put, List.setIfInBounds_toArray, List.set_cons_zero, List.set_cons_succ]
                refine wpAnyW_take (i := 8) (v := ?_) (by simp only [List.getElem?_toArray, List.getElem?_cons_succ, List.getElem?_cons_zero]; rfl) (by kernel_rfl) (by kernel_rfl) (by kernel_rfl) (by kernel_rfl) (by kernel_rfl) (fun _ _ _ h => h) (Or.inl ⟨by rfl, ?_⟩) (by assumption) ?_
                rotate_left 1
                · (intro w' hSw; go_simp; try with_reducible rfl)
                try simp only [Act.put, List.setIfInBounds_toArray, List.set_cons_zero, List.set_cons_succ]
                refine wpAnyW_take (i := 9) (v := ?_) (by simp only [List.getElem?_toArray, List.getElem?_cons_succ, List.getElem?_cons_zero]; rfl) (by kernel_rfl) (by kernel_rfl) (by kernel_rfl) (by kernel_rfl) (by kernel_rfl) (fun _ _ _ h => h) (Or.inl ⟨by rfl, ?_⟩) (by assumption) ?_
                rotate_left 1
                · (intro w' hSw; go_simp; try with_reducible rfl)
                try simp only [Act.put, List.setIfInBounds_toArray, List.set_cons_zero, List.set_cons_succ]
                refine wpAnyW_held (i := 11) (by kernel_rfl) (by simp only [List.getElem?_toArray, List.getElem?_cons_succ, List.getElem?_cons_zero]; rfl) (fun K hK => ?_)
                rw [if_pos (by rfl)]
                obtain ⟨v2, hv2, HXb, HBv2, hsv2⟩ := one_open u5 39 #[.int .u32 0, .bool false, .int .u16 0, .int .u16 0, .int .u32 0, .string ⟨#[]⟩]
                obtain ⟨gb, hgb⟩ : ∃ g, u5.heap.size = g := ⟨_, rfl⟩
                rw [hgb] at HXb hsv2
                have HS : (fun V => Bx V g5 32 #[.slice A Bg.length k] ∧ Below wr.heap.size wr V) _ := ⟨hHeld.1.later HBv2.out, hHeld.2.trans (HBv2.out.mono hHeld.2.size)⟩
                have hzgb : wr.heap.size ≤ gb := by have := hHeld.2.size; omega
                have HNgb := Lib.hid (Apart.new HR5.out (Nat.le_of_eq hgb))
                replace HR5 := Lib.hid (RowP.below HR5.out HBv2.out)
                have hneab : ga ≠ gb := by have := HXa.out.lt; omega
                replace HXa := Lib.hid (HXa.out.later HBv2.out)
                clear hHeld HBv2 hsv2
                go_simp
                refine hK.out _ _ HS (fun hHeld => ?_)
                clear hK K HS
                try simp only [Act.put, List.setIfInBounds_toArray, List.set_cons_zero, List.set_cons_succ]
                clear hgb
                refine wpAnyW_held (i := 12) (by kernel_rfl) (by simp only [List.getElem?_toArray, List.getElem?_cons_succ, List.getElem?_cons_zero]; rfl) (fun K hK => ?_)
                rw [if_pos (by rfl)]
                refine wpB (ty := 32) #[.slice A5 Y.length k5] rfl rfl rfl HXa.out infoB rfl (cellsB_one _ _ _) ?_
                intro y1 ht hg
                have HS : (fun V => Bx V g5 32 #[.slice A Bg.length k] ∧ Below wr.heap.size wr V) _ := ⟨hHeld.1.kept hg (by omega), below_of_grown1 hHeld.2 hg hHeld.2.size hzga⟩
                replace HXb := Lib.hid (HXb.out.kept hg (by omega))
                replace HR5 := Lib.hid (RowP.keptA HR5.out HNga.out hg)
                replace HXa := Lib.hid ht
                clear ht hg hHeld
                refine hK.out _ _ HS (fun hHeld => ?_)
                clear hK K HS
                try simp only [Act.put, List.setIfInBounds_toArray, List.set_cons_zero, List.set_cons_succ]
                refine wpAnyW_held (i := 13) (by kernel_rfl) (by simp only [List.getElem?_toArray, List.getElem?_cons_succ, List.getElem?_cons_zero]; rfl) (fun K hK => ?_)
                rw [if_pos (by rfl)]
                refine wpB (ty := 39) (cellsMg mo) rfl rfl rfl HXb.out infoM rfl (cellsMg_one _) ?_
                intro y2 ht hg
                have HS : (fun V => Bx V g5 32 #[.slice A Bg.length k] ∧ Below wr.heap.size wr V) _ := ⟨hHeld.1.kept hg (by omega), below_of_grown1 hHeld.2 hg hHeld.2.size hzgb⟩
                replace HXa := Lib.hid (HXa.out.kept hg (by omega))
                replace HR5 := Lib.hid (RowP.keptA HR5.out HNgb.out hg)
                replace HXb := Lib.hid ht
                clear ht hg hHeld
                refine hK.out _ _ HS (fun hHeld => ?_)
                clear hK K HS
                try simp only [Act.put, List.setIfInBounds_toArray, List.set_cons_zero, List.set_cons_succ]
                refine wpAnyW_freed (i := 14) (by kernel_rfl) (by kernel_rfl) (by simp only [List.getElem?_toArray, List.getElem?_cons_succ, List.getElem?_cons_zero]; rfl) (fun K hK => ?_)
                rw [if_pos (by rfl)]
                go_simp
                have HE := Lib.hid hHeld
                refine hK.out _ _ ?_
                clear hK K hHeld
                try simp only [Act.put, List.setIfInBounds_toArray, List.set_cons_zero, List.set_cons_succ]
                refine wpAnyW_done (by kernel_rfl) ?_ _
                refine NoPanic.normal ?_
                go_wp2_with fail
                go_meet
                exact ⟨_, ga, gb, A5, k5, rfl, rfl, rfl, rfl, Lib.hid ⟨HXa.out, HXb.out, HR5.out, HF5.out, by omega, HE.out.2⟩⟩
              · rw [if_pos (by rfl)]
                obtain ⟨v1, hv1, HXb, HBv1, hsv1⟩ := one_open v0 39 #[.int .u32 0, .bool false, .int .u16 0, .int .u16 0, .int .u32 0, .string ⟨#[]⟩]
                obtain ⟨gb, hgb⟩ : ∃ g, v0.heap.size = g := ⟨_, rfl⟩
                rw [hgb] at HXb hsv1
                have HS : (fun V => Bx V g5 32 #[.slice A Bg.length k] ∧ Below wr.heap.size wr V) _ := ⟨hHeld.1.later HBv1.out, hHeld.2.trans (HBv1.out.mono hHeld.2.size)⟩
                have hzgb : wr.heap.size ≤ gb := by have := hHeld.2.size; omega
                have hneab : ga ≠ gb := by have := HXa.out.lt; omega
                replace HXa := Lib.hid (HXa.out.later HBv1.out)
                clear hHeld HBv1 hsv1
                go_simp
                refine hK.out _ _ HS (fun hHeld => ?_)
                clear hK K HS
                try simp only [Act.put, List.setIfInBounds_toArray, List.set_cons_zero, List.set_cons_succ]
                clear hgb
                refine wpAnyW_held (i := 5) (by kernel_rfl) (by simp only [List.getElem?_toArray, List.getElem?_cons_succ, List.getElem?_cons_zero]; rfl) (fun K hK => ?_)
                rw [if_pos (by rfl)]
                go_simp
                refine (HPU.out _ _ (HRS.out.below hHeld.2)).mono ?_
                rintro _ u5 ⟨A5, k5, rfl, hr, hf, hb⟩
                have HS : (fun V => Bx V g5 32 #[.slice A Bg.length k] ∧ Below wr.heap.size wr V) _ := ⟨hHeld.1.later hb, hHeld.2.trans (hb.mono hHeld.2.size)⟩
                have HR5 := Lib.hid hr
                have HNga := Lib.hid (Apart.freshOf hr hf (show ga < _ by have := HXa.out.lt; omega))
                replace HXa := Lib.hid (HXa.out.later hb)
                have HNgb := Lib.hid (Apart.freshOf hr hf (show gb < _ by have := HXb.out.lt; omega))
                replace HXb := Lib.hid (HXb.out.later hb)
                have HF5 := Lib.hid (hf.less (show g6 + 1 ≤ _ by have := hHeld.2.size; omega))
                clear hHeld hr hf hb
                go_wp2_with fail
                refine hK.out _ _ HS (fun hHeld => ?_)
                clear hK K HS
                try simp only [Act.put, List.setIfInBounds_toArray, List.set_cons_zero, List.set_cons_succ]
                refine wpAnyW_take (i := 6) (v := ?_) (by simp only [List.getElem?_toArray, List.getElem?_cons_succ, List.getElem?_cons_zero]; rfl) (by kernel_rfl) (by kernel_rfl) (by kernel_rfl) (by kernel_rfl) (by kernel_rfl) (fun _ _ _ h => h) (Or.inl ⟨by rfl, ?_⟩) (by assumption) ?_
                rotate_left 1
                · (intro w' hSw; go_simp; try with_reducible rfl)
                try simp only [Act.put, List.setIfInBounds_toArray, List.set_cons_zero, List.set_cons_succ]
                refine wpAnyW_take (i := 7) (v := ?_) (by simp only [List.getElem?_toArray, List.getElem?_cons_succ, List.getElem?_cons_zero]; rfl) (by kernel_rfl) (by kernel_rfl) (by kernel_rfl) (by kernel_rfl) (by kernel_rfl) (fun _ _ _ h => h) (Or.inl ⟨by rfl, ?_⟩) (by assumption) ?_
                rotate_left 1
                · (intro w' hSw; go_simp; try with_reducible rfl)
                try simp only [Act.put, List.setIfInBounds_toArray, List.set_cons_zero, List.set_cons_succ]
                refine wpAnyW_take (i := 8) (v := ?_) (by simp only [List.getElem?_toArray, List.getElem?_cons_succ, List.getElem?_cons_zero]; rfl) (by kernel_rfl) (by kernel_rfl) (by kernel_rfl) (by kernel_rfl) (by kernel_rfl) (fun _ _ _ h => h) (Or.inl ⟨by rfl, ?_⟩) (by assumption) ?_
                rotate_left 1
                · (intro w' hSw; go_simp; try with_reducible rfl)
                try simp only [Act.put, List.setIfInBounds_toArray, List.set_cons_zero, List.set_cons_succ]
                refine wpAnyW_take (i := 9) (v := ?_) (by simp only [List.getElem?_toArray, List.getElem?_cons_succ, List.getElem?_cons_zero]; rfl) (by kernel_rfl) (by kernel_rfl) (by kernel_rfl) (by kernel_rfl) (by kernel_rfl) (fun _ _ _ h => h) (Or.inl ⟨by rfl, ?_⟩) (by assumption) ?_
                rotate_left 1
                · (intro w' hSw; go_simp; try with_reducible rfl)
                try simp only [Act.put, List.setIfInBounds_toArray, List.set_cons_zero, List.set_cons_succ]
                refine wpAnyW_held (i := 12) (by kernel_rfl) (by simp only [List.getElem?_toArray, List.getElem?_cons_succ, List.getElem?_cons_zero]; rfl) (fun K hK => ?_)
                rw [if_pos (by rfl)]
                refine wpB (ty := 32) #[.slice A5 Y.length k5] rfl rfl rfl HXa.out infoB rfl (cellsB_one _ _ _) ?_
                intro y1 ht hg
                have HS : (fun V => Bx V g5 32 #[.slice A Bg.length k] ∧ Below wr.heap.size wr V) _ := ⟨hHeld.1.kept hg (by omega), below_of_grown1 hHeld.2 hg hHeld.2.size hzga⟩
                replace HXb := Lib.hid (HXb.out.kept hg (by omega))
                replace HR5 := Lib.hid (RowP.keptA HR5.out HNga.out hg)
                replace HXa := Lib.hid ht
                clear ht hg hHeld
                refine hK.out _ _ HS (fun hHeld => ?_)
                clear hK K HS
                try simp only [Act.put, List.setIfInBounds_toArray, List.set_cons_zero, List.set_cons_succ]
                refine wpAnyW_held (i := 13) (by kernel_rfl) (by simp only [List.getElem?_toArray, List.getElem?_cons_succ, List.getElem?_cons_zero]; rfl) (fun K hK => ?_)
                rw [if_pos (by rfl)]
                refine wpB (ty := 39) (cellsMg mo) rfl rfl rfl HXb.out infoM rfl (cellsMg_one _) ?_
                intro y2 ht hg
                have HS : (fun V => Bx V g5 32 #[.slice A Bg.length k] ∧ Below wr.heap.size wr V) _ := ⟨hHeld.1.kept hg (by omega), below_of_grown1 hHeld.2 hg hHeld.2.size hzgb⟩
                replace HXa := Lib.hid (HXa.out.kept hg (by omega))
                replace HR5 := Lib.hid (RowP.keptA HR5.out HNgb.out hg)
                replace HXb := Lib.hid ht
                clear ht hg hHeld
                refine hK.out _ _ HS (fun hHeld => ?_)
                clear hK K HS
                try simp only [Act.put, List.setIfInBounds_toArray, List.set_cons_zero, List.set_cons_succ]
                refine wpAnyW_freed (i := 14) (by kernel_rfl) (by kernel_rfl) (by simp only [List.getElem?_toArray, List.getElem?_cons_succ, List.getElem?_cons_zero]; rfl) (fun K hK => ?_)
                rw [if_pos (by rfl)]
                go_simp
                have HE := Lib.hid hHeld
                refine hK.out _ _ ?_
                clear hK K hHeld
                try simp only [Act.put, List.setIfInBounds_toArray, List.set_cons_zero, List.set_cons_succ]
                refine wpAnyW_done (by kernel_rfl) ?_ _
                refine NoPanic.normal ?_
                go_wp2_with fail
                go_meet
                exact ⟨_, ga, gb, A5, k5, rfl, rfl, rfl, rfl, Lib.hid ⟨HXa.out, HXb.out, HR5.out, HF5.out, by omega, HE.out.2⟩⟩
            · rw [if_pos (by rfl)]
              obtain ⟨v0, hv0, HXb, HBv0, hsv0⟩ := one_open wr.drew 39 #[.int .u32 0, .bool false, .int .u16 0, .int .u16 0, .int .u32 0, .string ⟨#[]⟩]
              obtain ⟨gb, hgb⟩ : ∃ g, wr.drew.heap.size = g := ⟨_, rfl⟩
              rw [hgb] at HXb hsv0
              have HS : (fun V => Bx V g5 32 #[.slice A Bg.length k] ∧ Below wr.heap.size wr V) _ := ⟨hHeld.1.later HBv0.out, hHeld.2.trans (HBv0.out.mono hHeld.2.size)⟩
              have hzgb : wr.heap.size ≤ gb := by have := hHeld.2.size; omega
              clear hHeld HBv0 hsv0
              go_simp
              refine hK.out _ _ HS (fun hHeld => ?_)
              clear hK K HS
              try simp only [Act.put, List.setIfInBounds_toArray, List.set_cons_zero, List.set_cons_succ]
              clear hgb
              refine wpAnyW_two (i := 5) (i2 := 10) (by kernel_rfl) (by simp only [List.getElem?_toArray, List.getElem?_cons_succ, List.getElem?_cons_zero]; rfl) (by simp only [List.getElem?_toArray, List.getElem?_cons_succ, List.getElem?_cons_zero]; rfl) (fun K hK => ?_) (fun K hK => ?_)
              · rw [if_pos (by rfl)]
                go_simp
                refine (HPU.out _ _ (HRS.out.below hHeld.2)).mono ?_
                rintro _ u5 ⟨A5, k5, rfl, hr, hf, hb⟩
                have HS : (fun V => Bx V g5 32 #[.slice A Bg.length k] ∧ Below wr.heap.size wr V) _ := ⟨hHeld.1.later hb, hHeld.2.trans (hb.mono hHeld.2.size)⟩
                have HR5 := Lib.hid hr
                have HNgb := Lib.hid (Apart.freshOf hr hf (show gb < _ by have := HXb.out.lt; omega))
                replace HXb := Lib.hid (HXb.out.later hb)
                have HF5 := Lib.hid (hf.less (show g6 + 1 ≤ _ by have := hHeld.2.size; omega))
                clear hHeld hr hf hb
                go_wp2_with fail
                refine hK.out _ _ HS (fun hHeld => ?_)
                clear hK K HS
                try simp only [Act.put, List.setIfInBounds_toArray, List.set_cons_zero, List.set_cons_succ]
                refine wpAnyW_take (i := 6) (v := ?_) (by simp only [List.getElem?_toArray, List.getElem?_cons_succ, List.getElem?_cons_zero]; rfl) (by kernel_rfl) (by kernel_rfl) (by kernel_rfl) (by kernel_rfl) (by kernel_rfl) (fun _ _ _ h => h) (Or.inl ⟨by rfl, ?_⟩) (by assumption) ?_
                rotate_left 1
                · (intro w' hSw; go_simp; try with_reducible rfl)
                try simp only [Act.put, List.setIfInBounds_toArray, List.set_cons_zero, List.set_cons_succ]
                refine wpAnyW_take (i := 7) (v := ?_) (by simp only [List.getElem?_toArray, List.getElem?_cons_succ, List.getElem?_cons_zero]; rfl) (by kernel_rfl) (by kernel_rfl) (by kernel_rfl) (by kernel_rfl) (by kernel_rfl) (fun _ _ _ h => h) (Or.inl ⟨by rfl, ?_⟩) (by assumption) ?_
                rotate_left 1
                · (intro w' hSw; go_simp; try with_reducible rfl)
                try simp only [Act.put, List.setIfInBounds_toArray, List.set_cons_zero, List.set_cons_succ]
                refine wpAnyW_take (i := 8) (v := ?_) (by simp only [List.getElem?_toArray, List.getElem?_cons_succ, List.getElem?_cons_zero]; rfl) (by kernel_rfl) (by kernel_rfl) (by kernel_rfl) (by kernel_rfl) (by kernel_rfl) (fun _ _ _ h => h) (Or.inl ⟨by rfl, ?_⟩) (by assumption) ?_
                rotate_left 1
                · (intro w' hSw; go_simp; try with_reducible rfl)
                try simp only [Act.put, List.setIfInBounds_toArray, List.set_cons_zero, List.set_cons_succ]
                refine wpAnyW_take (i := 9) (v := ?_) (by simp only [List.getElem?_toArray, List.getElem?_cons_succ, List.getElem?_cons_zero]; rfl) (by kernel_rfl) (by kernel_rfl) (by kernel_rfl) (by kernel_rfl) (by kernel_rfl) (fun _ _ _ h => h) (Or.inl ⟨by rfl, ?_⟩) (by assumption) ?_
                rotate_left 1
                · (intro w' hSw; go_simp; try with_reducible rfl)
                try simp only [Act.put, List.setIfInBounds_toArray, List.set_cons_zero, List.set_cons_succ]
                refine wpAnyW_held (i := 10) (by kernel_rfl) (by simp only [List.getElem?_toArray, List.getElem?_cons_succ, List.getElem?_cons_zero]; rfl) (fun K hK => ?_)
                rw [if_pos (by rfl)]
                obtain ⟨v2, hv2, HXa, HBv2, hsv2⟩ := one_open u5 32 #[.slice none 0 0]
                obtain ⟨ga, hga⟩ : ∃ g, u5.heap.size = g := ⟨_, rfl⟩
                rw [hga] at HXa hsv2
                have HS : (fun V => Bx V g5 32 #[.slice A Bg.length k] ∧ Below wr.heap.size wr V) _ := ⟨hHeld.1.later HBv2.out, hHeld.2.trans (HBv2.out.mono hHeld.2.size)⟩
                have hzga : wr.heap.size ≤ ga := by have := hHeld.2.size; omega
                have HNga := Lib.hid (Apart.new HR5.out (Nat.le_of_eq hga))
                replace HR5 := Lib.hid (RowP.below HR5.out HBv2.out)
                have hneab : gb ≠ ga := by have := HXb.out.lt; omega
                replace HXb := Lib.hid (HXb.out.later HBv2.out)
                clear hHeld HBv2 hsv2
                go_simp
                refine hK.out _ _ HS (fun hHeld => ?_)
                clear hK K HS
                try simp only [Act.put, List.setIfInBounds_toArray, List.set_cons_zero, List.set_cons_succ]
                clear hga
                refine wpAnyW_held (i := 12) (by kernel_rfl) (by simp only [List.getElem?_toArray, List.getElem?_cons_succ, List.getElem?_cons_zero]; rfl) (fun K hK => ?_)
                rw [if_pos (by rfl)]
                refine wpB (ty := 32) #[.slice A5 Y.length k5] rfl rfl rfl HXa.out infoB rfl (cellsB_one _ _ _) ?_
                intro y1 ht hg
                have HS : (fun V => Bx V g5 32 #[.slice A Bg.length k] ∧ Below wr.heap.size wr V) _ := ⟨hHeld.1.kept hg (by omega), below_of_grown1 hHeld.2 hg hHeld.2.size hzga⟩
                replace HXb := Lib.hid (HXb.out.kept hg (by omega))
                replace HR5 := Lib.hid (RowP.keptA HR5.out HNga.out hg)
                replace HXa := Lib.hid ht
                clear ht hg hHeld
                refine hK.out _ _ HS (fun hHeld => ?_)
                clear hK K HS
                try simp only [Act.put, List.setIfInBounds_toArray, List.set_cons_zero, List.set_cons_succ]
                refine wpAnyW_held (i := 13) (by kernel_rfl) (by simp only [List.getElem?_toArray, List.getElem?_cons_succ, List.getElem?_cons_zero]; rfl) (fun K hK => ?_)
                rw [if_pos (by rfl)]
                refine wpB (ty := 39) (cellsMg mo) rfl rfl rfl HXb.out infoM rfl (cellsMg_one _) ?_
                intro y2 ht hg
                have HS : (fun V => Bx V g5 32 #[.slice A Bg.length k] ∧ Below wr.heap.size wr V) _ := ⟨hHeld.1.kept hg (by omega), below_of_grown1 hHeld.2 hg hHeld.2.size hzgb⟩
                replace HXa := Lib.hid (HXa.out.kept hg (by omega))
                replace HR5 := Lib.hid (RowP.keptA HR5.out HNgb.out hg)
                replace HXb := Lib.hid ht
                clear ht hg hHeld
                refine hK.out _ _ HS (fun hHeld => ?_)
                clear hK K HS
                try simp only [Act.put, List.setIfInBounds_toArray, List.set_cons_zero, List.set_cons_succ]
                refine wpAnyW_freed (i := 14) (by kernel_rfl) (by kernel_rfl) (by simp only [List.getElem?_toArray, List.getElem?_cons_succ, List.getElem?_cons_zero]; rfl) (fun K hK => ?_)
                rw [if_pos (by rfl)]
                go_simp
                have HE := Lib.hid hHeld
                refine hK.out _ _ ?_
                clear hK K hHeld
                try simp only [Act.put, List.setIfInBounds_toArray, List.set_cons_zero, List.set_cons_succ]
                refine wpAnyW_done (by kernel_rfl) ?_ _
                refine NoPanic.normal ?_
                go_wp2_with fail
                go_meet
                exact ⟨_, ga, gb, A5, k5, rfl, rfl, rfl, rfl, Lib.hid ⟨HXa.out, HXb.out, HR5.out, HF5.out, by omega, HE.out.2⟩⟩
              · rw [if_pos (by rfl)]
                obtain ⟨v1, hv1, HXa, HBv1, hsv1⟩ := one_open v0 32 #[.slice none 0 0]
                obtain ⟨ga, hga⟩ : ∃ g, v0.heap.size = g := ⟨_, rfl⟩
                rw [hga] at HXa hsv1
                have HS : (fun V => Bx V g5 32 #[.slice A Bg.length k] ∧ Below wr.heap.size wr V) _ := ⟨hHeld.1.later HBv1.out, hHeld.2.trans (HBv1.out.mono hHeld.2.size)⟩
                have hzga : wr.heap.size ≤ ga := by have := hHeld.2.size; omega
                have hneab : gb ≠ ga := by have := HXb.out.lt; omega
                replace HXb := Lib.hid (HXb.out.later HBv1.out)
                clear hHeld HBv1 hsv1
                go_simp
                refine hK.out _ _ HS (fun hHeld => ?_)
                clear hK K HS
                try simp only [Act.put, List.setIfInBounds_toArray, List.set_cons_zero, List.set_cons_succ]
                clear hga
                refine wpAnyW_held (i := 5) (by kernel_rfl) (by simp only [List.getElem?_toArray, List.getElem?_cons_succ, List.getElem?_cons_zero]; rfl) (fun K hK => ?_)
                rw [if_pos (by rfl)]
                go_simp
                refine (HPU.out _ _ (HRS.out.below hHeld.2)).mono ?_
                rintro _ u5 ⟨A5, k5, rfl, hr, hf, hb⟩
                have HS : (fun V => Bx V g5 32 #[.slice A Bg.length k] ∧ Below wr.heap.size wr V) _ := ⟨hHeld.1.later hb, hHeld.2.trans (hb.mono hHeld.2.size)⟩
                have HR5 := Lib.hid hr
                have HNgb := Lib.hid (Apart.freshOf hr hf (show gb < _ by have := HXb.out.lt; omega))
                replace HXb := Lib.hid (HXb.out.later hb)
                have HNga := Lib.hid (Apart.freshOf hr hf (show ga < _ by have := HXa.out.lt; omega))
                replace HXa := Lib.hid (HXa.out.later hb)
                have HF5 := Lib.hid (hf.less (show g6 + 1 ≤ _ by have := hHeld.2.size; omega))
                clear hHeld hr hf hb
                go_wp2_with fail
                refine hK.out _ _ HS (fun hHeld => ?_)
                clear hK K HS
                try simp only [Act.put, List.setIfInBounds_toArray, List.set_cons_zero, List.set_cons_succ]
                refine wpAnyW_take (i := 6) (v := ?_) (by simp only [List.getElem?_toArray, List.getElem?_cons_succ, List.getElem?_cons_zero]; rfl) (by kernel_rfl) (by kernel_rfl) (by kernel_rfl) (by kernel_rfl) (by kernel_rfl) (fun _ _ _ h => h) (Or.inl ⟨by rfl, ?_⟩) (by assumption) ?_
                rotate_left 1
                · (intro w' hSw; go_simp; try with_reducible rfl)
                try simp only [Act.put, List.setIfInBounds_toArray, List.set_cons_zero, List.set_cons_succ]
                refine wpAnyW_take (i := 7) (v := ?_) (by simp only [List.getElem?_toArray, List.getElem?_cons_succ, List.getElem?_cons_zero]; rfl) (by kernel_rfl) (by kernel_rfl) (by kernel_rfl) (by kernel_rfl) (by kernel_rfl) (fun _ _ _ h => h) (Or.inl ⟨by rfl, ?_⟩) (by assumption) ?_
                rotate_left 1
                · (intro w' hSw; go_simp; try with_reducible rfl)
                try simp only [Act.put, List.setIfInBounds_toArray, List.set_cons_zero, List.set_cons_succ]
                refine wpAnyW_take (i := 8) (v := ?_) (by simp only [List.getElem?_toArray, List.getElem?_cons_succ, List.getElem?_cons_zero]; rfl) (by kernel_rfl) (by kernel_rfl) (by kernel_rfl) (by kernel_rfl) (by kernel_rfl) (fun _ _ _ h => h) (Or.inl ⟨by rfl, ?_⟩) (by assumption) ?_
                rotate_left 1
                · (intro w' hSw; go_simp; try with_reducible rfl)
                try simp only [Act.put, List.setIfInBounds_toArray, List.set_cons_zero, List.set_cons_succ]
                refine wpAnyW_take (i := 9) (v := ?_) (by simp only [List.getElem?_toArray, List.getElem?_cons_succ, List.getElem?_cons_zero]; rfl) (by kernel_rfl) (by kernel_rfl) (by kernel_rfl) (by kernel_rfl) (by kernel_rfl) (fun _ _ _ h => h) (Or.inl ⟨by rfl, ?_⟩) (by assumption) ?_
                rotate_left 1
                · (intro w' hSw; go_simp; try with_reducible rfl)
                try simp only [Act.put, List.setIfInBounds_toArray, List.set_cons_zero, List.set_cons_succ]
                refine wpAnyW_held (i := 12) (by kernel_rfl) (by simp only [List.getElem?_toArray, List.getElem?_cons_succ, List.getElem?_cons_zero]; rfl) (fun K hK => ?_)
                rw [if_pos (by rfl)]
                refine wpB (ty := 32) #[.slice A5 Y.length k5] rfl rfl rfl HXa.out infoB rfl (cellsB_one _ _ _) ?_
                intro y1 ht hg
                have HS : (fun V => Bx V g5 32 #[.slice A Bg.length k] ∧ Below wr.heap.size wr V) _ := ⟨hHeld.1.kept hg (by omega), below_of_grown1 hHeld.2 hg hHeld.2.size hzga⟩
                replace HXb := Lib.hid (HXb.out.kept hg (by omega))
                replace HR5 := Lib.hid (RowP.keptA HR5.out HNga.out hg)
                replace HXa := Lib.hid ht
                clear ht hg hHeld
                refine hK.out _ _ HS (fun hHeld => ?_)
                clear hK K HS
                try simp only [Act.put, List.setIfInBounds_toArray, List.set_cons_zero, List.set_cons_succ]
                refine wpAnyW_held (i := 13) (by kernel_rfl) (by simp only [List.getElem?_toArray, List.getElem?_cons_succ, List.getElem?_cons_zero]; rfl) (fun K hK => ?_)
                rw [if_pos (by rfl)]
                refine wpB (ty := 39) (cellsMg mo) rfl rfl rfl HXb.out infoM rfl (cellsMg_one _) ?_
                intro y2 ht hg
                have HS : (fun V => Bx V g5 32 #[.slice A Bg.length k] ∧ Below wr.heap.size wr V) _ := ⟨hHeld.1.kept hg (by omega), below_of_grown1 hHeld.2 hg hHeld.2.size hzgb⟩
                replace HXa := Lib.hid (HXa.out.kept hg (by omega))
                replace HR5 := Lib.hid (RowP.keptA HR5.out HNgb.out hg)
                replace HXb := Lib.hid ht
                clear ht hg hHeld
                refine hK.out _ _ HS (fun hHeld => ?_)
                clear hK K HS
                try simp only [Act.put, List.setIfInBounds_toArray, List.set_cons_zero, List.set_cons_succ]
                refine wpAnyW_freed (i := 14) (by kernel_rfl) (by kernel_rfl) (by simp only [List.getElem?_toArray, List.getElem?_cons_succ, List.getElem?_cons_zero]; rfl) (fun K hK => ?_)
                rw [if_pos (by rfl)]
                go_simp
                have HE := Lib.hid hHeld
                refine hK.out _ _ ?_
                clear hK K hHeld
                try simp only [Act.put, List.setIfInBounds_toArray, List.set_cons_zero, List.set_cons_succ]
                refine wpAnyW_done (by kernel_rfl) ?_ _
                refine NoPanic.normal ?_
                go_wp2_with fail
                go_meet
                exact ⟨_, ga, gb, A5, k5, rfl, rfl, rfl, rfl, Lib.hid ⟨HXa.out, HXb.out, HR5.out, HF5.out, by omega, HE.out.2⟩⟩
        case rest =>
          obtain ⟨wz, ga, gb, A2, k2, rfl, rfl, rfl, rfl, HH⟩ := hcut
          obtain ⟨ha, hmb, hr2, hf2, hga, hbb⟩ := HH.out
          have HXA := Lib.hid ha
          have HMB := Lib.hid hmb
          have HR2 := Lib.hid hr2
          have HF2 := Lib.hid hf2
          replace HQ := Lib.hid (HQ.out.later hbb)
          replace HQ6 := Lib.hid (HQ6.out.later hbb)
          replace HRQ := Lib.hid (RowP.below HRQ.out hbb)
          replace HB := Lib.hid (HB.out.trans (hbb.mono HB.out.size))
          have HRZ := Lib.hid (range_below HRX.out hbw0 HB.out)
          have hbz : b < wz.heap.size := by have := HB.out.size; omega
          have hgz := HQ6.out.lt
          clear ha hmb hr2 hf2 hbb HH HRS HRG HPU hgs6
          go_wp2_with fail
          go_cut [11, 12, 13] from 29 (fun v11 v12 v13 wx => ∃ (wy : World) (gc gd : Nat) (A3 : Option Addr) (k3 : Nat), wy = wx ∧ v11 = .pointer (some ⟨gc, 0, none⟩) ∧ v12 = .pointer (some ⟨gd, 0, none⟩) ∧ v13 = .bool yb ∧ Hid (Bx wy gc 35 #[.slice A3 Y.length k3] ∧ Bx wy gd 44 (cellsMg mo) ∧ RowP wy (.slice A3 Y.length k3) Y ∧ Apart (.slice A3 Y.length k3) Y g5 ∧ Apart (.slice A3 Y.length k3) Y g6 ∧ g6 < gc ∧ Below wz.heap.size wz wy))
          case first =>
              have HS : (fun V => Bx V g6 35 #[.slice Aq Bg.length kq] ∧ Below wz.heap.size wz V) wz.drew := ⟨HQ6.out.drew, below_drawn (Below.refl _ _)⟩
              refine wp_region_noPanic ?_
              refine wp_region_waits (S := (fun V => Bx V g6 35 #[.slice Aq Bg.length kq] ∧ Below wz.heap.size wz V)) [15] (by kernel_rfl) HS (fun hHeld => ?_)
              clear HS
              refine wpAnyW_take (i := 0) (v := _) (by simp only [List.getElem?_toArray, List.getElem?_cons_zero]; rfl) (by kernel_rfl) (by kernel_rfl) (by kernel_rfl) (by kernel_rfl) (by kernel_rfl) (fun _ _ _ h => h) (yB (ty := 35) (by rfl) rfl rfl (fun V h => h.1) Try.underlying35 rfl infoRB) (by assumption) ?_
              try simp only [Act.put, List.setIfInBounds_toArray, List.set_cons_zero, List.set_cons_succ]
              refine wpAnyW_take (i := 1) (v := ?_) (by simp only [List.getElem?_toArray, List.getElem?_cons_succ, List.getElem?_cons_zero]; rfl) (by kernel_rfl) (by kernel_rfl) (by kernel_rfl) (by kernel_rfl) (by kernel_rfl) (fun _ _ _ h => h) (Or.inl ⟨by rfl, ?_⟩) (by assumption) ?_
              rotate_left 1
              · (intro w' hSw; go_simp; try with_reducible rfl)
              try simp only [Act.put, List.setIfInBounds_toArray, List.set_cons_zero, List.set_cons_succ]
              refine wpAnyW_take (i := 2) (v := ?_) (by simp only [List.getElem?_toArray, List.getElem?_cons_succ, List.getElem?_cons_zero]; rfl) (by kernel_rfl) (by kernel_rfl) (by kernel_rfl) (by kernel_rfl) (by kernel_rfl) (fun _ _ _ h => h) (Or.inl ⟨by rfl, ?_⟩) (by assumption) ?_
              rotate_left 1
              · (intro w' hSw; go_simp; try with_reducible rfl)
              try simp only [Act.put, List.setIfInBounds_toArray, List.set_cons_zero, List.set_cons_succ]
              refine wpAnyW_take (i := 3) (v := ?_) (by simp only [List.getElem?_toArray, List.getElem?_cons_succ, List.getElem?_cons_zero]; rfl) (by kernel_rfl) (by kernel_rfl) (by kernel_rfl) (by kernel_rfl) (by kernel_rfl) (fun _ _ _ h => h) (Or.inl ⟨by rfl, ?_⟩) (by assumption) ?_
              rotate_left 1
              · (intro w' hSw; go_simp; try with_reducible rfl)
              try simp only [Act.put, List.setIfInBounds_toArray, List.set_cons_zero, List.set_cons_succ]
              refine wpAnyW_take (i := 4) (v := _) (by simp only [List.getElem?_toArray, List.getElem?_cons_succ, List.getElem?_cons_zero]; rfl) (by kernel_rfl) (by kernel_rfl) (by kernel_rfl) (by kernel_rfl) (by kernel_rfl) (fun _ _ _ h => h) (yPc (ty := 43) (by rfl) rfl rfl (fun V h => range_below HRZ.out hbz h.2) Try.underlying43 rfl infoP) (by assumption) ?_
              try simp only [Act.put, List.setIfInBounds_toArray, List.set_cons_zero, List.set_cons_succ]
              refine wpAnyW_three (i := 5) (i2 := 11) (i3 := 12) (by kernel_rfl) (by simp only [List.getElem?_toArray, List.getElem?_cons_succ, List.getElem?_cons_zero]; rfl) (by simp only [List.getElem?_toArray, List.getElem?_cons_succ, List.getElem?_cons_zero]; rfl) (by simp only [List.getElem?_toArray, List.getElem?_cons_succ, List.getElem?_cons_zero]; rfl) (fun K hK => ?_) (fun K hK => ?_) (fun K hK => ?_)
              · rw [if_pos (by rfl)]
                go_simp
                refine (one_any x _).mono ?_
                rintro _ u3 ⟨rfl, hb⟩
                have HS : (fun V => Bx V g6 35 #[.slice Aq Bg.length kq] ∧ Below wz.heap.size wz V) _ := ⟨hHeld.1.later hb, hHeld.2.trans (hb.mono hHeld.2.size)⟩
                clear hHeld hb
                go_wp2_with fail
                refine hK.out _ _ HS (fun hHeld => ?_)
                clear hK K HS
                try simp only [Act.put, List.setIfInBounds_toArray, List.set_cons_zero, List.set_cons_succ]
                refine wpAnyW_three (i := 6) (i2 := 11) (i3 := 12) (by kernel_rfl) (by simp only [List.getElem?_toArray, List.getElem?_cons_succ, List.getElem?_cons_zero]; rfl) (by simp only [List.getElem?_toArray, List.getElem?_cons_succ, List.getElem?_cons_zero]; rfl) (by simp only [List.getElem?_toArray, List.getElem?_cons_succ, List.getElem?_cons_zero]; rfl) (fun K hK => ?_) (fun K hK => ?_) (fun K hK => ?_)
                · rw [if_pos (by rfl)]
                  go_simp
                  refine (HRP.out _ _ (HRQ.out.below hHeld.2)).mono ?_
                  rintro _ u6 ⟨A5, k5, rfl, hr, hf, hb⟩
                  have HS : (fun V => Bx V g6 35 #[.slice Aq Bg.length kq] ∧ Below wz.heap.size wz V) _ := ⟨hHeld.1.later hb, hHeld.2.trans (hb.mono hHeld.2.size)⟩
                  have HR5 := Lib.hid hr
                  have HN5 := Lib.hid (hf g5 (by have := hHeld.2.size; omega) HP5.out)
                  have HN6 := Lib.hid (hf g6 (by have := hHeld.2.size; omega) HP6.out)
                  clear hHeld hr hf hb
                  go_wp2_with fail
                  refine hK.out _ _ HS (fun hHeld => ?_)
                  clear hK K HS
                  try simp only [Act.put, List.setIfInBounds_toArray, List.set_cons_zero, List.set_cons_succ]
                  refine wpAnyW_take (i := 7) (v := ?_) (by simp only [List.getElem?_toArray, List.getElem?_cons_succ, List.getElem?_cons_zero]; rfl) (by kernel_rfl) (by kernel_rfl) (by kernel_rfl) (by kernel_rfl) (by kernel_rfl) (fun _ _ _ h => h) (Or.inl ⟨by rfl, ?_⟩) (by assumption) ?_
                  rotate_left 1
                  · (intro w' hSw; go_simp; try with_reducible rfl)
                  try simp only [Act.put, List.setIfInBounds_toArray, List.set_cons_zero, List.set_cons_succ]
                  refine wpAnyW_take (i := 8) (v := ?_) (by simp only [List.getElem?_toArray, List.getElem?_cons_succ, List.getElem?_cons_zero]; rfl) (by kernel_rfl) (by kernel_rfl) (by kernel_rfl) (by kernel_rfl) (by kernel_rfl) (fun _ _ _ h => h) (Or.inl ⟨by rfl, ?_⟩) (by assumption) ?_
                  rotate_left 1
                  · (intro w' hSw; go_simp; try with_reducible rfl)
                  try simp only [Act.put, List.setIfInBounds_toArray, List.set_cons_zero, List.set_cons_succ]
                  refine wpAnyW_take (i := 9) (v := ?_) (by simp only [List.getElem?_toArray, List.getElem?_cons_succ, List.getElem?_cons_zero]; rfl) (by kernel_rfl) (by kernel_rfl) (by kernel_rfl) (by kernel_rfl) (by kernel_rfl) (fun _ _ _ h => h) (Or.inl ⟨by rfl, ?_⟩) (by assumption) ?_
                  rotate_left 1
                  · (intro w' hSw; go_simp; try with_reducible rfl)
                  try simp only [Act.put, List.setIfInBounds_toArray, List.set_cons_zero, List.set_cons_succ]
                  refine wpAnyW_take (i := 10) (v := ?_) (by simp only [List.getElem?_toArray, List.getElem?_cons_succ, List.getElem?_cons_zero]; rfl) (by kernel_rfl) (by kernel_rfl) (by kernel_rfl) (by kernel_rfl) (by kernel_rfl) (fun _ _ _ h => h) (Or.inl ⟨by rfl, ?_⟩) (by assumption) ?_
                  rotate_left 1
                  · (intro w' hSw; go_simp; try with_reducible rfl)
                  try simp only [Act.put, List.setIfInBounds_toArray, List.set_cons_zero, List.set_cons_succ]
                  refine wpAnyW_two (i := 11) (i2 := 12) (by kernel_rfl) (by simp only [List.getElem?_toArray, List.getElem?_cons_succ, List.getElem?_cons_zero]; rfl) (by simp only [List.getElem?_toArray, List.getElem?_cons_succ, List.getElem?_cons_zero]; rfl) (fun K hK => ?_) (fun K hK => ?_)
                  · rw [if_pos (by rfl)]
                    obtain ⟨v2, hv2, HXa, HBv2, hsv2⟩ := one_open u6 35 #[.slice none 0 0]
                    obtain ⟨ga, hga⟩ : ∃ g, u6.heap.size = g := ⟨_, rfl⟩
                    rw [hga] at HXa hsv2
                    have HS : (fun V => Bx V g6 35 #[.slice Aq Bg.length kq] ∧ Below wz.heap.size wz V) _ := ⟨hHeld.1.later HBv2.out, hHeld.2.trans (HBv2.out.mono hHeld.2.size)⟩
                    have hzga : wz.heap.size ≤ ga := by have := hHeld.2.size; omega
                    have HNga := Lib.hid (Apart.new HR5.out (Nat.le_of_eq hga))
                    replace HR5 := Lib.hid (RowP.below HR5.out HBv2.out)
                    clear hHeld HBv2 hsv2
                    go_simp
                    refine hK.out _ _ HS (fun hHeld => ?_)
                    clear hK K HS
                    try simp only [Act.put, List.setIfInBounds_toArray, List.set_cons_zero, List.set_cons_succ]
                    clear hga
                    refine wpAnyW_held (i := 12) (by kernel_rfl) (by simp only [List.getElem?_toArray, List.getElem?_cons_succ, List.getElem?_cons_zero]; rfl) (fun K hK => ?_)
                    rw [if_pos (by rfl)]
                    obtain ⟨v3, hv3, HXb, HBv3, hsv3⟩ := one_open v2 44 #[.int .u32 0, .bool false, .int .u16 0, .int .u16 0, .int .u32 0, .string ⟨#[]⟩]
                    obtain ⟨gb, hgb⟩ : ∃ g, v2.heap.size = g := ⟨_, rfl⟩
                    rw [hgb] at HXb hsv3
                    have HS : (fun V => Bx V g6 35 #[.slice Aq Bg.length kq] ∧ Below wz.heap.size wz V) _ := ⟨hHeld.1.later HBv3.out, hHeld.2.trans (HBv3.out.mono hHeld.2.size)⟩
                    have hzgb : wz.heap.size ≤ gb := by have := hHeld.2.size; omega
                    have HNgb := Lib.hid (Apart.new HR5.out (Nat.le_of_eq hgb))
                    replace HR5 := Lib.hid (RowP.below HR5.out HBv3.out)
                    have hneab : ga ≠ gb := by have := HXa.out.lt; omega
                    replace HXa := Lib.hid (HXa.out.later HBv3.out)
                    clear hHeld HBv3 hsv3
                    go_simp
                    refine hK.out _ _ HS (fun hHeld => ?_)
                    clear hK K HS
                    try simp only [Act.put, List.setIfInBounds_toArray, List.set_cons_zero, List.set_cons_succ]
                    clear hgb
                    refine wpAnyW_held (i := 13) (by kernel_rfl) (by simp only [List.getElem?_toArray, List.getElem?_cons_succ, List.getElem?_cons_zero]; rfl) (fun K hK => ?_)
                    rw [if_pos (by rfl)]
                    refine wpB (ty := 35) #[.slice A5 Y.length k5] rfl rfl rfl HXa.out infoRB rfl (cellsRB_one _ _ _) ?_
                    intro y1 ht hg
                    have HS : (fun V => Bx V g6 35 #[.slice Aq Bg.length kq] ∧ Below wz.heap.size wz V) _ := ⟨hHeld.1.kept hg (by omega), below_of_grown1 hHeld.2 hg hHeld.2.size hzga⟩
                    replace HXb := Lib.hid (HXb.out.kept hg (by omega))
                    replace HR5 := Lib.hid (RowP.keptA HR5.out HNga.out hg)
                    replace HXa := Lib.hid ht
                    clear ht hg hHeld
                    refine hK.out _ _ HS (fun hHeld => ?_)
                    clear hK K HS
                    try simp only [Act.put, List.setIfInBounds_toArray, List.set_cons_zero, List.set_cons_succ]
                    refine wpAnyW_held (i := 14) (by kernel_rfl) (by simp only [List.getElem?_toArray, List.getElem?_cons_succ, List.getElem?_cons_zero]; rfl) (fun K hK => ?_)
                    rw [if_pos (by rfl)]
                    refine wpB (ty := 44) (cellsMg mo) rfl rfl rfl HXb.out infoRM rfl (cellsMg_one _) ?_
                    intro y2 ht hg
                    have HS : (fun V => Bx V g6 35 #[.slice Aq Bg.length kq] ∧ Below wz.heap.size wz V) _ := ⟨hHeld.1.kept hg (by omega), below_of_grown1 hHeld.2 hg hHeld.2.size hzgb⟩
                    replace HXa := Lib.hid (HXa.out.kept hg (by omega))
                    replace HR5 := Lib.hid (RowP.keptA HR5.out HNgb.out hg)
                    replace HXb := Lib.hid ht
                    clear ht hg hHeld
                    refine hK.out _ _ HS (fun hHeld => ?_)
                    clear hK K HS
                    try simp only [Act.put, List.setIfInBounds_toArray, List.set_cons_zero, List.set_cons_succ]
                    refine wpAnyW_freed (i := 15) (by kernel_rfl) (by kernel_rfl) (by simp only [List.getElem?_toArray, List.getElem?_cons_succ, List.getElem?_cons_zero]; rfl) (fun K hK => ?_)
                    rw [if_pos (by rfl)]
                    go_simp
                    have HE := Lib.hid hHeld
                    refine hK.out _ _ ?_
                    clear hK K hHeld
                    try simp only [Act.put, List.setIfInBounds_toArray, List.set_cons_zero, List.set_cons_succ]
                    refine wpAnyW_done (by kernel_rfl) ?_ _
                    refine NoPanic.normal ?_
                    go_wp2_with fail
                    go_meet
                    exact ⟨_, ga, gb, A5, k5, rfl, rfl, rfl, rfl, Lib.hid ⟨HXa.out, HXb.out, HR5.out, HN5.out, HN6.out, by omega, HE.out.2⟩⟩
                  · rw [if_pos (by rfl)]
                    obtain ⟨v2, hv2, HXb, HBv2, hsv2⟩ := one_open u6 44 #[.int .u32 0, .bool false, .int .u16 0, .int .u16 0, .int .u32 0, .string ⟨#[]⟩]
                    obtain ⟨gb, hgb⟩ : ∃ g, u6.heap.size = g := ⟨_, rfl⟩
                    rw [hgb] at HXb hsv2
                    have HS : (fun V => Bx V g6 35 #[.slice Aq Bg.length kq] ∧ Below wz.heap.size wz V) _ := ⟨hHeld.1.later HBv2.out, hHeld.2.trans (HBv2.out.mono hHeld.2.size)⟩
                    have hzgb : wz.heap.size ≤ gb := by have := hHeld.2.size; omega
                    have HNgb := Lib.hid (Apart.new HR5.out (Nat.le_of_eq hgb))
                    replace HR5 := Lib.hid (RowP.below HR5.out HBv2.out)
                    clear hHeld HBv2 hsv2
                    go_simp
                    refine hK.out _ _ HS (fun hHeld => ?_)
                    clear hK K HS
                    try simp only [Act.put, List.setIfInBounds_toArray, List.set_cons_zero, List.set_cons_succ]
                    clear hgb
                    refine wpAnyW_held (i := 11) (by kernel_rfl) (by simp only [List.getElem?_toArray, List.getElem?_cons_succ, List.getElem?_cons_zero]; rfl) (fun K hK => ?_)
                    rw [if_pos (by rfl)]
                    obtain ⟨v3, hv3, HXa, HBv3, hsv3⟩ := one_open v2 35 #[.slice none 0 0]
                    obtain ⟨ga, hga⟩ : ∃ g, v2.heap.size = g := ⟨_, rfl⟩
                    rw [hga] at HXa hsv3
                    have HS : (fun V => Bx V g6 35 #[.slice Aq Bg.length kq] ∧ Below wz.heap.size wz V) _ := ⟨hHeld.1.later HBv3.out, hHeld.2.trans (HBv3.out.mono hHeld.2.size)⟩
                    have hzga : wz.heap.size ≤ ga := by have := hHeld.2.size; omega
                    have HNga := Lib.hid (Apart.new HR5.out (Nat.le_of_eq hga))
                    replace HR5 := Lib.hid (RowP.below HR5.out HBv3.out)
                    have hneab : gb ≠ ga := by have := HXb.out.lt; omega
                    replace HXb := Lib.hid (HXb.out.later HBv3.out)
                    clear hHeld HBv3 hsv3
                    go_simp
                    refine hK.out _ _ HS (fun hHeld => ?_)
                    clear hK K HS
                    try simp only [Act.put, List.setIfInBounds_toArray, List.set_cons_zero, List.set_cons_succ]
                    clear hga
                    refine wpAnyW_held (i := 13) (by kernel_rfl) (by simp only [List.getElem?_toArray, List.getElem?_cons_succ, List.getElem?_cons_zero]; rfl) (fun K hK => ?_)
                    rw [if_pos (by rfl)]
                    refine wpB (ty := 35) #[.slice A5 Y.length k5] rfl rfl rfl HXa.out infoRB rfl (cellsRB_one _ _ _) ?_
                    intro y1 ht hg
                    have HS : (fun V => Bx V g6 35 #[.slice Aq Bg.length kq] ∧ Below wz.heap.size wz V) _ := ⟨hHeld.1.kept hg (by omega), below_of_grown1 hHeld.2 hg hHeld.2.size hzga⟩
                    replace HXb := Lib.hid (HXb.out.kept hg (by omega))
                    replace HR5 := Lib.hid (RowP.keptA HR5.out HNga.out hg)
                    replace HXa := Lib.hid ht
                    clear ht hg hHeld
                    refine hK.out _ _ HS (fun hHeld => ?_)
                    clear hK K HS
                    try simp only [Act.put, List.setIfInBounds_toArray, List.set_cons_zero, List.set_cons_succ]
                    refine wpAnyW_held (i := 14) (by kernel_rfl) (by simp only [List.getElem?_toArray, List.getElem?_cons_succ, List.getElem?_cons_zero]; rfl) (fun K hK => ?_)
                    rw [if_pos (by rfl)]
                    refine wpB (ty := 44) (cellsMg mo) rfl rfl rfl HXb.out infoRM rfl (cellsMg_one _) ?_
                    intro y2 ht hg
                    have HS : (fun V => Bx V g6 35 #[.slice Aq Bg.length kq] ∧ Below wz.heap.size wz V) _ := ⟨hHeld.1.kept hg (by omega), below_of_grown1 hHeld.2 hg hHeld.2.size hzgb⟩
                    replace HXa := Lib.hid (HXa.out.kept hg (by omega))
                    replace HR5 := Lib.hid (RowP.keptA HR5.out HNgb.out hg)
                    replace HXb := Lib.hid ht
                    clear ht hg hHeld
                    refine hK.out _ _ HS (fun hHeld => ?_)
                    clear hK K HS
                    try simp only [Act.put, List.setIfInBounds_toArray, List.set_cons_zero, List.set_cons_succ]
                    refine wpAnyW_freed (i := 15) (by kernel_rfl) (by kernel_rfl) (by simp only [List.getElem?_toArray, List.getElem?_cons_succ, List.getElem?_cons_zero]; rfl) (fun K hK => ?_)
                    rw [if_pos (by rfl)]
                    go_simp
                    have HE := Lib.hid hHeld
                    refine hK.out _ _ ?_
                    clear hK K hHeld
                    try simp only [Act.put, List.setIfInBounds_toArray, List.set_cons_zero, List.set_cons_succ]
                    refine wpAnyW_done (by kernel_rfl) ?_ _
                    refine NoPanic.normal ?_
                    go_wp2_with fail
                    go_meet
                    exact ⟨_, ga, gb, A5, k5, rfl, rfl, rfl, rfl, Lib.hid ⟨HXa.out, HXb.out, HR5.out, HN5.out, HN6.out, by omega, HE.out.2⟩⟩
                · rw [if_pos (by rfl)]
                  obtain ⟨v1, hv1, HXa, HBv1, hsv1⟩ := one_open u3 35 #[.slice none 0 0]
                  obtain ⟨ga, hga⟩ : ∃ g, u3.heap.size = g := ⟨_, rfl⟩
                  rw [hga] at HXa hsv1
                  have HS : (fun V => Bx V g6 35 #[.slice Aq Bg.length kq] ∧ Below wz.heap.size wz V) _ := ⟨hHeld.1.later HBv1.out, hHeld.2.trans (HBv1.out.mono hHeld.2.size)⟩
                  have hzga : wz.heap.size ≤ ga := by have := hHeld.2.size; omega
                  clear hHeld HBv1 hsv1
                  go_simp
                  refine hK.out _ _ HS (fun hHeld => ?_)
                  clear hK K HS
                  try simp only [Act.put, List.setIfInBounds_toArray, List.set_cons_zero, List.set_cons_succ]
                  clear hga
                  refine wpAnyW_two (i := 6) (i2 := 12) (by kernel_rfl) (by simp only [List.getElem?_toArray, List.getElem?_cons_succ, List.getElem?_cons_zero]; rfl) (by simp only [List.getElem?_toArray, List.getElem?_cons_succ, List.getElem?_cons_zero]; rfl) (fun K hK => ?_) (fun K hK => ?_)
                  · rw [if_pos (by rfl)]
                    go_simp
                    refine (HRP.out _ _ (HRQ.out.below hHeld.2)).mono ?_
                    rintro _ u6 ⟨A5, k5, rfl, hr, hf, hb⟩
                    have HS : (fun V => Bx V g6 35 #[.slice Aq Bg.length kq] ∧ Below wz.heap.size wz V) _ := ⟨hHeld.1.later hb, hHeld.2.trans (hb.mono hHeld.2.size)⟩
                    have HR5 := Lib.hid hr
                    have HN5 := Lib.hid (hf g5 (by have := hHeld.2.size; omega) HP5.out)
                    have HN6 := Lib.hid (hf g6 (by have := hHeld.2.size; omega) HP6.out)
                    have HNga := Lib.hid (hf ga (by have := HXa.out.lt; omega) (Apart.new HRQ.out hzga))
                    replace HXa := Lib.hid (HXa.out.later hb)
                    clear hHeld hr hf hb
                    go_wp2_with fail
                    refine hK.out _ _ HS (fun hHeld => ?_)
                    clear hK K HS
                    try simp only [Act.put, List.setIfInBounds_toArray, List.set_cons_zero, List.set_cons_succ]
                    refine wpAnyW_take (i := 7) (v := ?_) (by simp only [List.getElem?_toArray, List.getElem?_cons_succ, List.getElem?_cons_zero]; rfl) (by kernel_rfl) (by kernel_rfl) (by kernel_rfl) (by kernel_rfl) (by kernel_rfl) (fun _ _ _ h => h) (Or.inl ⟨by rfl, ?_⟩) (by assumption) ?_
                    rotate_left 1
                    · (intro w' hSw; go_simp; try with_reducible rfl)
                    try simp only [Act.put, List.setIfInBounds_toArray, List.set_cons_zero, List.set_cons_succ]
                    refine wpAnyW_take (i := 8) (v := ?_) (by simp only [List.getElem?_toArray, List.getElem?_cons_succ, List.getElem?_cons_zero]; rfl) (by kernel_rfl) (by kernel_rfl) (by kernel_rfl) (by kernel_rfl) (by kernel_rfl) (fun _ _ _ h => h) (Or.inl ⟨by rfl, ?_⟩) (by assumption) ?_
                    rotate_left 1
                    · (intro w' hSw; go_simp; try with_reducible rfl)
                    try simp only [Act.put, List.setIfInBounds_toArray, List.set_cons_zero, List.set_cons_succ]
                    refine wpAnyW_take (i := 9) (v := ?_) (by simp only [List.getElem?_toArray, List.getElem?_cons_succ, List.getElem?_cons_zero]; rfl) (by kernel_rfl) (by kernel_rfl) (by kernel_rfl) (by kernel_rfl) (by kernel_rfl) (fun _ _ _ h => h) (Or.inl ⟨by rfl, ?_⟩) (by assumption) ?_
                    rotate_left 1
                    · (intro w' hSw; go_simp; try with_reducible rfl)
                    try simp only [Act.put, List.setIfInBounds_toArray, List.set_cons_zero, List.set_cons_succ]
                    refine wpAnyW_take (i := 10) (v := ?_) (by simp only [List.getElem?_toArray, List.getElem?_cons_succ, List.getElem?_cons_zero]; rfl) (by kernel_rfl) (by kernel_rfl) (by kernel_rfl) (by kernel_rfl) (by kernel_rfl) (fun _ _ _ h => h) (Or.inl ⟨by rfl, ?_⟩) (by assumption) ?_
                    rotate_left 1
                    · (intro w' hSw; go_simp; try with_reducible rfl)
                    try simp only [Act.put, List.setIfInBounds_toArray, List.set_cons_zero, List.set_cons_succ]
                    refine wpAnyW_held (i := 12) (by kernel_rfl) (by simp only [List.getElem?_toArray, List.getElem?_cons_succ, List.getElem?_cons_zero]; rfl) (fun K hK => ?_)
                    rw [if_pos (by rfl)]
                    obtain ⟨v3, hv3, HXb, HBv3, hsv3⟩ := one_open u6 44 #[.int .u32 0, .bool false, .int .u16 0, .int .u16 0, .int .u32 0, .string ⟨#[]⟩]
                    obtain ⟨gb, hgb⟩ : ∃ g, u6.heap.size = g := ⟨_, rfl⟩
                    rw [hgb] at HXb hsv3
                    have HS : (fun V => Bx V g6 35 #[.slice Aq Bg.length kq] ∧ Below wz.heap.size wz V) _ := ⟨hHeld.1.later HBv3.out, hHeld.2.trans (HBv3.out.mono hHeld.2.size)⟩
                    have hzgb : wz.heap.size ≤ gb := by have := hHeld.2.size; omega
                    have HNgb := Lib.hid (Apart.new HR5.out (Nat.le_of_eq hgb))
                    replace HR5 := Lib.hid (RowP.below HR5.out HBv3.out)
                    have hneab : ga ≠ gb := by have := HXa.out.lt; omega
                    replace HXa := Lib.hid (HXa.out.later HBv3.out)
                    clear hHeld HBv3 hsv3
                    go_simp
                    refine hK.out _ _ HS (fun hHeld => ?_)
                    clear hK K HS
                    try simp only [Act.put, List.setIfInBounds_toArray, List.set_cons_zero, List.set_cons_succ]
                    clear hgb
                    refine wpAnyW_held (i := 13) (by kernel_rfl) (by simp only [List.getElem?_toArray, List.getElem?_cons_succ, List.getElem?_cons_zero]; rfl) (fun K hK => ?_)
                    rw [if_pos (by rfl)]
                    refine wpB (ty := 35) #[.slice A5 Y.length k5] rfl rfl rfl HXa.out infoRB rfl (cellsRB_one _ _ _) ?_
                    intro y1 ht hg
                    have HS : (fun V => Bx V g6 35 #[.slice Aq Bg.length kq] ∧ Below wz.heap.size wz V) _ := ⟨hHeld.1.kept hg (by omega), below_of_grown1 hHeld.2 hg hHeld.2.size hzga⟩
                    replace HXb := Lib.hid (HXb.out.kept hg (by omega))
                    replace HR5 := Lib.hid (RowP.keptA HR5.out HNga.out hg)
                    replace HXa := Lib.hid ht
                    clear ht hg hHeld
                    refine hK.out _ _ HS (fun hHeld => ?_)
                    clear hK K HS
                    try simp only [Act.put, List.setIfInBounds_toArray, List.set_cons_zero, List.set_cons_succ]
                    refine wpAnyW_held (i := 14) (by kernel_rfl) (by simp only [List.getElem?_toArray, List.getElem?_cons_succ, List.getElem?_cons_zero]; rfl) (fun K hK => ?_)
                    rw [if_pos (by rfl)]
                    refine wpB (ty := 44) (cellsMg mo) rfl rfl rfl HXb.out infoRM rfl (cellsMg_one _) ?_
                    intro y2 ht hg
                    have HS : (fun V => Bx V g6 35 #[.slice Aq Bg.length kq] ∧ Below wz.heap.size wz V) _ := ⟨hHeld.1.kept hg (by omega), below_of_grown1 hHeld.2 hg hHeld.2.size hzgb⟩
                    replace HXa := Lib.hid (HXa.out.kept hg (by omega))
                    replace HR5 := Lib.hid (RowP.keptA HR5.out HNgb.out hg)
                    replace HXb := Lib.hid ht
                    clear ht hg hHeld
                    refine hK.out _ _ HS (fun hHeld => ?_)
                    clear hK K HS
                    try simp only [Act.put, List.setIfInBounds_toArray, List.set_cons_zero, List.set_cons_succ]
                    refine wpAnyW_freed (i := 15) (by kernel_rfl) (by kernel_rfl) (by simp only [List.getElem?_toArray, List.getElem?_cons_succ, List.getElem?_cons_zero]; rfl) (fun K hK => ?_)
                    rw [if_pos (by rfl)]
                    go_simp
                    have HE := Lib.hid hHeld
                    refine hK.out _ _ ?_
                    clear hK K hHeld
                    try simp only [Act.put, List.setIfInBounds_toArray, List.set_cons_zero, List.set_cons_succ]
                    refine wpAnyW_done (by kernel_rfl) ?_ _
                    refine NoPanic.normal ?_
                    go_wp2_with fail
                    go_meet
                    exact ⟨_, ga, gb, A5, k5, rfl, rfl, rfl, rfl, Lib.hid ⟨HXa.out, HXb.out, HR5.out, HN5.out, HN6.out, by omega, HE.out.2⟩⟩
                  · rw [if_pos (by rfl)]
                    obtain ⟨v2, hv2, HXb, HBv2, hsv2⟩ := one_open v1 44 #[.int .u32 0, .bool false, .int .u16 0, .int .u16 0, .int .u32 0, .string ⟨#[]⟩]
                    obtain ⟨gb, hgb⟩ : ∃ g, v1.heap.size = g := ⟨_, rfl⟩
                    rw [hgb] at HXb hsv2
                    have HS : (fun V => Bx V g6 35 #[.slice Aq Bg.length kq] ∧ Below wz.heap.size wz V) _ := ⟨hHeld.1.later HBv2.out, hHeld.2.trans (HBv2.out.mono hHeld.2.size)⟩
                    have hzgb : wz.heap.size ≤ gb := by have := hHeld.2.size; omega
                    have hneab : ga ≠ gb := by have := HXa.out.lt; omega
                    replace HXa := Lib.hid (HXa.out.later HBv2.out)
                    clear hHeld HBv2 hsv2
                    go_simp
                    refine hK.out _ _ HS (fun hHeld => ?_)
                    clear hK K HS
                    try simp only [Act.put, List.setIfInBounds_toArray, List.set_cons_zero, List.set_cons_succ]
                    clear hgb
                    refine wpAnyW_held (i := 6) (by kernel_rfl) (by simp only [List.getElem?_toArray, List.getElem?_cons_succ, List.getElem?_cons_zero]; rfl) (fun K hK => ?_)
                    rw [if_pos (by rfl)]
                    go_simp
                    refine (HRP.out _ _ (HRQ.out.below hHeld.2)).mono ?_
                    rintro _ u6 ⟨A5, k5, rfl, hr, hf, hb⟩
                    have HS : (fun V => Bx V g6 35 #[.slice Aq Bg.length kq] ∧ Below wz.heap.size wz V) _ := ⟨hHeld.1.later hb, hHeld.2.trans (hb.mono hHeld.2.size)⟩
                    have HR5 := Lib.hid hr
                    have HN5 := Lib.hid (hf g5 (by have := hHeld.2.size; omega) HP5.out)
                    have HN6 := Lib.hid (hf g6 (by have := hHeld.2.size; omega) HP6.out)
                    have HNga := Lib.hid (hf ga (by have := HXa.out.lt; omega) (Apart.new HRQ.out hzga))
                    replace HXa := Lib.hid (HXa.out.later hb)
                    have HNgb := Lib.hid (hf gb (by have := HXb.out.lt; omega) (Apart.new HRQ.out hzgb))
                    replace HXb := Lib.hid (HXb.out.later hb)
                    clear hHeld hr hf hb
                    go_wp2_with fail
                    refine hK.out _ _ HS (fun hHeld => ?_)
                    clear hK K HS
                    try simp only [Act.put, List.setIfInBounds_toArray, List.set_cons_zero, List.set_cons_succ]
                    refine wpAnyW_take (i := 7) (v := ?_) (by simp only [List.getElem?_toArray, List.getElem?_cons_succ, List.getElem?_cons_zero]; rfl) (by kernel_rfl) (by kernel_rfl) (by kernel_rfl) (by kernel_rfl) (by kernel_rfl) (fun _ _ _ h => h) (Or.inl ⟨by rfl, ?_⟩) (by assumption) ?_
                    rotate_left 1
                    · (intro w' hSw; go_simp; try with_reducible rfl)
                    try simp only [Act.put, List.setIfInBounds_toArray, List.set_cons_zero, List.set_cons_succ]
                    refine wpAnyW_take (i := 8) (v := ?_) (by simp only [List.getElem?_toArray, List.getElem?_cons_succ, List.getElem?_cons_zero]; rfl) (by kernel_rfl) (by kernel_rfl) (by kernel_rfl) (by kernel_rfl) (by kernel_rfl) (fun _ _ _ h => h) (Or.inl ⟨by rfl, ?_⟩) (by assumption) ?_
                    rotate_left 1
                    · (intro w' hSw; go_simp; try with_reducible rfl)
                    try simp only [Act.put, List.setIfInBounds_toArray, List.set_cons_zero, List.set_cons_succ]
                    refine wpAnyW_take (i := 9) (v := ?_) (by simp only [List.getElem?_toArray, List.getElem?_cons_succ, List.getElem?_cons_zero]; rfl) (by kernel_rfl) (by kernel_rfl) (by kernel_rfl) (by kernel_rfl) (by kernel_rfl) (fun _ _ _ h => h) (Or.inl ⟨by rfl, ?_⟩) (by assumption) ?_
                    rotate_left 1
                    · (intro w' hSw; go_simp; try with_reducible rfl)
                    try simp only [Act.put, List.setIfInBounds_toArray, List.set_cons_zero, List.set_cons_succ]
                    refine wpAnyW_take (i := 10) (v := ?_) (by simp only [List.getElem?_toArray, List.getElem?_cons_succ, List.getElem?_cons_zero]; rfl) (by kernel_rfl) (by kernel_rfl) (by kernel_rfl) (by kernel_rfl) (by kernel_rfl) (fun _ _ _ h => h) (Or.inl ⟨by rfl, ?_⟩) (by assumption) ?_
                    rotate_left 1
                    · (intro w' hSw; go_simp; try with_reducible rfl)
                    try simp only [Act.put, List.setIfInBounds_toArray, List.set_cons_zero, List.set_cons_succ]
                    refine wpAnyW_held (i := 13) (by kernel_rfl) (by simp only [List.getElem?_toArray, List.getElem?_cons_succ, List.getElem?_cons_zero]; rfl) (fun K hK => ?_)
                    rw [if_pos (by rfl)]
                    refine wpB (ty := 35) #[.slice A5 Y.length k5] rfl rfl rfl HXa.out infoRB rfl (cellsRB_one _ _ _) ?_
                    intro y1 ht hg
                    have HS : (fun V => Bx V g6 35 #[.slice Aq Bg.length kq] ∧ Below wz.heap.size wz V) _ := ⟨hHeld.1.kept hg (by omega), below_of_grown1 hHeld.2 hg hHeld.2.size hzga⟩
                    replace HXb := Lib.hid (HXb.out.kept hg (by omega))
                    replace HR5 := Lib.hid (RowP.keptA HR5.out HNga.out hg)
                    replace HXa := Lib.hid ht
                    clear ht hg hHeld
                    refine hK.out _ _ HS (fun hHeld => ?_)
                    clear hK K HS
                    try simp only [Act.put, List.setIfInBounds_toArray, List.set_cons_zero, List.set_cons_succ]
                    refine wpAnyW_held (i := 14) (by kernel_rfl) (by simp only [List.getElem?_toArray, List.getElem?_cons_succ, List.getElem?_cons_zero]; rfl) (fun K hK => ?_)
                    rw [if_pos (by rfl)]
                    refine wpB (ty := 44) (cellsMg mo) rfl rfl rfl HXb.out infoRM rfl (cellsMg_one _) ?_
                    intro y2 ht hg
                    have HS : (fun V => Bx V g6 35 #[.slice Aq Bg.length kq] ∧ Below wz.heap.size wz V) _ := ⟨hHeld.1.kept hg (by omega), below_of_grown1 hHeld.2 hg hHeld.2.size hzgb⟩
                    replace HXa := Lib.hid (HXa.out.kept hg (by omega))
                    replace HR5 := Lib.hid (RowP.keptA HR5.out HNgb.out hg)
                    replace HXb := Lib.hid ht
                    clear ht hg hHeld
                    refine hK.out _ _ HS (fun hHeld => ?_)
                    clear hK K HS
                    try simp only [Act.put, List.setIfInBounds_toArray, List.set_cons_zero, List.set_cons_succ]
                    refine wpAnyW_freed (i := 15) (by kernel_rfl) (by kernel_rfl) (by simp only [List.getElem?_toArray, List.getElem?_cons_succ, List.getElem?_cons_zero]; rfl) (fun K hK => ?_)
                    rw [if_pos (by rfl)]
                    go_simp
                    have HE := Lib.hid hHeld
                    refine hK.out _ _ ?_
                    clear hK K hHeld
                    try simp only [Act.put, List.setIfInBounds_toArray, List.set_cons_zero, List.set_cons_succ]
                    refine wpAnyW_done (by kernel_rfl) ?_ _
                    refine NoPanic.normal ?_
                    go_wp2_with fail
                    go_meet
                    exact ⟨_, ga, gb, A5, k5, rfl, rfl, rfl, rfl, Lib.hid ⟨HXa.out, HXb.out, HR5.out, HN5.out, HN6.out, by omega, HE.out.2⟩⟩
                · rw [if_pos (by rfl)]
                  obtain ⟨v1, hv1, HXb, HBv1, hsv1⟩ := one_open u3 44 #[.int .u32 0, .bool false, .int .u16 0, .int .u16 0, .int .u32 0, .string ⟨#[]⟩]
                  obtain ⟨gb, hgb⟩ : ∃ g, u3.heap.size = g := ⟨_, rfl⟩
                  rw [hgb] at HXb hsv1
                  have HS : (fun V => Bx V g6 35 #[.slice Aq Bg.length kq] ∧ Below wz.heap.size wz V) _ := ⟨hHeld.1.later HBv1.out, hHeld.2.trans (HBv1.out.mono hHeld.2.size)⟩
                  have hzgb : wz.heap.size ≤ gb := by have := hHeld.2.size; omega
                  clear hHeld HBv1 hsv1
                  go_simp
                  refine hK.out _ _ HS (fun hHeld => ?_)
                  clear hK K HS
                  try simp only [Act.put, List.setIfInBounds_toArray, List.set_cons_zero, List.set_cons_succ]
                  clear hgb
                  refine wpAnyW_two (i := 6) (i2 := 11) (by kernel_rfl) (by simp only [List.getElem?_toArray, List.getElem?_cons_succ, List.getElem?_cons_zero]; rfl) (by simp only [List.getElem?_toArray, List.getElem?_cons_succ, List.getElem?_cons_zero]; rfl) (fun K hK => ?_) (fun K hK => ?_)
                  · rw [if_pos (by rfl)]
                    go_simp
                    refine (HRP.out _ _ (HRQ.out.below hHeld.2)).mono ?_
                    rintro _ u6 ⟨A5, k5, rfl, hr, hf, hb⟩
                    have HS : (fun V => Bx V g6 35 #[.slice Aq Bg.length kq] ∧ Below wz.heap.size wz V) _ := ⟨hHeld.1.later hb, hHeld.2.trans (hb.mono hHeld.2.size)⟩
                    have HR5 := Lib.hid hr
                    have HN5 := Lib.hid (hf g5 (by have := hHeld.2.size; omega) HP5.out)
                    have HN6 := Lib.hid (hf g6 (by have := hHeld.2.size; omega) HP6.out)
                    have HNgb := Lib.hid (hf gb (by have := HXb.out.lt; omega) (Apart.new HRQ.out hzgb))
                    replace HXb := Lib.hid (HXb.out.later hb)
                    clear hHeld hr hf hb
                    go_wp2_with fail
                    refine hK.out _ _ HS (fun hHeld => ?_)
                    clear hK K HS
                    try simp only [Act.put, List.setIfInBounds_toArray, List.set_cons_zero, List.set_cons_succ]
                    refine wpAnyW_take (i := 7) (v := ?_) (by simp only [List.getElem?_toArray, List.getElem?_cons_succ, List.getElem?_cons_zero]; rfl) (by kernel_rfl) (by kernel_rfl) (by kernel_rfl) (by kernel_rfl) (by kernel_rfl) (fun _ _ _ h => h) (Or.inl ⟨by rfl, ?_⟩) (by assumption) ?_
                    rotate_left 1
                    · (intro w' hSw; go_simp; try with_reducible rfl)
                    try simp only [Act.put, List.setIfInBounds_toArray, List.set_cons_zero, List.set_cons_succ]
                    refine wpAnyW_take (i := 8) (v := ?_) (by simp only [List.getElem?_toArray, List.getElem?_cons_succ, List.getElem?_cons_zero]; rfl) (by kernel_rfl) (by kernel_rfl) (by kernel_rfl) (by kernel_rfl) (by kernel_rfl) (fun _ _ _ h => h) (Or.inl ⟨by rfl, ?_⟩) (by assumption) ?_
                    rotate_left 1
                    · (intro w' hSw; go_simp; try with_reducible rfl)
                    try simp only [Act.put, List.setIfInBounds_toArray, List.set_cons_zero, List.set_cons_succ]
                    refine wpAnyW_take (i := 9) (v := ?_) (by simp only [List.getElem?_toArray, List.getElem?_cons_succ, List.getElem?_cons_zero]; rfl) (by kernel_rfl) (by kernel_rfl) (by kernel_rfl) (by kernel_rfl) (by kernel_rfl) (fun _ _ _ h => h) (Or.inl ⟨by rfl, ?_⟩) (by assumption) ?_
                    rotate_left 1
                    · (intro w' hSw; go_simp; try with_reducible rfl)
                    try simp only [Act.put, List.setIfInBounds_toArray, List.set_cons_zero, List.set_cons_succ]
                    refine wpAnyW_take (i := 10) (v := ?_) (by simp only [List.getElem?_toArray, List.getElem?_cons_succ, List.getElem?_cons_zero]; rfl) (by kernel_rfl) (by kernel_rfl) (by kernel_rfl) (by kernel_rfl) (by kernel_rfl) (fun _ _ _ h => h) (Or.inl ⟨by rfl, ?_⟩) (by assumption) ?_
                    rotate_left 1
                    · (intro w' hSw; go_simp; try with_reducible rfl)
                    try simp only [Act.put, List.setIfInBounds_toArray, List.set_cons_zero, List.set_cons_succ]
                    refine wpAnyW_held (i := 11) (by kernel_rfl) (by simp only [List.getElem?_toArray, List.getElem?_cons_succ, List.getElem?_cons_zero]; rfl) (fun K hK => ?_)
                    rw [if_pos (by rfl)]
                    obtain ⟨v3, hv3, HXa, HBv3, hsv3⟩ := one_open u6 35 #[.slice none 0 0]
                    obtain ⟨ga, hga⟩ : ∃ g, u6.heap.size = g := ⟨_, rfl⟩
                    rw [hga] at HXa hsv3
                    have HS : (fun V => Bx V g6 35 #[.slice Aq Bg.length kq] ∧ Below wz.heap.size wz V) _ := ⟨hHeld.1.later HBv3.out, hHeld.2.trans (HBv3.out.mono hHeld.2.size)⟩
                    have hzga : wz.heap.size ≤ ga := by have := hHeld.2.size; omega
                    have HNga := Lib.hid (Apart.new HR5.out (Nat.le_of_eq hga))
                    replace HR5 := Lib.hid (RowP.below HR5.out HBv3.out)
                    have hneab : gb ≠ ga := by have := HXb.out.lt; omega
                    replace HXb := Lib.hid (HXb.out.later HBv3.out)
                    clear hHeld HBv3 hsv3
                    go_simp
                    refine hK.out _ _ HS (fun hHeld => ?_)
                    clear hK K HS
                    try simp only [Act.put, List.setIfInBounds_toArray, List.set_cons_zero, List.set_cons_succ]
                    clear hga
                    refine wpAnyW_held (i := 13) (by kernel_rfl) (by simp only [List.getElem?_toArray, List.getElem?_cons_succ, List.getElem?_cons_zero]; rfl) (fun K hK => ?_)
                    rw [if_pos (by rfl)]
                    refine wpB (ty := 35) #[.slice A5 Y.length k5] rfl rfl rfl HXa.out infoRB rfl (cellsRB_one _ _ _) ?_
                    intro y1 ht hg
                    have HS : (fun V => Bx V g6 35 #[.slice Aq Bg.length kq] ∧ Below wz.heap.size wz V) _ := ⟨hHeld.1.kept hg (by omega), below_of_grown1 hHeld.2 hg hHeld.2.size hzga⟩
                    replace HXb := Lib.hid (HXb.out.kept hg (by omega))
                    replace HR5 := Lib.hid (RowP.keptA HR5.out HNga.out hg)
                    replace HXa := Lib.hid ht
                    clear ht hg hHeld
                    refine hK.out _ _ HS (fun hHeld => ?_)
                    clear hK K HS
                    try simp only [Act.put, List.setIfInBounds_toArray, List.set_cons_zero, List.set_cons_succ]
                    refine wpAnyW_held (i := 14) (by kernel_rfl) (by simp only [List.getElem?_toArray, List.getElem?_cons_succ, List.getElem?_cons_zero]; rfl) (fun K hK => ?_)
                    rw [if_pos (by rfl)]
                    refine wpB (ty := 44) (cellsMg mo) rfl rfl rfl HXb.out infoRM rfl (cellsMg_one _) ?_
                    intro y2 ht hg
                    have HS : (fun V => Bx V g6 35 #[.slice Aq Bg.length kq] ∧ Below wz.heap.size wz V) _ := ⟨hHeld.1.kept hg (by omega), below_of_grown1 hHeld.2 hg hHeld.2.size hzgb⟩
                    replace HXa := Lib.hid (HXa.out.kept hg (by omega))
                    replace HR5 := Lib.hid (RowP.keptA HR5.out HNgb.out hg)
                    replace HXb := Lib.hid ht
                    clear ht hg hHeld
                    refine hK.out _ _ HS (fun hHeld => ?_)
                    clear hK K HS
                    try simp only [Act.put, List.setIfInBounds_toArray, List.set_cons_zero, List.set_cons_succ]
                    refine wpAnyW_freed (i := 15) (by kernel_rfl) (by kernel_rfl) (by simp only [List.getElem?_toArray, List.getElem?_cons_succ, List.getElem?_cons_zero]; rfl) (fun K hK => ?_)
                    rw [if_pos (by rfl)]
                    go_simp
                    have HE := Lib.hid hHeld
                    refine hK.out _ _ ?_
                    clear hK K hHeld
                    try simp only [Act.put, List.setIfInBounds_toArray, List.set_cons_zero, List.set_cons_succ]
                    refine wpAnyW_done (by kernel_rfl) ?_ _
                    refine NoPanic.normal ?_
                    go_wp2_with fail
                    go_meet
                    exact ⟨_, ga, gb, A5, k5, rfl, rfl, rfl, rfl, Lib.hid ⟨HXa.out, HXb.out, HR5.out, HN5.out, HN6.out, by omega, HE.out.2⟩⟩
                  · rw [if_pos (by rfl)]
                    obtain ⟨v2, hv2, HXa, HBv2, hsv2⟩ := one_open v1 35 #[.slice none 0 0]
                    obtain ⟨ga, hga⟩ : ∃ g, v1.heap.size = g := ⟨_, rfl⟩
                    rw [hga] at HXa hsv2
                    have HS : (fun V => Bx V g6 35 #[.slice Aq Bg.length kq] ∧ Below wz.heap.size wz V) _ := ⟨hHeld.1.later HBv2.out, hHeld.2.trans (HBv2.out.mono hHeld.2.size)⟩
                    have hzga : wz.heap.size ≤ ga := by have := hHeld.2.size; omega
                    have hneab : gb ≠ ga := by have := HXb.out.lt; omega
                    replace HXb := Lib.hid (HXb.out.later HBv2.out)
                    clear hHeld HBv2 hsv2
                    go_simp
                    refine hK.out _ _ HS (fun hHeld => ?_)
                    clear hK K HS
                    try simp only [Act.put, List.setIfInBounds_toArray, List.set_cons_zero, List.set_cons_succ]
                    clear hga
                    refine wpAnyW_held (i := 6) (by kernel_rfl) (by simp only [List.getElem?_toArray, List.getElem?_cons_succ, List.getElem?_cons_zero]; rfl) (fun K hK => ?_)
                    rw [if_pos (by rfl)]
                    go_simp
                    refine (HRP.out _ _ (HRQ.out.below hHeld.2)).mono ?_
                    rintro _ u6 ⟨A5, k5, rfl, hr, hf, hb⟩
                    have HS : (fun V => Bx V g6 35 #[.slice Aq Bg.length kq] ∧ Below wz.heap.size wz V) _ := ⟨hHeld.1.later hb, hHeld.2.trans (hb.mono hHeld.2.size)⟩
                    have HR5 := Lib.hid hr
                    have HN5 := Lib.hid (hf g5 (by have := hHeld.2.size; omega) HP5.out)
                    have HN6 := Lib.hid (hf g6 (by have := hHeld.2.size; omega) HP6.out)
                    have HNgb := Lib.hid (hf gb (by have := HXb.out.lt; omega) (Apart.new HRQ.out hzgb))
                    replace HXb := Lib.hid (HXb.out.later hb)
                    have HNga := Lib.hid (hf ga (by have := HXa.out.lt; omega) (Apart.new HRQ.out hzga))
                    replace HXa := Lib.hid (HXa.out.later hb)
                    clear hHeld hr hf hb
                    go_wp2_with fail
                    refine hK.out _ _ HS (fun hHeld => ?_)
                    clear hK K HS
                    try simp only [Act.put, List.setIfInBounds_toArray, List.set_cons_zero, List.set_cons_succ]
                    refine wpAnyW_take (i := 7) (v := ?_) (by simp only [List.getElem?_toArray, List.getElem?_cons_succ, List.getElem?_cons_zero]; rfl) (by kernel_rfl) (by kernel_rfl) (by kernel_rfl) (by kernel_rfl) (by kernel_rfl) (fun _ _ _ h => h) (Or.inl ⟨by rfl, ?_⟩) (by assumption) ?_
                    rotate_left 1
                    · (intro w' hSw; go_simp; try with_reducible rfl)
                    try simp only [Act.put, List.setIfInBounds_toArray, List.set_cons_zero, List.set_cons_succ]
                    refine wpAnyW_take (i := 8) (v := ?_) (by simp only [List.getElem?_toArray, List.getElem?_cons_succ, List.getElem?_cons_zero]; rfl) (by kernel_rfl) (by kernel_rfl) (by kernel_rfl) (by kernel_rfl) (by kernel_rfl) (fun _ _ _ h => h) (Or.inl ⟨by rfl, ?_⟩) (by assumption) ?_
                    rotate_left 1
                    · (intro w' hSw; go_simp; try with_reducible rfl)
                    try simp only [Act.put, List.setIfInBounds_toArray, List.set_cons_zero, List.set_cons_succ]
                    refine wpAnyW_take (i := 9) (v := ?_) (by simp only [List.getElem?_toArray, List.getElem?_cons_succ, List.getElem?_cons_zero]; rfl) (by kernel_rfl) (by kernel_rfl) (by kernel_rfl) (by kernel_rfl) (by kernel_rfl) (fun _ _ _ h => h) (Or.inl ⟨by rfl, ?_⟩) (by assumption) ?_
                    rotate_left 1
                    · (intro w' hSw; go_simp; try with_reducible rfl)
                    try simp only [Act.put, List.setIfInBounds_toArray, List.set_cons_zero, List.set_cons_succ]
                    refine wpAnyW_take (i := 10) (v := ?_) (by simp only [List.getElem?_toArray, List.getElem?_cons_succ, List.getElem?_cons_zero]; rfl) (by kernel_rfl) (by kernel_rfl) (by kernel_rfl) (by kernel_rfl) (by kernel_rfl) (fun _ _ _ h => h) (Or.inl ⟨by rfl, ?_⟩) (by assumption) ?_
                    rotate_left 1
                    · (intro w' hSw; go_simp; try with_reducible rfl)
                    try simp only [Act.put, List.setIfInBounds_toArray, List.set_cons_zero, List.set_cons_succ]
                    refine wpAnyW_held (i := 13) (by kernel_rfl) (by simp only [List.getElem?_toArray, List.getElem?_cons_succ, List.getElem?_cons_zero]; rfl) (fun K hK => ?_)
                    rw [if_pos (by rfl)]
                    refine wpB (ty := 35) #[.slice A5 Y.length k5] rfl rfl rfl HXa.out infoRB rfl (cellsRB_one _ _ _) ?_
                    intro y1 ht hg
                    have HS : (fun V => Bx V g6 35 #[.slice Aq Bg.length kq] ∧ Below wz.heap.size wz V) _ := ⟨hHeld.1.kept hg (by omega), below_of_grown1 hHeld.2 hg hHeld.2.size hzga⟩
                    replace HXb := Lib.hid (HXb.out.kept hg (by omega))
                    replace HR5 := Lib.hid (RowP.keptA HR5.out HNga.out hg)
                    replace HXa := Lib.hid ht
                    clear ht hg hHeld
                    refine hK.out _ _ HS (fun hHeld => ?_)
                    clear hK K HS
                    try simp only [Act.put, List.setIfInBounds_toArray, List.set_cons_zero, List.set_cons_succ]
                    refine wpAnyW_held (i := 14) (by kernel_rfl) (by simp only [List.getElem?_toArray, List.getElem?_cons_succ, List.getElem?_cons_zero]; rfl) (fun K hK => ?_)
                    rw [if_pos (by rfl)]
                    refine wpB (ty := 44) (cellsMg mo) rfl rfl rfl HXb.out infoRM rfl (cellsMg_one _) ?_
                    intro y2 ht hg
                    have HS : (fun V => Bx V g6 35 #[.slice Aq Bg.length kq] ∧ Below wz.heap.size wz V) _ := ⟨hHeld.1.kept hg (by omega), below_of_grown1 hHeld.2 hg hHeld.2.size hzgb⟩
                    replace HXa := Lib.hid (HXa.out.kept hg (by omega))
                    replace HR5 := Lib.hid (RowP.keptA HR5.out HNgb.out hg)
                    replace HXb := Lib.hid ht
                    clear ht hg hHeld
                    refine hK.out _ _ HS (fun hHeld => ?_)
                    clear hK K HS
                    try simp only [Act.put, List.setIfInBounds_toArray, List.set_cons_zero, List.set_cons_succ]
                    refine wpAnyW_freed (i := 15) (by kernel_rfl) (by kernel_rfl) (by simp only [List.getElem?_toArray, List.getElem?_cons_succ, List.getElem?_cons_zero]; rfl) (fun K hK => ?_)
                    rw [if_pos (by rfl)]
                    go_simp
                    have HE := Lib.hid hHeld
                    refine hK.out _ _ ?_
                    clear hK K hHeld
                    try simp only [Act.put, List.setIfInBounds_toArray, List.set_cons_zero, List.set_cons_succ]
                    refine wpAnyW_done (by kernel_rfl) ?_ _
                    refine NoPanic.normal ?_
                    go_wp2_with fail
                    go_meet
                    exact ⟨_, ga, gb, A5, k5, rfl, rfl, rfl, rfl, Lib.hid ⟨HXa.out, HXb.out, HR5.out, HN5.out, HN6.out, by omega, HE.out.2⟩⟩
              · rw [if_pos (by rfl)]
                obtain ⟨v0, hv0, HXa, HBv0, hsv0⟩ := one_open wz.drew 35 #[.slice none 0 0]
                obtain ⟨ga, hga⟩ : ∃ g, wz.drew.heap.size = g := ⟨_, rfl⟩
                rw [hga] at HXa hsv0
                have HS : (fun V => Bx V g6 35 #[.slice Aq Bg.length kq] ∧ Below wz.heap.size wz V) _ := ⟨hHeld.1.later HBv0.out, hHeld.2.trans (HBv0.out.mono hHeld.2.size)⟩
                have hzga : wz.heap.size ≤ ga := by have := hHeld.2.size; omega
                clear hHeld HBv0 hsv0
                go_simp
                refine hK.out _ _ HS (fun hHeld => ?_)
                clear hK K HS
                try simp only [Act.put, List.setIfInBounds_toArray, List.set_cons_zero, List.set_cons_succ]
                clear hga
                refine wpAnyW_two (i := 5) (i2 := 12) (by kernel_rfl) (by simp only [List.getElem?_toArray, List.getElem?_cons_succ, List.getElem?_cons_zero]; rfl) (by simp only [List.getElem?_toArray, List.getElem?_cons_succ, List.getElem?_cons_zero]; rfl) (fun K hK => ?_) (fun K hK => ?_)
                · rw [if_pos (by rfl)]
                  go_simp
                  refine (one_any x _).mono ?_
                  rintro _ u3 ⟨rfl, hb⟩
                  have HS : (fun V => Bx V g6 35 #[.slice Aq Bg.length kq] ∧ Below wz.heap.size wz V) _ := ⟨hHeld.1.later hb, hHeld.2.trans (hb.mono hHeld.2.size)⟩
                  replace HXa := Lib.hid (HXa.out.later hb)
                  clear hHeld hb
                  go_wp2_with fail
                  refine hK.out _ _ HS (fun hHeld => ?_)
                  clear hK K HS
                  try simp only [Act.put, List.setIfInBounds_toArray, List.set_cons_zero, List.set_cons_succ]
                  refine wpAnyW_two (i := 6) (i2 := 12) (by kernel_rfl) (by simp only [List.getElem?_toArray, List.getElem?_cons_succ, List.getElem?_cons_zero]; rfl) (by simp only [List.getElem?_toArray, List.getElem?_cons_succ, List.getElem?_cons_zero]; rfl) (fun K hK => ?_) (fun K hK => ?_)
                  · rw [if_pos (by rfl)]
                    go_simp
                    refine (HRP.out _ _ (HRQ.out.below hHeld.2)).mono ?_
                    rintro _ u6 ⟨A5, k5, rfl, hr, hf, hb⟩
                    have HS : (fun V => Bx V g6 35 #[.slice Aq Bg.length kq] ∧ Below wz.heap.size wz V) _ := ⟨hHeld.1.later hb, hHeld.2.trans (hb.mono hHeld.2.size)⟩
                    have HR5 := Lib.hid hr
                    have HN5 := Lib.hid (hf g5 (by have := hHeld.2.size; omega) HP5.out)
                    have HN6 := Lib.hid (hf g6 (by have := hHeld.2.size; omega) HP6.out)
                    have HNga := Lib.hid (hf ga (by have := HXa.out.lt; omega) (Apart.new HRQ.out hzga))
                    replace HXa := Lib.hid (HXa.out.later hb)
                    clear hHeld hr hf hb
                    go_wp2_with fail
                    refine hK.out _ _ HS (fun hHeld => ?_)
                    clear hK K HS
                    try simp only [Act.put, List.setIfInBounds_toArray, List.set_cons_zero, List.set_cons_succ]
                    refine wpAnyW_take (i := 7) (v := ?_) (by simp only [List.getElem?_toArray, List.getElem?_cons_succ, List.getElem?_cons_zero]; rfl) (by kernel_rfl) (by kernel_rfl) (by kernel_rfl) (by kernel_rfl) (by kernel_rfl) (fun _ _ _ h => h) (Or.inl ⟨by rfl, ?_⟩) (by assumption) ?_
                    rotate_left 1
                    · (intro w' hSw; go_simp; try with_reducible rfl)
                    try simp only [Act.put, List.setIfInBounds_toArray, List.set_cons_zero, List.set_cons_succ]
                    refine wpAnyW_take (i := 8) (v := ?_) (by simp only [List.getElem?_toArray, List.getElem?_cons_succ, List.getElem?_cons_zero]; rfl) (by kernel_rfl) (by kernel_rfl) (by kernel_rfl) (by kernel_rfl) (by kernel_rfl) (fun _ _ _ h => h) (Or.inl ⟨by rfl, ?_⟩) (by assumption) ?_
                    rotate_left 1
                    · (intro w' hSw; go_simp; try with_reducible rfl)
                    try simp only [Act.put, List.setIfInBounds_toArray, List.set_cons_zero, List.set_cons_succ]
                    refine wpAnyW_take (i := 9) (v := ?_) (by simp only [List.getElem?_toArray, List.getElem?_cons_succ, List.getElem?_cons_zero]; rfl) (by kernel_rfl) (by kernel_rfl) (by kernel_rfl) (by kernel_rfl) (by kernel_rfl) (fun _ _ _ h => h) (Or.inl ⟨by rfl, ?_⟩) (by assumption) ?_
                    rotate_left 1
                    · (intro w' hSw; go_simp; try with_reducible rfl)
                    try simp only [Act.put, List.setIfInBounds_toArray, List.set_cons_zero, List.set_cons_succ]
                    refine wpAnyW_take (i := 10) (v := ?_) (by simp only [List.getElem?_toArray, List.getElem?_cons_succ, List.getElem?_cons_zero]; rfl) (by kernel_rfl) (by kernel_rfl) (by kernel_rfl) (by kernel_rfl) (by kernel_rfl) (fun _ _ _ h => h) (Or.inl ⟨by rfl, ?_⟩) (by assumption) ?_
                    rotate_left 1
                    · (intro w' hSw; go_simp; try with_reducible rfl)
                    try simp only [Act.put, List.setIfInBounds_toArray, List.set_cons_zero, List.set_cons_succ]
                    refine wpAnyW_held (i := 12) (by kernel_rfl) (by simp only [List.getElem?_toArray, List.getElem?_cons_succ, List.getElem?_cons_zero]; rfl) (fun K hK => ?_)
                    rw [if_pos (by rfl)]
                    obtain ⟨v3, hv3, HXb, HBv3, hsv3⟩ := one_open u6 44 #[.int .u32 0, .bool false, .int .u16 0, .int .u16 0, .int .u32 0, .string ⟨#[]⟩]
                    obtain ⟨gb, hgb⟩ : ∃ g, u6.heap.size = g := ⟨_, rfl⟩
                    rw [hgb] at HXb hsv3
                    have HS : (fun V => Bx V g6 35 #[.slice Aq Bg.length kq] ∧ Below wz.heap.size wz V) _ := ⟨hHeld.1.later HBv3.out, hHeld.2.trans (HBv3.out.mono hHeld.2.size)⟩
                    have hzgb : wz.heap.size ≤ gb := by have := hHeld.2.size; omega
                    have HNgb := Lib.hid (Apart.new HR5.out (Nat.le_of_eq hgb))
                    replace HR5 := Lib.hid (RowP.below HR5.out HBv3.out)
                    have hneab : ga ≠ gb := by have := HXa.out.lt; omega
                    replace HXa := Lib.hid (HXa.out.later HBv3.out)
                    clear hHeld HBv3 hsv3
                    go_simp
                    refine hK.out _ _ HS (fun hHeld => ?_)
                    clear hK K HS
                    try simp only [Act.put, List.setIfInBounds_toArray, List.set_cons_zero, List.set_cons_succ]
                    clear hgb
                    refine wpAnyW_held (i := 13) (by kernel_rfl) (by simp only [List.getElem?_toArray, List.getElem?_cons_succ, List.getElem?_cons_zero]; rfl) (fun K hK => ?_)
                    rw [if_pos (by rfl)]
                    refine wpB (ty := 35) #[.slice A5 Y.length k5] rfl rfl rfl HXa.out infoRB rfl (cellsRB_one _ _ _) ?_
                    intro y1 ht hg
                    have HS : (fun V => Bx V g6 35 #[.slice Aq Bg.length kq] ∧ Below wz.heap.size wz V) _ := ⟨hHeld.1.kept hg (by omega), below_of_grown1 hHeld.2 hg hHeld.2.size hzga⟩
                    replace HXb := Lib.hid (HXb.out.kept hg (by omega))
                    replace HR5 := Lib.hid (RowP.keptA HR5.out HNga.out hg)
                    replace HXa := Lib.hid ht
                    clear ht hg hHeld
                    refine hK.out _ _ HS (fun hHeld => ?_)
                    clear hK K HS
                    try simp only [Act.put, List.setIfInBounds_toArray, List.set_cons_zero, List.set_cons_succ]
                    refine wpAnyW_held (i := 14) (by kernel_rfl) (by simp only [List.getElem?_toArray, List.getElem?_cons_succ, List.getElem?_cons_zero]; rfl) (fun K hK => ?_)
                    rw [if_pos (by rfl)]
                    refine wpB (ty := 44) (cellsMg mo) rfl rfl rfl HXb.out infoRM rfl (cellsMg_one _) ?_
                    intro y2 ht hg
                    have HS : (fun V => Bx V g6 35 #[.slice Aq Bg.length kq] ∧ Below wz.heap.size wz V) _ := ⟨hHeld.1.kept hg (by omega), below_of_grown1 hHeld.2 hg hHeld.2.size hzgb⟩
                    replace HXa := Lib.hid (HXa.out.kept hg (by omega))
                    replace HR5 := Lib.hid (RowP.keptA HR5.out HNgb.out hg)
                    replace HXb := Lib.hid ht
                    clear ht hg hHeld
                    refine hK.out _ _ HS (fun hHeld => ?_)
                    clear hK K HS
                    try simp only [Act.put, List.setIfInBounds_toArray, List.set_cons_zero, List.set_cons_succ]
                    refine wpAnyW_freed (i := 15) (by kernel_rfl) (by kernel_rfl) (by simp only [List.getElem?_toArray, List.getElem?_cons_succ, List.getElem?_cons_zero]; rfl) (fun K hK => ?_)
                    rw [if_pos (by rfl)]
                    go_simp
                    have HE := Lib.hid hHeld
                    refine hK.out _ _ ?_
                    clear hK K hHeld
                    try simp only [Act.put, List.setIfInBounds_toArray, List.set_cons_zero, List.set_cons_succ]
                    refine wpAnyW_done (by kernel_rfl) ?_ _
                    refine NoPanic.normal ?_
                    go_wp2_with fail
                    go_meet
                    exact ⟨_, ga, gb, A5, k5, rfl, rfl, rfl, rfl, Lib.hid ⟨HXa.out, HXb.out, HR5.out, HN5.out, HN6.out, by omega, HE.out.2⟩⟩
                  · rw [if_pos (by rfl)]
                    obtain ⟨v2, hv2, HXb, HBv2, hsv2⟩ := one_open u3 44 #[.int .u32 0, .bool false, .int .u16 0, .int .u16 0, .int .u32 0, .string ⟨#[]⟩]
                    obtain ⟨gb, hgb⟩ : ∃ g, u3.heap.size = g := ⟨_, rfl⟩
                    rw [hgb] at HXb hsv2
                    have HS : (fun V => Bx V g6 35 #[.slice Aq Bg.length kq] ∧ Below wz.heap.size wz V) _ := ⟨hHeld.1.later HBv2.out, hHeld.2.trans (HBv2.out.mono hHeld.2.size)⟩
                    have hzgb : wz.heap.size ≤ gb := by have := hHeld.2.size; omega
                    have hneab : ga ≠ gb := by have := HXa.out.lt; omega
                    replace HXa := Lib.hid (HXa.out.later HBv2.out)
                    clear hHeld HBv2 hsv2
                    go_simp
                    refine hK.out _ _ HS (fun hHeld => ?_)
                    clear hK K HS
                    try simp only [Act.put, List.setIfInBounds_toArray, List.set_cons_zero, List.set_cons_succ]
                    clear hgb
                    refine wpAnyW_held (i := 6) (by kernel_rfl) (by simp only [List.getElem?_toArray, List.getElem?_cons_succ, List.getElem?_cons_zero]; rfl) (fun K hK => ?_)
                    rw [if_pos (by rfl)]
                    go_simp
                    refine (HRP.out _ _ (HRQ.out.below hHeld.2)).mono ?_
                    rintro _ u6 ⟨A5, k5, rfl, hr, hf, hb⟩
                    have HS : (fun V => Bx V g6 35 #[.slice Aq Bg.length kq] ∧ Below wz.heap.size wz V) _ := ⟨hHeld.1.later hb, hHeld.2.trans (hb.mono hHeld.2.size)⟩
                    have HR5 := Lib.hid hr
                    have HN5 := Lib.hid (hf g5 (by have := hHeld.2.size; omega) HP5.out)
                    have HN6 := Lib.hid (hf g6 (by have := hHeld.2.size; omega) HP6.out)
                    have HNga := Lib.hid (hf ga (by have := HXa.out.lt; omega) (Apart.new HRQ.out hzga))
                    replace HXa := Lib.hid (HXa.out.later hb)
                    have HNgb := Lib.hid (hf gb (by have := HXb.out.lt; omega) (Apart.new HRQ.out hzgb))
                    replace HXb := Lib.hid (HXb.out.later hb)
                    clear hHeld hr hf hb
                    go_wp2_with fail
                    refine hK.out _ _ HS (fun hHeld => ?_)
                    clear hK K HS
                    try simp only [Act.put, List.setIfInBounds_toArray, List.set_cons_zero, List.set_cons_succ]
                    refine wpAnyW_take (i := 7) (v := ?_) (by simp only [List.getElem?_toArray, List.getElem?_cons_succ, List.getElem?_cons_zero]; rfl) (by kernel_rfl) (by kernel_rfl) (by kernel_rfl) (by kernel_rfl) (by kernel_rfl) (fun _ _ _ h => h) (Or.inl ⟨by rfl, ?_⟩) (by assumption) ?_
                    rotate_left 1
                    · (intro w' hSw; go_simp; try with_reducible rfl)
                    try simp only [Act.put, List.setIfInBounds_toArray, List.set_cons_zero, List.set_cons_succ]
                    refine wpAnyW_take (i := 8) (v := ?_) (by simp only [List.getElem?_toArray, List.getElem?_cons_succ, List.getElem?_cons_zero]; rfl) (by kernel_rfl) (by kernel_rfl) (by kernel_rfl) (by kernel_rfl) (by kernel_rfl) (fun _ _ _ h => h) (Or.inl ⟨by rfl, ?_⟩) (by assumption) ?_
                    rotate_left 1
                    · (intro w' hSw; go_simp; try with_reducible rfl)
                    try simp only [Act.put, List.setIfInBounds_toArray, List.set_cons_zero, List.set_cons_succ]
                    refine wpAnyW_take (i := 9) (v := ?_) (by simp only [List.getElem?_toArray, List.getElem?_cons_succ, List.getElem?_cons_zero]; rfl) (by kernel_rfl) (by kernel_rfl) (by kernel_rfl) (by kernel_rfl) (by kernel_rfl) (fun _ _ _ h => h) (Or.inl ⟨by rfl, ?_⟩) (by assumption) ?_
                    rotate_left 1
                    · (intro w' hSw; go_simp; try with_reducible rfl)
                    try simp only [Act.put, List.setIfInBounds_toArray, List.set_cons_zero, List.set_cons_succ]
                    refine wpAnyW_take (i := 10) (v := ?_) (by simp only [List.getElem?_toArray, List.getElem?_cons_succ, List.getElem?_cons_zero]; rfl) (by kernel_rfl) (by kernel_rfl) (by kernel_rfl) (by kernel_rfl) (by kernel_rfl) (fun _ _ _ h => h) (Or.inl ⟨by rfl, ?_⟩) (by assumption) ?_
                    rotate_left 1
                    · (intro w' hSw; go_simp; try with_reducible rfl)
                    try simp only [Act.put, List.setIfInBounds_toArray, List.set_cons_zero, List.set_cons_succ]
                    refine wpAnyW_held (i := 13) (by kernel_rfl) (by simp only [List.getElem?_toArray, List.getElem?_cons_succ, List.getElem?_cons_zero]; rfl) (fun K hK => ?_)
                    rw [if_pos (by rfl)]
                    refine wpB (ty := 35) #[.slice A5 Y.length k5] rfl rfl rfl HXa.out infoRB rfl (cellsRB_one _ _ _) ?_
                    intro y1 ht hg
                    have HS : (fun V => Bx V g6 35 #[.slice Aq Bg.length kq] ∧ Below wz.heap.size wz V) _ := ⟨hHeld.1.kept hg (by omega), below_of_grown1 hHeld.2 hg hHeld.2.size hzga⟩
                    replace HXb := Lib.hid (HXb.out.kept hg (by omega))
                    replace HR5 := Lib.hid (RowP.keptA HR5.out HNga.out hg)
                    replace HXa := Lib.hid ht
                    clear ht hg hHeld
                    refine hK.out _ _ HS (fun hHeld => ?_)
                    clear hK K HS
                    try simp only [Act.put, List.setIfInBounds_toArray, List.set_cons_zero, List.set_cons_succ]
                    refine wpAnyW_held (i := 14) (by kernel_rfl) (by simp only [List.getElem?_toArray, List.getElem?_cons_succ, List.getElem?_cons_zero]; rfl) (fun K hK => ?_)
                    rw [if_pos (by rfl)]
                    refine wpB (ty := 44) (cellsMg mo) rfl rfl rfl HXb.out infoRM rfl (cellsMg_one _) ?_
                    intro y2 ht hg
                    have HS : (fun V => Bx V g6 35 #[.slice Aq Bg.length kq] ∧ Below wz.heap.size wz V) _ := ⟨hHeld.1.kept hg (by omega), below_of_grown1 hHeld.2 hg hHeld.2.size hzgb⟩
                    replace HXa := Lib.hid (HXa.out.kept hg (by omega))
                    replace HR5 := Lib.hid (RowP.keptA HR5.out HNgb.out hg)
                    replace HXb := Lib.hid ht
                    clear ht hg hHeld
                    refine hK.out _ _ HS (fun hHeld => ?_)
                    clear hK K HS
                    try simp only [Act.put, List.setIfInBounds_toArray, List.set_cons_zero, List.set_cons_succ]
                    refine wpAnyW_freed (i := 15) (by kernel_rfl) (by kernel_rfl) (by simp only [List.getElem?_toArray, List.getElem?_cons_succ, List.getElem?_cons_zero]; rfl) (fun K hK => ?_)
                    rw [if_pos (by rfl)]
                    go_simp
                    have HE := Lib.hid hHeld
                    refine hK.out _ _ ?_
                    clear hK K hHeld
                    try simp only [Act.put, List.setIfInBounds_toArray, List.set_cons_zero, List.set_cons_succ]
                    refine wpAnyW_done (by kernel_rfl) ?_ _
                    refine NoPanic.normal ?_
                    go_wp2_with fail
                    go_meet
                    exact ⟨_, ga, gb, A5, k5, rfl, rfl, rfl, rfl, Lib.hid ⟨HXa.out, HXb.out, HR5.out, HN5.out, HN6.out, by omega, HE.out.2⟩⟩
                · rw [if_pos (by rfl)]
                  obtain ⟨v1, hv1, HXb, HBv1, hsv1⟩ := one_open v0 44 #[.int .u32 0, .bool false, .int .u16 0, .int .u16 0, .int .u32 0, .string ⟨#[]⟩]
                  obtain ⟨gb, hgb⟩ : ∃ g, v0.heap.size = g := ⟨_, rfl⟩
                  rw [hgb] at HXb hsv1
                  have HS : (fun V => Bx V g6 35 #[.slice Aq Bg.length kq] ∧ Below wz.heap.size wz V) _ := ⟨hHeld.1.later HBv1.out, hHeld.2.trans (HBv1.out.mono hHeld.2.size)⟩
                  have hzgb : wz.heap.size ≤ gb := by have := hHeld.2.size; omega
                  have hneab : ga ≠ gb := by have := HXa.out.lt; omega
                  replace HXa := Lib.hid (HXa.out.later HBv1.out)
                  clear hHeld HBv1 hsv1
                  go_simp
                  refine hK.out _ _ HS (fun hHeld => ?_)
                  clear hK K HS
                  try simp only [Act.put, List.setIfInBounds_toArray, List.set_cons_zero, List.set_cons_succ]
                  clear hgb
                  refine wpAnyW_held (i := 5) (by kernel_rfl) (by simp only [List.getElem?_toArray, List.getElem?_cons_succ, List.getElem?_cons_zero]; rfl) (fun K hK => ?_)
                  rw [if_pos (by rfl)]
                  go_simp
                  refine (one_any x _).mono ?_
                  rintro _ u3 ⟨rfl, hb⟩
                  have HS : (fun V => Bx V g6 35 #[.slice Aq Bg.length kq] ∧ Below wz.heap.size wz V) _ := ⟨hHeld.1.later hb, hHeld.2.trans (hb.mono hHeld.2.size)⟩
                  replace HXa := Lib.hid (HXa.out.later hb)
                  replace HXb := Lib.hid (HXb.out.later hb)
                  clear hHeld hb
                  go_wp2_with fail
                  refine hK.out _ _ HS (fun hHeld => ?_)
                  clear hK K HS
                  try simp only [Act.put, List.setIfInBounds_toArray, List.set_cons_zero, List.set_cons_succ]
                  refine wpAnyW_held (i := 6) (by kernel_rfl) (by simp only [List.getElem?_toArray, List.getElem?_cons_succ, List.getElem?_cons_zero]; rfl) (fun K hK => ?_)
                  rw [if_pos (by rfl)]
                  go_simp
                  refine (HRP.out _ _ (HRQ.out.below hHeld.2)).mono ?_
                  rintro _ u6 ⟨A5, k5, rfl, hr, hf, hb⟩
                  have HS : (fun V => Bx V g6 35 #[.slice Aq Bg.length kq] ∧ Below wz.heap.size wz V) _ := ⟨hHeld.1.later hb, hHeld.2.trans (hb.mono hHeld.2.size)⟩
                  have HR5 := Lib.hid hr
                  have HN5 := Lib.hid (hf g5 (by have := hHeld.2.size; omega) HP5.out)
                  have HN6 := Lib.hid (hf g6 (by have := hHeld.2.size; omega) HP6.out)
                  have HNga := Lib.hid (hf ga (by have := HXa.out.lt; omega) (Apart.new HRQ.out hzga))
                  replace HXa := Lib.hid (HXa.out.later hb)
                  have HNgb := Lib.hid (hf gb (by have := HXb.out.lt; omega) (Apart.new HRQ.out hzgb))
                  replace HXb := Lib.hid (HXb.out.later hb)
                  clear hHeld hr hf hb
                  go_wp2_with fail
                  refine hK.out _ _ HS (fun hHeld => ?_)
                  clear hK K HS
                  try simp only [Act.put, List.setIfInBounds_toArray, List.set_cons_zero, List.set_cons_succ]
                  refine wpAnyW_take (i := 7) (v := ?_) (by simp only [List.getElem?_toArray, List.getElem?_cons_succ, List.getElem?_cons_zero]; rfl) (by kernel_rfl) (by kernel_rfl) (by kernel_rfl) (by kernel_rfl) (by kernel_rfl) (fun _ _ _ h => h) (Or.inl ⟨by rfl, ?_⟩) (by assumption) ?_
                  rotate_left 1
                  · (intro w' hSw; go_simp; try with_reducible rfl)
                  try simp only [Act.put, List.setIfInBounds_toArray, List.set_cons_zero, List.set_cons_succ]
                  refine wpAnyW_take (i := 8) (v := ?_) (by simp only [List.getElem?_toArray, List.getElem?_cons_succ, List.getElem?_cons_zero]; rfl) (by kernel_rfl) (by kernel_rfl) (by kernel_rfl) (by kernel_rfl) (by kernel_rfl) (fun _ _ _ h => h) (Or.inl ⟨by rfl, ?_⟩) (by assumption) ?_
                  rotate_left 1
                  · (intro w' hSw; go_simp; try with_reducible rfl)
                  try simp only [Act.put, List.setIfInBounds_toArray, List.set_cons_zero, List.set_cons_succ]
                  refine wpAnyW_take (i := 9) (v := ?_) (by simp only [List.getElem?_toArray, List.getElem?_cons_succ, List.getElem?_cons_zero]; rfl) (by kernel_rfl) (by kernel_rfl) (by kernel_rfl) (by kernel_rfl) (by kernel_rfl) (fun _ _ _ h => h) (Or.inl ⟨by rfl, ?_⟩) (by assumption) ?_
                  rotate_left 1
                  · (intro w' hSw; go_simp; try with_reducible rfl)
                  try simp only [Act.put, List.setIfInBounds_toArray, List.set_cons_zero, List.set_cons_succ]
                  refine wpAnyW_take (i := 10) (v := ?_) (by simp only [List.getElem?_toArray, List.getElem?_cons_succ, List.getElem?_cons_zero]; rfl) (by kernel_rfl) (by kernel_rfl) (by kernel_rfl) (by kernel_rfl) (by kernel_rfl) (fun _ _ _ h => h) (Or.inl ⟨by rfl, ?_⟩) (by assumption) ?_
                  rotate_left 1
                  · (intro w' hSw; go_simp; try with_reducible rfl)
                  try simp only [Act.put, List.setIfInBounds_toArray, List.set_cons_zero, List.set_cons_succ]
                  refine wpAnyW_held (i := 13) (by kernel_rfl) (by simp only [List.getElem?_toArray, List.getElem?_cons_succ, List.getElem?_cons_zero]; rfl) (fun K hK => ?_)
                  rw [if_pos (by rfl)]
                  refine wpB (ty := 35) #[.slice A5 Y.length k5] rfl rfl rfl HXa.out infoRB rfl (cellsRB_one _ _ _) ?_
                  intro y1 ht hg
                  have HS : (fun V => Bx V g6 35 #[.slice Aq Bg.length kq] ∧ Below wz.heap.size wz V) _ := ⟨hHeld.1.kept hg (by omega), below_of_grown1 hHeld.2 hg hHeld.2.size hzga⟩
                  replace HXb := Lib.hid (HXb.out.kept hg (by omega))
                  replace HR5 := Lib.hid (RowP.keptA HR5.out HNga.out hg)
                  replace HXa := Lib.hid ht
                  clear ht hg hHeld
                  refine hK.out _ _ HS (fun hHeld => ?_)
                  clear hK K HS
                  try simp only [Act.put, List.setIfInBounds_toArray, List.set_cons_zero, List.set_cons_succ]
                  refine wpAnyW_held (i := 14) (by kernel_rfl) (by simp only [List.getElem?_toArray, List.getElem?_cons_succ, List.getElem?_cons_zero]; rfl) (fun K hK => ?_)
                  rw [if_pos (by rfl)]
                  refine wpB (ty := 44) (cellsMg mo) rfl rfl rfl HXb.out infoRM rfl (cellsMg_one _) ?_
                  intro y2 ht hg
                  have HS : (fun V => Bx V g6 35 #[.slice Aq Bg.length kq] ∧ Below wz.heap.size wz V) _ := ⟨hHeld.1.kept hg (by omega), below_of_grown1 hHeld.2 hg hHeld.2.size hzgb⟩
                  replace HXa := Lib.hid (HXa.out.kept hg (by omega))
                  replace HR5 := Lib.hid (RowP.keptA HR5.out HNgb.out hg)
                  replace HXb := Lib.hid ht
                  clear ht hg hHeld
                  refine hK.out _ _ HS (fun hHeld => ?_)
                  clear hK K HS
                  try simp only [Act.put, List.setIfInBounds_toArray, List.set_cons_zero, List.set_cons_succ]
                  refine wpAnyW_freed (i := 15) (by kernel_rfl) (by kernel_rfl) (by simp only [List.getElem?_toArray, List.getElem?_cons_succ, List.getElem?_cons_zero]; rfl) (fun K hK => ?_)
                  rw [if_pos (by rfl)]
                  go_simp
                  have HE := Lib.hid hHeld
                  refine hK.out _ _ ?_
                  clear hK K hHeld
                  try simp only [Act.put, List.setIfInBounds_toArray, List.set_cons_zero, List.set_cons_succ]
                  refine wpAnyW_done (by kernel_rfl) ?_ _
                  refine NoPanic.normal ?_
                  go_wp2_with fail
                  go_meet
                  exact ⟨_, ga, gb, A5, k5, rfl, rfl, rfl, rfl, Lib.hid ⟨HXa.out, HXb.out, HR5.out, HN5.out, HN6.out, by omega, HE.out.2⟩⟩
              · rw [if_pos (by rfl)]
                obtain ⟨v0, hv0, HXb, HBv0, hsv0⟩ := one_open wz.drew 44 #[.int .u32 0, .bool false, .int .u16 0, .int .u16 0, .int .u32 0, .string ⟨#[]⟩]
                obtain ⟨gb, hgb⟩ : ∃ g, wz.drew.heap.size = g := ⟨_, rfl⟩
                rw [hgb] at HXb hsv0
                have HS : (fun V => Bx V g6 35 #[.slice Aq Bg.length kq] ∧ Below wz.heap.size wz V) _ := ⟨hHeld.1.later HBv0.out, hHeld.2.trans (HBv0.out.mono hHeld.2.size)⟩
                have hzgb : wz.heap.size ≤ gb := by have := hHeld.2.size; omega
                clear hHeld HBv0 hsv0
                go_simp
                refine hK.out _ _ HS (fun hHeld => ?_)
                clear hK K HS
                try simp only [Act.put, List.setIfInBounds_toArray, List.set_cons_zero, List.set_cons_succ]
                clear hgb
                refine wpAnyW_two (i := 5) (i2 := 11) (by kernel_rfl) (by simp only [List.getElem?_toArray, List.getElem?_cons_succ, List.getElem?_cons_zero]; rfl) (by simp only [List.getElem?_toArray, List.getElem?_cons_succ, List.getElem?_cons_zero]; rfl) (fun K hK => ?_) (fun K hK => ?_)
                · rw [if_pos (by rfl)]
                  go_simp
                  refine (one_any x _).mono ?_
                  rintro _ u3 ⟨rfl, hb⟩
                  have HS : (fun V => Bx V g6 35 #[.slice Aq Bg.length kq] ∧ Below wz.heap.size wz V) _ := ⟨hHeld.1.later hb, hHeld.2.trans (hb.mono hHeld.2.size)⟩
                  replace HXb := Lib.hid (HXb.out.later hb)
                  clear hHeld hb
                  go_wp2_with fail
                  refine hK.out _ _ HS (fun hHeld => ?_)
                  clear hK K HS
                  try simp only [Act.put, List.setIfInBounds_toArray, List.set_cons_zero, List.set_cons_succ]
                  refine wpAnyW_two (i := 6) (i2 := 11) (by kernel_rfl) (by simp only [List.getElem?_toArray, List.getElem?_cons_succ, List.getElem?_cons_zero]; rfl) (by simp only [List.getElem?_toArray, List.getElem?_cons_succ, List.getElem?_cons_zero]; rfl) (fun K hK => ?_) (fun K hK => ?_)
                  · rw [if_pos (by rfl)]
                    go_simp
                    refine (HRP.out _ _ (HRQ.out.below hHeld.2)).mono ?_
                    rintro _ u6 ⟨A5, k5, rfl, hr, hf, hb⟩
                    have HS : (fun V => Bx V g6 35 #[.slice Aq Bg.length kq] ∧ Below wz.heap.size wz V) _ := ⟨hHeld.1.later hb, hHeld.2.trans (hb.mono hHeld.2.size)⟩
                    have HR5 := Lib.hid hr
                    have HN5 := Lib.hid (hf g5 (by have := hHeld.2.size; omega) HP5.out)
                    have HN6 := Lib.hid (hf g6 (by have := hHeld.2.size; omega) HP6.out)
                    have HNgb := Lib.hid (hf gb (by have := HXb.out.lt; omega) (Apart.new HRQ.out hzgb))
                    replace HXb := Lib.hid (HXb.out.later hb)
                    clear hHeld hr hf hb
                    go_wp2_with fail
                    refine hK.out _ _ HS (fun hHeld => ?_)
                    clear hK K HS
                    try simp only [Act.put, List.setIfInBounds_toArray, List.set_cons_zero, List.set_cons_succ]
                    refine wpAnyW_take (i := 7) (v := ?_) (by simp only [List.getElem?_toArray, List.getElem?_cons_succ, List.getElem?_cons_zero]; rfl) (by kernel_rfl) (by kernel_rfl) (by kernel_rfl) (by kernel_rfl) (by kernel_rfl) (fun _ _ _ h => h) (Or.inl ⟨by rfl, ?_⟩) (by assumption) ?_
                    rotate_left 1
                    · (intro w' hSw; go_simp; try with_reducible rfl)
                    try simp only [Act.put, List.setIfInBounds_toArray, List.set_cons_zero, List.set_cons_succ]
                    refine wpAnyW_take (i := 8) (v := ?_) (by simp only [List.getElem?_toArray, List.getElem?_cons_succ, List.getElem?_cons_zero]; rfl) (by kernel_rfl) (by kernel_rfl) (by kernel_rfl) (by kernel_rfl) (by kernel_rfl) (fun _ _ _ h => h) (Or.inl ⟨by rfl, ?_⟩) (by assumption) ?_
                    rotate_left 1
                    · (intro w' hSw; go_simp; try with_reducible rfl)
                    try simp only [Act.put, List.setIfInBounds_toArray, List.set_cons_zero, List.set_cons_succ]
                    refine wpAnyW_take (i := 9) (v := ?_) (by simp only [List.getElem?_toArray, List.getElem?_cons_succ, List.getElem?_cons_zero]; rfl) (by kernel_rfl) (by kernel_rfl) (by kernel_rfl) (by kernel_rfl) (by kernel_rfl) (fun _ _ _ h => h) (Or.inl ⟨by rfl, ?_⟩) (by assumption) ?_
                    rotate_left 1
                    · (intro w' hSw; go_simp; try with_reducible rfl)
                    try simp only [Act.put, List.setIfInBounds_toArray, List.set_cons_zero, List.set_cons_succ]
                    refine wpAnyW_take (i := 10) (v := ?_) (by simp only [List.getElem?_toArray, List.getElem?_cons_succ, List.getElem?_cons_zero]; rfl) (by kernel_rfl) (by kernel_rfl) (by kernel_rfl) (by kernel_rfl) (by kernel_rfl) (fun _ _ _ h => h) (Or.inl ⟨by rfl, ?_⟩) (by assumption) ?_
                    rotate_left 1
                    · (intro w' hSw; go_simp; try with_reducible rfl)
                    try simp only [Act.put, List.setIfInBounds_toArray, List.set_cons_zero, List.set_cons_succ]
                    refine wpAnyW_held (i := 11) (by kernel_rfl) (by simp only [List.getElem?_toArray, List.getElem?_cons_succ, List.getElem?_cons_zero]; rfl) (fun K hK => ?_)
                    rw [if_pos (by rfl)]
                    obtain ⟨v3, hv3, HXa, HBv3, hsv3⟩ := one_open u6 35 #[.slice none 0 0]
                    obtain ⟨ga, hga⟩ : ∃ g, u6.heap.size = g := ⟨_, rfl⟩
                    rw [hga] at HXa hsv3
                    have HS : (fun V => Bx V g6 35 #[.slice Aq Bg.length kq] ∧ Below wz.heap.size wz V) _ := ⟨hHeld.1.later HBv3.out, hHeld.2.trans (HBv3.out.mono hHeld.2.size)⟩
                    have hzga : wz.heap.size ≤ ga := by have := hHeld.2.size; omega
                    have HNga := Lib.hid (Apart.new HR5.out (Nat.le_of_eq hga))
                    replace HR5 := Lib.hid (RowP.below HR5.out HBv3.out)
                    have hneab : gb ≠ ga := by have := HXb.out.lt; omega
                    replace HXb := Lib.hid (HXb.out.later HBv3.out)
                    clear hHeld HBv3 hsv3
                    go_simp
                    refine hK.out _ _ HS (fun hHeld => ?_)
                    clear hK K HS
                    try simp only [Act.put, List.setIfInBounds_toArray, List.set_cons_zero, List.set_cons_succ]
                    clear hga
                    refine wpAnyW_held (i := 13) (by kernel_rfl) (by simp only [List.getElem?_toArray, List.getElem?_cons_succ, List.getElem?_cons_zero]; rfl) (fun K hK => ?_)
                    rw [if_pos (by rfl)]
                    refine wpB (ty := 35) #[.slice A5 Y.length k5] rfl rfl rfl HXa.out infoRB rfl (cellsRB_one _ _ _) ?_
                    intro y1 ht hg
                    have HS : (fun V => Bx V g6 35 #[.slice Aq Bg.length kq] ∧ Below wz.heap.size wz V) _ := ⟨hHeld.1.kept hg (by omega), below_of_grown1 hHeld.2 hg hHeld.2.size hzga⟩
                    replace HXb := Lib.hid (HXb.out.kept hg (by omega))
                    replace HR5 := Lib.hid (RowP.keptA HR5.out HNga.out hg)
                    replace HXa := Lib.hid ht
                    clear ht hg hHeld
                    refine hK.out _ _ HS (fun hHeld => ?_)
                    clear hK K HS
                    try simp only [Act.put, List.setIfInBounds_toArray, List.set_cons_zero, List.set_cons_succ]
                    refine wpAnyW_held (i := 14) (by kernel_rfl) (by simp only [List.getElem?_toArray, List.getElem?_cons_succ, List.getElem?_cons_zero]; rfl) (fun K hK => ?_)
                    rw [if_pos (by rfl)]
                    refine wpB (ty := 44) (cellsMg mo) rfl rfl rfl HXb.out infoRM rfl (cellsMg_one _) ?_
                    intro y2 ht hg
                    have HS : (fun V => Bx V g6 35 #[.slice Aq Bg.length kq] ∧ Below wz.heap.size wz V) _ := ⟨hHeld.1.kept hg (by omega), below_of_grown1 hHeld.2 hg hHeld.2.size hzgb⟩
                    replace HXa := Lib.hid (HXa.out.kept hg (by omega))
                    replace HR5 := Lib.hid (RowP.keptA HR5.out HNgb.out hg)
                    replace HXb := Lib.hid ht
                    clear ht hg hHeld
                    refine hK.out _ _ HS (fun hHeld => ?_)
                    clear hK K HS
                    try simp only [Act.put, List.setIfInBounds_toArray, List.set_cons_zero, List.set_cons_succ]
                    refine wpAnyW_freed (i := 15) (by kernel_rfl) (by kernel_rfl) (by simp only [List.getElem?_toArray, List.getElem?_cons_succ, List.getElem?_cons_zero]; rfl) (fun K hK => ?_)
                    rw [if_pos (by rfl)]
                    go_simp
                    have HE := Lib.hid hHeld
                    refine hK.out _ _ ?_
                    clear hK K hHeld
                    try simp only [Act.put, List.setIfInBounds_toArray, List.set_cons_zero, List.set_cons_succ]
                    refine wpAnyW_done (by kernel_rfl) ?_ _
                    refine NoPanic.normal ?_
                    go_wp2_with fail
                    go_meet
                    exact ⟨_, ga, gb, A5, k5, rfl, rfl, rfl, rfl, Lib.hid ⟨HXa.out, HXb.out, HR5.out, HN5.out, HN6.out, by omega, HE.out.2⟩⟩
                  · rw [if_pos (by rfl)]
                    obtain ⟨v2, hv2, HXa, HBv2, hsv2⟩ := one_open u3 35 #[.slice none 0 0]
                    obtain ⟨ga, hga⟩ : ∃ g, u3.heap.size = g := ⟨_, rfl⟩
                    rw [hga] at HXa hsv2
                    have HS : (fun V => Bx V g6 35 #[.slice Aq Bg.length kq] ∧ Below wz.heap.size wz V) _ := ⟨hHeld.1.later HBv2.out, hHeld.2.trans (HBv2.out.mono hHeld.2.size)⟩
                    have hzga : wz.heap.size ≤ ga := by have := hHeld.2.size; omega
                    have hneab : gb ≠ ga := by have := HXb.out.lt; omega
                    replace HXb := Lib.hid (HXb.out.later HBv2.out)
                    clear hHeld HBv2 hsv2
                    go_simp
                    refine hK.out _ _ HS (fun hHeld => ?_)
                    clear hK K HS
                    try simp only [Act.put, List.setIfInBounds_toArray, List.set_cons_zero, List.set_cons_succ]
                    clear hga
                    refine wpAnyW_held (i := 6) (by kernel_rfl) (by simp only [List.getElem?_toArray, List.getElem?_cons_succ, List.getElem?_cons_zero]; rfl) (fun K hK => ?_)
                    rw [if_pos (by rfl)]
                    go_simp
                    refine (HRP.out _ _ (HRQ.out.below hHeld.2)).mono ?_
                    rintro _ u6 ⟨A5, k5, rfl, hr, hf, hb⟩
                    have HS : (fun V => Bx V g6 35 #[.slice Aq Bg.length kq] ∧ Below wz.heap.size wz V) _ := ⟨hHeld.1.later hb, hHeld.2.trans (hb.mono hHeld.2.size)⟩
                    have HR5 := Lib.hid hr
                    have HN5 := Lib.hid (hf g5 (by have := hHeld.2.size; omega) HP5.out)
                    have HN6 := Lib.hid (hf g6 (by have := hHeld.2.size; omega) HP6.out)
                    have HNgb := Lib.hid (hf gb (by have := HXb.out.lt; omega) (Apart.new HRQ.out hzgb))
                    replace HXb := Lib.hid (HXb.out.later hb)
                    have HNga := Lib.hid (hf ga (by have := HXa.out.lt; omega) (Apart.new HRQ.out hzga))
                    replace HXa := Lib.hid (HXa.out.later hb)
                    clear hHeld hr hf hb
                    go_wp2_with fail
                    refine hK.out _ _ HS (fun hHeld => ?_)
                    clear hK K HS
                    try simp only [Act.put, List.setIfInBounds_toArray, List.set_cons_zero, List.set_cons_succ]
                    refine wpAnyW_take (i := 7) (v := ?_) (by simp only [List.getElem?_toArray, List.getElem?_cons_succ, List.getElem?_cons_zero]; rfl) (by kernel_rfl) (by kernel_rfl) (by kernel_rfl) (by kernel_rfl) (by kernel_rfl) (fun _ _ _ h => h) (Or.inl ⟨by rfl, ?_⟩) (by assumption) ?_
                    rotate_left 1
                    · (intro w' hSw; go_simp; try with_reducible rfl)
                    try simp only [Act.put, List.setIfInBounds_toArray, List.set_cons_zero, List.set_cons_succ]
                    refine wpAnyW_take (i := 8) (v := ?_) (by simp only [List.getElem?_toArray, List.getElem?_cons_succ, List.getElem?_cons_zero]; rfl) (by kernel_rfl) (by kernel_rfl) (by kernel_rfl) (by kernel_rfl) (by kernel_rfl) (fun _ _ _ h => h) (Or.inl ⟨by rfl, ?_⟩) (by assumption) ?_
                    rotate_left 1
                    · (intro w' hSw; go_simp; try with_reducible rfl)
                    try simp only [Act.put, List.setIfInBounds_toArray, List.set_cons_zero, List.set_cons_succ]
                    refine wpAnyW_take (i := 9) (v := ?_) (by simp only [List.getElem?_toArray, List.getElem?_cons_succ, List.getElem?_cons_zero]; rfl) (by kernel_rfl) (by kernel_rfl) (by kernel_rfl) (by kernel_rfl) (by kernel_rfl) (fun _ _ _ h => h) (Or.inl ⟨by rfl, ?_⟩) (by assumption) ?_
                    rotate_left 1
                    · (intro w' hSw; go_simp; try with_reducible rfl)
                    try simp only [Act.put, List.setIfInBounds_toArray, List.set_cons_zero, List.set_cons_succ]
                    refine wpAnyW_take (i := 10) (v := ?_) (by simp only [List.getElem?_toArray, List.getElem?_cons_succ, List.getElem?_cons_zero]; rfl) (by kernel_rfl) (by kernel_rfl) (by kernel_rfl) (by kernel_rfl) (by kernel_rfl) (fun _ _ _ h => h) (Or.inl ⟨by rfl, ?_⟩) (by assumption) ?_
                    rotate_left 1
                    · (intro w' hSw; go_simp; try with_reducible rfl)
                    try simp only [Act.put, List.setIfInBounds_toArray, List.set_cons_zero, List.set_cons_succ]
                    refine wpAnyW_held (i := 13) (by kernel_rfl) (by simp only [List.getElem?_toArray, List.getElem?_cons_succ, List.getElem?_cons_zero]; rfl) (fun K hK => ?_)
                    rw [if_pos (by rfl)]
                    refine wpB (ty := 35) #[.slice A5 Y.length k5] rfl rfl rfl HXa.out infoRB rfl (cellsRB_one _ _ _) ?_
                    intro y1 ht hg
                    have HS : (fun V => Bx V g6 35 #[.slice Aq Bg.length kq] ∧ Below wz.heap.size wz V) _ := ⟨hHeld.1.kept hg (by omega), below_of_grown1 hHeld.2 hg hHeld.2.size hzga⟩
                    replace HXb := Lib.hid (HXb.out.kept hg (by omega))
                    replace HR5 := Lib.hid (RowP.keptA HR5.out HNga.out hg)
                    replace HXa := Lib.hid ht
                    clear ht hg hHeld
                    refine hK.out _ _ HS (fun hHeld => ?_)
                    clear hK K HS
                    try simp only [Act.put, List.setIfInBounds_toArray, List.set_cons_zero, List.set_cons_succ]
                    refine wpAnyW_held (i := 14) (by kernel_rfl) (by simp only [List.getElem?_toArray, List.getElem?_cons_succ, List.getElem?_cons_zero]; rfl) (fun K hK => ?_)
                    rw [if_pos (by rfl)]
                    refine wpB (ty := 44) (cellsMg mo) rfl rfl rfl HXb.out infoRM rfl (cellsMg_one _) ?_
                    intro y2 ht hg
                    have HS : (fun V => Bx V g6 35 #[.slice Aq Bg.length kq] ∧ Below wz.heap.size wz V) _ := ⟨hHeld.1.kept hg (by omega), below_of_grown1 hHeld.2 hg hHeld.2.size hzgb⟩
                    replace HXa := Lib.hid (HXa.out.kept hg (by omega))
                    replace HR5 := Lib.hid (RowP.keptA HR5.out HNgb.out hg)
                    replace HXb := Lib.hid ht
                    clear ht hg hHeld
                    refine hK.out _ _ HS (fun hHeld => ?_)
                    clear hK K HS
                    try simp only [Act.put, List.setIfInBounds_toArray, List.set_cons_zero, List.set_cons_succ]
                    refine wpAnyW_freed (i := 15) (by kernel_rfl) (by kernel_rfl) (by simp only [List.getElem?_toArray, List.getElem?_cons_succ, List.getElem?_cons_zero]; rfl) (fun K hK => ?_)
                    rw [if_pos (by rfl)]
                    go_simp
                    have HE := Lib.hid hHeld
                    refine hK.out _ _ ?_
                    clear hK K hHeld
                    try simp only [Act.put, List.setIfInBounds_toArray, List.set_cons_zero, List.set_cons_succ]
                    refine wpAnyW_done (by kernel_rfl) ?_ _
                    refine NoPanic.normal ?_
                    go_wp2_with fail
                    go_meet
                    exact ⟨_, ga, gb, A5, k5, rfl, rfl, rfl, rfl, Lib.hid ⟨HXa.out, HXb.out, HR5.out, HN5.out, HN6.out, by omega, HE.out.2⟩⟩
                · rw [if_pos (by rfl)]
                  obtain ⟨v1, hv1, HXa, HBv1, hsv1⟩ := one_open v0 35 #[.slice none 0 0]
                  obtain ⟨ga, hga⟩ : ∃ g, v0.heap.size = g := ⟨_, rfl⟩
                  rw [hga] at HXa hsv1
                  have HS : (fun V => Bx V g6 35 #[.slice Aq Bg.length kq] ∧ Below wz.heap.size wz V) _ := ⟨hHeld.1.later HBv1.out, hHeld.2.trans (HBv1.out.mono hHeld.2.size)⟩
                  have hzga : wz.heap.size ≤ ga := by have := hHeld.2.size; omega
                  have hneab : gb ≠ ga := by have := HXb.out.lt; omega
                  replace HXb := Lib.hid (HXb.out.later HBv1.out)
                  clear hHeld HBv1 hsv1
                  go_simp
                  refine hK.out _ _ HS (fun hHeld => ?_)
                  clear hK K HS
                  try simp only [Act.put, List.setIfInBounds_toArray, List.set_cons_zero, List.set_cons_succ]
                  clear hga
                  refine wpAnyW_held (i := 5) (by kernel_rfl) (by simp only [List.getElem?_toArray, List.getElem?_cons_succ, List.getElem?_cons_zero]; rfl) (fun K hK => ?_)
                  rw [if_pos (by rfl)]
                  go_simp
                  refine (one_any x _).mono ?_
                  rintro _ u3 ⟨rfl, hb⟩
                  have HS : (fun V => Bx V g6 35 #[.slice Aq Bg.length kq] ∧ Below wz.heap.size wz V) _ := ⟨hHeld.1.later hb, hHeld.2.trans (hb.mono hHeld.2.size)⟩
                  replace HXb := Lib.hid (HXb.out.later hb)
                  replace HXa := Lib.hid (HXa.out.later hb)
                  clear hHeld hb
                  go_wp2_with fail
                  refine hK.out _ _ HS (fun hHeld => ?_)
                  clear hK K HS
                  try simp only [Act.put, List.setIfInBounds_toArray, List.set_cons_zero, List.set_cons_succ]
                  refine wpAnyW_held (i := 6) (by kernel_rfl) (by simp only [List.getElem?_toArray, List.getElem?_cons_succ, List.getElem?_cons_zero]; rfl) (fun K hK => ?_)
                  rw [if_pos (by rfl)]
                  go_simp
                  refine (HRP.out _ _ (HRQ.out.below hHeld.2)).mono ?_
                  rintro _ u6 ⟨A5, k5, rfl, hr, hf, hb⟩
                  have HS : (fun V => Bx V g6 35 #[.slice Aq Bg.length kq] ∧ Below wz.heap.size wz V) _ := ⟨hHeld.1.later hb, hHeld.2.trans (hb.mono hHeld.2.size)⟩
                  have HR5 := Lib.hid hr
                  have HN5 := Lib.hid (hf g5 (by have := hHeld.2.size; omega) HP5.out)
                  have HN6 := Lib.hid (hf g6 (by have := hHeld.2.size; omega) HP6.out)
                  have HNgb := Lib.hid (hf gb (by have := HXb.out.lt; omega) (Apart.new HRQ.out hzgb))
                  replace HXb := Lib.hid (HXb.out.later hb)
                  have HNga := Lib.hid (hf ga (by have := HXa.out.lt; omega) (Apart.new HRQ.out hzga))
                  replace HXa := Lib.hid (HXa.out.later hb)
                  clear hHeld hr hf hb
                  go_wp2_with fail
                  refine hK.out _ _ HS (fun hHeld => ?_)
                  clear hK K HS
                  try simp only [Act.put, List.setIfInBounds_toArray, List.set_cons_zero, List.set_cons_succ]
                  refine wpAnyW_take (i := 7) (v := ?_) (by simp only [List.getElem?_toArray, List.getElem?_cons_succ, List.getElem?_cons_zero]; rfl) (by kernel_rfl) (by kernel_rfl) (by kernel_rfl) (by kernel_rfl) (by kernel_rfl) (fun _ _ _ h => h) (Or.inl ⟨by rfl, ?_⟩) (by assumption) ?_
                  rotate_left 1
                  · (intro w' hSw; go_simp; try with_reducible rfl)
                  try simp only [Act.put, List.setIfInBounds_toArray, List.set_cons_zero, List.set_cons_succ]
                  refine wpAnyW_take (i := 8) (v := ?_) (by simp only [List.getElem?_toArray, List.getElem?_cons_succ, List.getElem?_cons_zero]; rfl) (by kernel_rfl) (by kernel_rfl) (by kernel_rfl) (by kernel_rfl) (by kernel_rfl) (fun _ _ _ h => h) (Or.inl ⟨by rfl, ?_⟩) (by assumption) ?_
                  rotate_left 1
                  · (intro w' hSw; go_simp; try with_reducible rfl)
                  try simp only [Act.put, List.setIfInBounds_toArray, List.set_cons_zero, List.set_cons_succ]
                  refine wpAnyW_take (i := 9) (v := ?_) (by simp only [List.getElem?_toArray, List.getElem?_cons_succ, List.getElem?_cons_zero]; rfl) (by kernel_rfl) (by kernel_rfl) (by kernel_rfl) (by kernel_rfl) (by kernel_rfl) (fun _ _ _ h => h) (Or.inl ⟨by rfl, ?_⟩) (by assumption) ?_
                  rotate_left 1
                  · (intro w' hSw; go_simp; try with_reducible rfl)
                  try simp only [Act.put, List.setIfInBounds_toArray, List.set_cons_zero, List.set_cons_succ]
                  refine wpAnyW_take (i := 10) (v := ?_) (by simp only [List.getElem?_toArray, List.getElem?_cons_succ, List.getElem?_cons_zero]; rfl) (by kernel_rfl) (by kernel_rfl) (by kernel_rfl) (by kernel_rfl) (by kernel_rfl) (fun _ _ _ h => h) (Or.inl ⟨by rfl, ?_⟩) (by assumption) ?_
                  rotate_left 1
                  · (intro w' hSw; go_simp; try with_reducible rfl)
                  try simp only [Act.put, List.setIfInBounds_toArray, List.set_cons_zero, List.set_cons_succ]
                  refine wpAnyW_held (i := 13) (by kernel_rfl) (by simp only [List.getElem?_toArray, List.getElem?_cons_succ, List.getElem?_cons_zero]; rfl) (fun K hK => ?_)
                  rw [if_pos (by rfl)]
                  refine wpB (ty := 35) #[.slice A5 Y.length k5] rfl rfl rfl HXa.out infoRB rfl (cellsRB_one _ _ _) ?_
                  intro y1 ht hg
                  have HS : (fun V => Bx V g6 35 #[.slice Aq Bg.length kq] ∧ Below wz.heap.size wz V) _ := ⟨hHeld.1.kept hg (by omega), below_of_grown1 hHeld.2 hg hHeld.2.size hzga⟩
                  replace HXb := Lib.hid (HXb.out.kept hg (by omega))
                  replace HR5 := Lib.hid (RowP.keptA HR5.out HNga.out hg)
                  replace HXa := Lib.hid ht
                  clear ht hg hHeld
                  refine hK.out _ _ HS (fun hHeld => ?_)
                  clear hK K HS
                  try simp only [Act.put, List.setIfInBounds_toArray, List.set_cons_zero, List.set_cons_succ]
                  refine wpAnyW_held (i := 14) (by kernel_rfl) (by simp only [List.getElem?_toArray, List.getElem?_cons_succ, List.getElem?_cons_zero]; rfl) (fun K hK => ?_)
                  rw [if_pos (by rfl)]
                  refine wpB (ty := 44) (cellsMg mo) rfl rfl rfl HXb.out infoRM rfl (cellsMg_one _) ?_
                  intro y2 ht hg
                  have HS : (fun V => Bx V g6 35 #[.slice Aq Bg.length kq] ∧ Below wz.heap.size wz V) _ := ⟨hHeld.1.kept hg (by omega), below_of_grown1 hHeld.2 hg hHeld.2.size hzgb⟩
                  replace HXa := Lib.hid (HXa.out.kept hg (by omega))
                  replace HR5 := Lib.hid (RowP.keptA HR5.out HNgb.out hg)
                  replace HXb := Lib.hid ht
                  clear ht hg hHeld
                  refine hK.out _ _ HS (fun hHeld => ?_)
                  clear hK K HS
                  try simp only [Act.put, List.setIfInBounds_toArray, List.set_cons_zero, List.set_cons_succ]
                  refine wpAnyW_freed (i := 15) (by kernel_rfl) (by kernel_rfl) (by simp only [List.getElem?_toArray, List.getElem?_cons_succ, List.getElem?_cons_zero]; rfl) (fun K hK => ?_)
                  rw [if_pos (by rfl)]
                  go_simp
                  have HE := Lib.hid hHeld
                  refine hK.out _ _ ?_
                  clear hK K hHeld
                  try simp only [Act.put, List.setIfInBounds_toArray, List.set_cons_zero, List.set_cons_succ]
                  refine wpAnyW_done (by kernel_rfl) ?_ _
                  refine NoPanic.normal ?_
                  go_wp2_with fail
                  go_meet
                  exact ⟨_, ga, gb, A5, k5, rfl, rfl, rfl, rfl, Lib.hid ⟨HXa.out, HXb.out, HR5.out, HN5.out, HN6.out, by omega, HE.out.2⟩⟩
          case rest =>
            obtain ⟨wy, gc, gd, A3, k3, rfl, rfl, rfl, rfl, HH⟩ := hcut
            obtain ⟨hxc, hmd, hr3, ha5, ha6, hgc, hb⟩ := HH.out
            have HA5 := Lib.hid ha5
            have HA6 := Lib.hid ha6
            clear HH HRQ HP5 HP6 HRP HRZ ha5 ha6
            have HXC := Lib.hid hxc
            have HMD := Lib.hid hmd
            have HR3 := Lib.hid hr3
            replace HXA := Lib.hid (HXA.out.later hb)
            replace HMB := Lib.hid (HMB.out.later hb)
            replace HQ := Lib.hid (HQ.out.later hb)
            replace HQ6 := Lib.hid (HQ6.out.later hb)
            replace HR2 := Lib.hid (RowP.below HR2.out hb)
            replace HB := Lib.hid (HB.out.trans (hb.mono HB.out.size))
            clear hxc hmd hr3 hb hbz hgz
            go_wp2_with (first
              | ((with_reducible refine gate9 ?_); refine ldB (ty := 32) (cs := #[.slice A2 Y.length k2]) rfl rfl rfl HXA.out Try.underlying32 rfl infoB ?_)
              | ((with_reducible refine gate9 ?_); refine ldB (ty := 35) (cs := #[.slice A3 Y.length k3]) rfl rfl rfl HXC.out Try.underlying35 rfl infoRB ?_)
              | (go_at_call 17; (with_reducible refine (HOP.out _ _ HR2.out).mono ?_); rintro e w12 ⟨Ao, ko, rfl, hro, hb⟩; replace HXA := Lib.hid (HXA.out.later hb); replace HMB := Lib.hid (HMB.out.later hb); replace HXC := Lib.hid (HXC.out.later hb); replace HMD := Lib.hid (HMD.out.later hb); replace HQ := Lib.hid (HQ.out.later hb); replace HQ6 := Lib.hid (HQ6.out.later hb); replace HR2 := Lib.hid (RowP.below HR2.out hb); replace HR3 := Lib.hid (RowP.below HR3.out hb); replace HB := Lib.hid (HB.out.trans (hb.mono HB.out.size)); have HO1 : Hid (RowE enc32 w12 (.slice Ao (openL Y).length ko) (openL Y)) := Lib.hid hro; clear hb hro)
              | (go_at_call 18; (with_reducible refine (HRO.out _ _ HR3.out).mono ?_); rintro e w13 ⟨Ap, kp, rfl, hro, hb⟩; replace HXA := Lib.hid (HXA.out.later hb); replace HMB := Lib.hid (HMB.out.later hb); replace HXC := Lib.hid (HXC.out.later hb); replace HMD := Lib.hid (HMD.out.later hb); replace HQ := Lib.hid (HQ.out.later hb); replace HQ6 := Lib.hid (HQ6.out.later hb); replace HR2 := Lib.hid (RowP.below HR2.out hb); replace HR3 := Lib.hid (RowP.below HR3.out hb); replace HB := Lib.hid (HB.out.trans (hb.mono HB.out.size)); replace HO1 : Hid (RowE enc32 w13 (.slice Ao (openL Y).length ko) (openL Y)) := Lib.hid (RowE.below HO1.out hb); have HO2 : Hid (RowE enc32 w13 (.slice Ap (openL Y).length kp) (openL Y)) := Lib.hid hro; clear hb hro))
            clear HOP HRO
            generalize openL Y = OL at *
            have hOI : (OL.length : Int) ≤ 60 := by omega
            have HS : (fun V => Bx V ga 32 #[.slice A2 Y.length k2] ∧ Bx V gb 39 (cellsMg mo) ∧ Bx V gc 35 #[.slice A3 Y.length k3] ∧ Bx V gd 44 (cellsMg mo) ∧ Below w13.heap.size w13 V) w13.drew := ⟨HXA.out.drew, HMB.out.drew, HXC.out.drew, HMD.out.drew, below_drawn (Below.refl _ _)⟩
            refine wp_region_noPanic ?_
            refine wp_region_waits (S := (fun V => Bx V ga 32 #[.slice A2 Y.length k2] ∧ Bx V gb 39 (cellsMg mo) ∧ Bx V gc 35 #[.slice A3 Y.length k3] ∧ Bx V gd 44 (cellsMg mo) ∧ Below w13.heap.size w13 V)) [] (by kernel_rfl) HS (fun hHeld => ?_)
            clear HS
            refine wpAnyW_take (i := 0) (v := _) (by simp only [List.getElem?_toArray, List.getElem?_cons_zero]; rfl) (by kernel_rfl) (by kernel_rfl) (by kernel_rfl) (by kernel_rfl) (by kernel_rfl) (fun _ _ _ h => h) (yB (ty := 32) (by rfl) rfl rfl (fun V h => h.1) Try.underlying32 rfl infoB) (by assumption) ?_
            try simp only [Act.put, List.setIfInBounds_toArray, List.set_cons_zero, List.set_cons_succ]
            refine wpAnyW_take (i := 1) (v := _) (by simp only [List.getElem?_toArray, List.getElem?_cons_succ, List.getElem?_cons_zero]; rfl) (by kernel_rfl) (by kernel_rfl) (by kernel_rfl) (by kernel_rfl) (by kernel_rfl) (fun _ _ _ h => h) (yB (ty := 35) (by rfl) rfl rfl (fun V h => h.2.2.1) Try.underlying35 rfl infoRB) (by assumption) ?_
            try simp only [Act.put, List.setIfInBounds_toArray, List.set_cons_zero, List.set_cons_succ]
            refine wpAnyW_held (i := 2) (by kernel_rfl) (by simp only [List.getElem?_toArray, List.getElem?_cons_succ, List.getElem?_cons_zero]; rfl) (fun K hK => ?_)
            rw [if_pos (by rfl)]
            go_simp
            refine (HSA.out _ _ _ (HR2.out.below hHeld.2.2.2.2) (HR3.out.below hHeld.2.2.2.2)).mono ?_
            rintro _ w8 ⟨rfl, hb⟩
            have HS : (fun V => Bx V ga 32 #[.slice A2 Y.length k2] ∧ Bx V gb 39 (cellsMg mo) ∧ Bx V gc 35 #[.slice A3 Y.length k3] ∧ Bx V gd 44 (cellsMg mo) ∧ Below w13.heap.size w13 V) _ := ⟨hHeld.1.later hb, hHeld.2.1.later hb, hHeld.2.2.1.later hb, hHeld.2.2.2.1.later hb, hHeld.2.2.2.2.trans (hb.mono hHeld.2.2.2.2.size)⟩
            clear hHeld hb
            go_wp2_with fail
            refine hK.out _ _ HS (fun hHeld => ?_)
            clear hK K HS
            try simp only [Act.put, List.setIfInBounds_toArray, List.set_cons_zero, List.set_cons_succ]
            refine wpAnyW_take (i := 3) (v := ?_) (by simp only [List.getElem?_toArray, List.getElem?_cons_succ, List.getElem?_cons_zero]; rfl) (by kernel_rfl) (by kernel_rfl) (by kernel_rfl) (by kernel_rfl) (by kernel_rfl) (fun _ _ _ h => h) (Or.inl ⟨by rfl, ?_⟩) (by assumption) ?_
            rotate_left 1
            · (intro w' hSw; go_simp; try with_reducible rfl)
            try simp only [Act.put, List.setIfInBounds_toArray, List.set_cons_zero, List.set_cons_succ]
            refine wpAnyW_take (i := 4) (v := ?_) (by simp only [List.getElem?_toArray, List.getElem?_cons_succ, List.getElem?_cons_zero]; rfl) (by kernel_rfl) (by kernel_rfl) (by kernel_rfl) (by kernel_rfl) (by kernel_rfl) (fun _ _ _ h => h) (Or.inl ⟨by rfl, ?_⟩) (by assumption) ?_
            rotate_left 1
            · (intro w' hSw; go_simp; try with_reducible rfl)
            try simp only [Act.put, List.setIfInBounds_toArray, List.set_cons_zero, List.set_cons_succ]
            refine wpAnyW_take (i := 5) (v := _) (by simp only [List.getElem?_toArray, List.getElem?_cons_succ, List.getElem?_cons_zero]; rfl) (by kernel_rfl) (by kernel_rfl) (by kernel_rfl) (by kernel_rfl) (by kernel_rfl) (fun _ _ _ h => h) (yB (ty := 39) (by rfl) rfl rfl (fun V h => h.2.1) Try.underlying39 rfl infoM) (by assumption) ?_
            try simp only [Act.put, List.setIfInBounds_toArray, List.set_cons_zero, List.set_cons_succ]
            refine wpAnyW_take (i := 7) (v := _) (by simp only [List.getElem?_toArray, List.getElem?_cons_succ, List.getElem?_cons_zero]; rfl) (by kernel_rfl) (by kernel_rfl) (by kernel_rfl) (by kernel_rfl) (by kernel_rfl) (fun _ _ _ h => h) (yB (ty := 44) (by rfl) rfl rfl (fun V h => h.2.2.2.1) Try.underlying44 rfl infoRM) (by assumption) ?_
            try simp only [Act.put, List.setIfInBounds_toArray, List.set_cons_zero, List.set_cons_succ]
            refine wpAnyW_held (i := 6) (by kernel_rfl) (by simp only [List.getElem?_toArray, List.getElem?_cons_succ, List.getElem?_cons_zero]; rfl) (fun K hK => ?_)
            rw [if_pos (by rfl)]
            go_simp
            refine (told_any mo _).mono ?_
            rintro _ w8 ⟨rfl, hb⟩
            have HS : (fun V => Bx V ga 32 #[.slice A2 Y.length k2] ∧ Bx V gb 39 (cellsMg mo) ∧ Bx V gc 35 #[.slice A3 Y.length k3] ∧ Bx V gd 44 (cellsMg mo) ∧ Below w13.heap.size w13 V) _ := ⟨hHeld.1.later hb, hHeld.2.1.later hb, hHeld.2.2.1.later hb, hHeld.2.2.2.1.later hb, hHeld.2.2.2.2.trans (hb.mono hHeld.2.2.2.2.size)⟩
            clear hHeld hb
            go_wp2_with fail
            refine hK.out _ _ HS (fun hHeld => ?_)
            clear hK K HS
            try simp only [Act.put, List.setIfInBounds_toArray, List.set_cons_zero, List.set_cons_succ]
            refine wpAnyW_take (i := 8) (v := .bool false) (by simp only [List.getElem?_toArray, List.getElem?_cons_succ, List.getElem?_cons_zero]; rfl) (by kernel_rfl) (by kernel_rfl) (by kernel_rfl) (by kernel_rfl) (by kernel_rfl) (fun _ _ _ h => h) (Or.inl ⟨by rfl, ?_⟩) (by assumption) ?_
            · (intro w' hSw; exact run_bin_at (u := .agg (cellsMg mo)) (v := .agg (cellsMg mo)) rfl rfl rfl (guard_rm _ _ _ _ _ w') (neq_rm mo w'))
            try simp only [Act.put, List.setIfInBounds_toArray, List.set_cons_zero, List.set_cons_succ]
            refine wpAnyW_take (i := 9) (v := ?_) (by simp only [List.getElem?_toArray, List.getElem?_cons_succ, List.getElem?_cons_zero]; rfl) (by kernel_rfl) (by kernel_rfl) (by kernel_rfl) (by kernel_rfl) (by kernel_rfl) (fun _ _ _ h => h) (Or.inl ⟨by rfl, ?_⟩) (by assumption) ?_
            rotate_left 1
            · (intro w' hSw; go_simp; try with_reducible rfl)
            try simp only [Act.put, List.setIfInBounds_toArray, List.set_cons_zero, List.set_cons_succ]
            refine wpAnyW_take (i := 10) (v := ?_) (by simp only [List.getElem?_toArray, List.getElem?_cons_succ, List.getElem?_cons_zero]; rfl) (by kernel_rfl) (by kernel_rfl) (by kernel_rfl) (by kernel_rfl) (by kernel_rfl) (fun _ _ _ h => h) (Or.inl ⟨by rfl, ?_⟩) (by assumption) ?_
            rotate_left 1
            · (intro w' hSw; go_simp; try with_reducible rfl)
            try simp only [Act.put, List.setIfInBounds_toArray, List.set_cons_zero, List.set_cons_succ]
            refine wpAnyW_take (i := 11) (v := ?_) (by simp only [List.getElem?_toArray, List.getElem?_cons_succ, List.getElem?_cons_zero]; rfl) (by kernel_rfl) (by kernel_rfl) (by kernel_rfl) (by kernel_rfl) (by kernel_rfl) (fun _ _ _ h => h) (Or.inl ⟨by rfl, ?_⟩) (by assumption) ?_
            rotate_left 1
            · (intro w' hSw; go_simp; try with_reducible rfl)
            try simp only [Act.put, List.setIfInBounds_toArray, List.set_cons_zero, List.set_cons_succ]
            refine wpAnyW_take (i := 12) (v := ?_) (by simp only [List.getElem?_toArray, List.getElem?_cons_succ, List.getElem?_cons_zero]; rfl) (by kernel_rfl) (by kernel_rfl) (by kernel_rfl) (by kernel_rfl) (by kernel_rfl) (fun _ _ _ h => h) (Or.inl ⟨by rfl, ?_⟩) (by assumption) ?_
            rotate_left 1
            · (intro w' hSw; go_simp; try with_reducible rfl)
            try simp only [Act.put, List.setIfInBounds_toArray, List.set_cons_zero, List.set_cons_succ]
            refine wpAnyW_take (i := 13) (v := ?_) (by simp only [List.getElem?_toArray, List.getElem?_cons_succ, List.getElem?_cons_zero]; rfl) (by kernel_rfl) (by kernel_rfl) (by kernel_rfl) (by kernel_rfl) (by kernel_rfl) (fun _ _ _ h => h) (Or.inl ⟨by rfl, ?_⟩) (by assumption) ?_
            rotate_left 1
            · (intro w' hSw; go_simp; try with_reducible rfl)
            try simp only [Act.put, List.setIfInBounds_toArray, List.set_cons_zero, List.set_cons_succ]
            refine wpAnyW_take (i := 14) (v := ?_) (by simp only [List.getElem?_toArray, List.getElem?_cons_succ, List.getElem?_cons_zero]; rfl) (by kernel_rfl) (by kernel_rfl) (by kernel_rfl) (by kernel_rfl) (by kernel_rfl) (fun _ _ _ h => h) (Or.inl ⟨by rfl, ?_⟩) (by assumption) ?_
            rotate_left 1
            · (intro w' hSw; go_simp; try with_reducible rfl)
            try simp only [Act.put, List.setIfInBounds_toArray, List.set_cons_zero, List.set_cons_succ]
            refine wpAnyW_take (i := 15) (v := ?_) (by simp only [List.getElem?_toArray, List.getElem?_cons_succ, List.getElem?_cons_zero]; rfl) (by kernel_rfl) (by kernel_rfl) (by kernel_rfl) (by kernel_rfl) (by kernel_rfl) (fun _ _ _ h => h) (Or.inl ⟨by rfl, ?_⟩) (by assumption) ?_
            rotate_left 1
            · (intro w' hSw; go_simp; try with_reducible rfl)
            try simp only [Act.put, List.setIfInBounds_toArray, List.set_cons_zero, List.set_cons_succ]
            refine wpAnyW_take (i := 16) (v := _) (by simp only [List.getElem?_toArray, List.getElem?_cons_succ, List.getElem?_cons_zero]; rfl) (by kernel_rfl) (by kernel_rfl) (by kernel_rfl) (by kernel_rfl) (by kernel_rfl) (fun _ _ _ h => h) (yB (ty := 32) (by rfl) rfl rfl (fun V h => h.1) Try.underlying32 rfl infoB) (by assumption) ?_
            try simp only [Act.put, List.setIfInBounds_toArray, List.set_cons_zero, List.set_cons_succ]
            refine wpAnyW_take (i := 18) (v := _) (by simp only [List.getElem?_toArray, List.getElem?_cons_succ, List.getElem?_cons_zero]; rfl) (by kernel_rfl) (by kernel_rfl) (by kernel_rfl) (by kernel_rfl) (by kernel_rfl) (fun _ _ _ h => h) (yB (ty := 35) (by rfl) rfl rfl (fun V h => h.2.2.1) Try.underlying35 rfl infoRB) (by assumption) ?_
            try simp only [Act.put, List.setIfInBounds_toArray, List.set_cons_zero, List.set_cons_succ]
            refine wpAnyW_held (i := 17) (by kernel_rfl) (by simp only [List.getElem?_toArray, List.getElem?_cons_succ, List.getElem?_cons_zero]; rfl) (fun K hK => ?_)
            rw [if_pos (by rfl)]
            go_simp
            refine (HBY.out _ _ (HR2.out.below hHeld.2.2.2.2)).mono ?_
            rintro _ w8 ⟨rfl, hb⟩
            have HS : (fun V => Bx V ga 32 #[.slice A2 Y.length k2] ∧ Bx V gb 39 (cellsMg mo) ∧ Bx V gc 35 #[.slice A3 Y.length k3] ∧ Bx V gd 44 (cellsMg mo) ∧ Below w13.heap.size w13 V) _ := ⟨hHeld.1.later hb, hHeld.2.1.later hb, hHeld.2.2.1.later hb, hHeld.2.2.2.1.later hb, hHeld.2.2.2.2.trans (hb.mono hHeld.2.2.2.2.size)⟩
            clear hHeld hb
            go_wp2_with fail
            refine hK.out _ _ HS (fun hHeld => ?_)
            clear hK K HS
            try simp only [Act.put, List.setIfInBounds_toArray, List.set_cons_zero, List.set_cons_succ]
            refine wpAnyW_held (i := 19) (by kernel_rfl) (by simp only [List.getElem?_toArray, List.getElem?_cons_succ, List.getElem?_cons_zero]; rfl) (fun K hK => ?_)
            rw [if_pos (by rfl)]
            go_simp
            refine (HRB.out _ _ (HR3.out.below hHeld.2.2.2.2)).mono ?_
            rintro _ w8 ⟨rfl, hb⟩
            have HS : (fun V => Bx V ga 32 #[.slice A2 Y.length k2] ∧ Bx V gb 39 (cellsMg mo) ∧ Bx V gc 35 #[.slice A3 Y.length k3] ∧ Bx V gd 44 (cellsMg mo) ∧ Below w13.heap.size w13 V) _ := ⟨hHeld.1.later hb, hHeld.2.1.later hb, hHeld.2.2.1.later hb, hHeld.2.2.2.1.later hb, hHeld.2.2.2.2.trans (hb.mono hHeld.2.2.2.2.size)⟩
            clear hHeld hb
            go_wp2_with fail
            refine hK.out _ _ HS (fun hHeld => ?_)
            clear hK K HS
            try simp only [Act.put, List.setIfInBounds_toArray, List.set_cons_zero, List.set_cons_succ]
            refine wpAnyW_take (i := 20) (v := ?_) (by simp only [List.getElem?_toArray, List.getElem?_cons_succ, List.getElem?_cons_zero]; rfl) (by kernel_rfl) (by kernel_rfl) (by kernel_rfl) (by kernel_rfl) (by kernel_rfl) (fun _ _ _ h => h) (Or.inl ⟨by rfl, ?_⟩) (by assumption) ?_
            rotate_left 1
            · (intro w' hSw; go_simp; try with_reducible rfl)
            try simp only [Act.put, List.setIfInBounds_toArray, List.set_cons_zero, List.set_cons_succ]
            refine wpAnyW_take (i := 21) (v := ?_) (by simp only [List.getElem?_toArray, List.getElem?_cons_succ, List.getElem?_cons_zero]; rfl) (by kernel_rfl) (by kernel_rfl) (by kernel_rfl) (by kernel_rfl) (by kernel_rfl) (fun _ _ _ h => h) (Or.inl ⟨by rfl, ?_⟩) (by assumption) ?_
            rotate_left 1
            · (intro w' hSw; go_simp; try with_reducible rfl)
            try simp only [Act.put, List.setIfInBounds_toArray, List.set_cons_zero, List.set_cons_succ]
            refine wpAnyW_take (i := 22) (v := ?_) (by simp only [List.getElem?_toArray, List.getElem?_cons_succ, List.getElem?_cons_zero]; rfl) (by kernel_rfl) (by kernel_rfl) (by kernel_rfl) (by kernel_rfl) (by kernel_rfl) (fun _ _ _ h => h) (Or.inl ⟨by rfl, ?_⟩) (by assumption) ?_
            rotate_left 1
            · (intro w' hSw; go_simp; try with_reducible rfl)
            try simp only [Act.put, List.setIfInBounds_toArray, List.set_cons_zero, List.set_cons_succ]
            refine wpAnyW_take (i := 23) (v := ?_) (by simp only [List.getElem?_toArray, List.getElem?_cons_succ, List.getElem?_cons_zero]; rfl) (by kernel_rfl) (by kernel_rfl) (by kernel_rfl) (by kernel_rfl) (by kernel_rfl) (fun _ _ _ h => h) (Or.inl ⟨by rfl, ?_⟩) (by assumption) ?_
            rotate_left 1
            · (intro w' hSw; go_simp; try with_reducible rfl)
            try simp only [Act.put, List.setIfInBounds_toArray, List.set_cons_zero, List.set_cons_succ]
            refine wpAnyW_take (i := 24) (v := ?_) (by simp only [List.getElem?_toArray, List.getElem?_cons_succ, List.getElem?_cons_zero]; rfl) (by kernel_rfl) (by kernel_rfl) (by kernel_rfl) (by kernel_rfl) (by kernel_rfl) (fun _ _ _ h => h) (Or.inl ⟨by rfl, ?_⟩) (by assumption) ?_
            rotate_left 1
            · (intro w' hSw; go_simp; try with_reducible rfl)
            try simp only [Act.put, List.setIfInBounds_toArray, List.set_cons_zero, List.set_cons_succ]
            refine wpAnyW_take (i := 25) (v := ?_) (by simp only [List.getElem?_toArray, List.getElem?_cons_succ, List.getElem?_cons_zero]; rfl) (by kernel_rfl) (by kernel_rfl) (by kernel_rfl) (by kernel_rfl) (by kernel_rfl) (fun _ _ _ h => h) (Or.inl ⟨by rfl, ?_⟩) (by assumption) ?_
            rotate_left 1
            · (intro w' hSw; go_simp; try with_reducible rfl)
            try simp only [Act.put, List.setIfInBounds_toArray, List.set_cons_zero, List.set_cons_succ]
            refine wpAnyW_take (i := 26) (v := ?_) (by simp only [List.getElem?_toArray, List.getElem?_cons_succ, List.getElem?_cons_zero]; rfl) (by kernel_rfl) (by kernel_rfl) (by kernel_rfl) (by kernel_rfl) (by kernel_rfl) (fun _ _ _ h => h) (Or.inl ⟨by rfl, ?_⟩) (by assumption) ?_
            rotate_left 1
            · (intro w' hSw; go_simp; try with_reducible rfl)
            try simp only [Act.put, List.setIfInBounds_toArray, List.set_cons_zero, List.set_cons_succ]
            refine wpAnyW_take (i := 27) (v := ?_) (by simp only [List.getElem?_toArray, List.getElem?_cons_succ, List.getElem?_cons_zero]; rfl) (by kernel_rfl) (by kernel_rfl) (by kernel_rfl) (by kernel_rfl) (by kernel_rfl) (fun _ _ _ h => h) (Or.inl ⟨by rfl, ?_⟩) (by assumption) ?_
            rotate_left 1
            · (intro w' hSw; go_simp; try with_reducible rfl)
            try simp only [Act.put, List.setIfInBounds_toArray, List.set_cons_zero, List.set_cons_succ]
            refine wpAnyW_take (i := 28) (v := ?_) (by simp only [List.getElem?_toArray, List.getElem?_cons_succ, List.getElem?_cons_zero]; rfl) (by kernel_rfl) (by kernel_rfl) (by kernel_rfl) (by kernel_rfl) (by kernel_rfl) (fun _ _ _ h => h) (Or.inl ⟨by rfl, ?_⟩) (by assumption) ?_
            rotate_left 1
            · (intro w' hSw; go_simp; try with_reducible rfl)
            try simp only [Act.put, List.setIfInBounds_toArray, List.set_cons_zero, List.set_cons_succ]
            have hb := hHeld.2.2.2.2
            replace HXA := Lib.hid (HXA.out.later hb)
            replace HMB := Lib.hid (HMB.out.later hb)
            replace HXC := Lib.hid (HXC.out.later hb)
            replace HMD := Lib.hid (HMD.out.later hb)
            replace HQ := Lib.hid (HQ.out.later hb)
            replace HQ6 := Lib.hid (HQ6.out.later hb)
            replace HR2 := Lib.hid (RowP.below HR2.out hb)
            replace HR3 := Lib.hid (RowP.below HR3.out hb)
            replace HB := Lib.hid (HB.out.trans (hb.mono HB.out.size))
            replace HO1 : Hid (RowE enc32 w8 (.slice Ao OL.length ko) OL) := Lib.hid (RowE.below HO1.out hb)
            replace HO2 : Hid (RowE enc32 w8 (.slice Ap OL.length kp) OL) := Lib.hid (RowE.below HO2.out hb)
            clear hb hHeld
            refine wpAnyW_done (by kernel_rfl) ?_ _
            refine NoPanic.normal ?_
            go_wp2_with fail
            clear HSA HBY HRB
            go_loopw [16] (fun v16 wr => ∃ i : Nat, i ≤ OL.length ∧ v16 = .int .i64 i ∧ Hid (Below w8.heap.size w8 wr))
              (fun v16 _ => OL.length - (intOf v16).toNat)
            case atStart => exact ⟨0, Nat.zero_le _, rfl, Lib.hid (Below.refl _ _)⟩
            case round =>
              obtain ⟨i, hi, rfl, HW⟩ := hrel
              by_cases hil : i < OL.length
              · obtain ⟨p1, f1, c1, e1', hp1, -, -, e1⟩ := RowE.atU HO1.out hil
                cases e1'
                obtain ⟨p2, f2, c2, e2', hp2, -, -, e2⟩ := RowE.atU HO2.out hil
                cases e2'
                have z1 : (0 : Int) ≤ (i : Int) := by omega
                have z2 : (i : Int) < (OL.length : Int) := by omega
                generalize OL[i] = y at *
                generalize y.toNat = yn at *
                go_wp2_with fail
                have HS : (fun V => Below w8.heap.size w8 V) wr.drew := below_drawn HW.out
                refine wp_region_noPanic ?_
                refine wp_region_waits (S := (fun V => Below w8.heap.size w8 V)) [] (by kernel_rfl) HS (fun hHeld => ?_)
                clear HS
                refine wpAnyW_take (i := 0) (v := ?_) (by simp only [List.getElem?_toArray, List.getElem?_cons_zero]; rfl) (by kernel_rfl) (by kernel_rfl) (by kernel_rfl) (by kernel_rfl) (by kernel_rfl) (fun _ _ _ h => h) (Or.inl ⟨by rfl, ?_⟩) (by assumption) ?_
                rotate_left 1
                · (intro w' hSw; go_simp; try with_reducible rfl)
                try simp only [Act.put, List.setIfInBounds_toArray, List.set_cons_zero, List.set_cons_succ]
                refine wpAnyW_take (i := 1) (v := ?_) (by simp only [List.getElem?_toArray, List.getElem?_cons_succ, List.getElem?_cons_zero]; rfl) (by kernel_rfl) (by kernel_rfl) (by kernel_rfl) (by kernel_rfl) (by kernel_rfl) (fun _ _ _ h => h) (Or.inl ⟨by rfl, ?_⟩) (by assumption) ?_
                rotate_left 1
                · (intro w' hSw; go_simp; try with_reducible rfl)
                try simp only [Act.put, List.setIfInBounds_toArray, List.set_cons_zero, List.set_cons_succ]
                refine wpAnyW_take (i := 2) (v := ?_) (by simp only [List.getElem?_toArray, List.getElem?_cons_succ, List.getElem?_cons_zero]; rfl) (by kernel_rfl) (by kernel_rfl) (by kernel_rfl) (by kernel_rfl) (by kernel_rfl) (fun _ _ _ h => h) (Or.inl ⟨by rfl, ?_⟩) (by assumption) ?_
                rotate_left 1
                · (intro w' hSw; go_simp; try with_reducible rfl)
                try simp only [Act.put, List.setIfInBounds_toArray, List.set_cons_zero, List.set_cons_succ]
                refine wpAnyW_take (i := 3) (v := ?_) (by simp only [List.getElem?_toArray, List.getElem?_cons_succ, List.getElem?_cons_zero]; rfl) (by kernel_rfl) (by kernel_rfl) (by kernel_rfl) (by kernel_rfl) (by kernel_rfl) (fun _ _ _ h => h) (Or.inl ⟨by rfl, ?_⟩) (by assumption) ?_
                rotate_left 1
                · (intro w' hSw; have hq := (hSw.cell (p := ⟨p1, f1 + i, none⟩) hp1).trans e1; go_simp; try with_reducible rfl)
                try simp only [Act.put, List.setIfInBounds_toArray, List.set_cons_zero, List.set_cons_succ]
                refine wpAnyW_take (i := 4) (v := ?_) (by simp only [List.getElem?_toArray, List.getElem?_cons_succ, List.getElem?_cons_zero]; rfl) (by kernel_rfl) (by kernel_rfl) (by kernel_rfl) (by kernel_rfl) (by kernel_rfl) (fun _ _ _ h => h) (Or.inl ⟨by rfl, ?_⟩) (by assumption) ?_
                rotate_left 1
                · (intro w' hSw; go_simp; try with_reducible rfl)
                try simp only [Act.put, List.setIfInBounds_toArray, List.set_cons_zero, List.set_cons_succ]
                refine wpAnyW_take (i := 5) (v := ?_) (by simp only [List.getElem?_toArray, List.getElem?_cons_succ, List.getElem?_cons_zero]; rfl) (by kernel_rfl) (by kernel_rfl) (by kernel_rfl) (by kernel_rfl) (by kernel_rfl) (fun _ _ _ h => h) (Or.inl ⟨by rfl, ?_⟩) (by assumption) ?_
                rotate_left 1
                · (intro w' hSw; go_simp; try with_reducible rfl)
                try simp only [Act.put, List.setIfInBounds_toArray, List.set_cons_zero, List.set_cons_succ]
                refine wpAnyW_take (i := 6) (v := ?_) (by simp only [List.getElem?_toArray, List.getElem?_cons_succ, List.getElem?_cons_zero]; rfl) (by kernel_rfl) (by kernel_rfl) (by kernel_rfl) (by kernel_rfl) (by kernel_rfl) (fun _ _ _ h => h) (Or.inl ⟨by rfl, ?_⟩) (by assumption) ?_
                rotate_left 1
                · (intro w' hSw; go_simp; try with_reducible rfl)
                try simp only [Act.put, List.setIfInBounds_toArray, List.set_cons_zero, List.set_cons_succ]
                refine wpAnyW_take (i := 7) (v := ?_) (by simp only [List.getElem?_toArray, List.getElem?_cons_succ, List.getElem?_cons_zero]; rfl) (by kernel_rfl) (by kernel_rfl) (by kernel_rfl) (by kernel_rfl) (by kernel_rfl) (fun _ _ _ h => h) (Or.inl ⟨by rfl, ?_⟩) (by assumption) ?_
                rotate_left 1
                · (intro w' hSw; have hq := (hSw.cell (p := ⟨p2, f2 + i, none⟩) hp2).trans e2; go_simp; try with_reducible rfl)
                try simp only [Act.put, List.setIfInBounds_toArray, List.set_cons_zero, List.set_cons_succ]
                refine wpAnyW_take (i := 8) (v := ?_) (by simp only [List.getElem?_toArray, List.getElem?_cons_succ, List.getElem?_cons_zero]; rfl) (by kernel_rfl) (by kernel_rfl) (by kernel_rfl) (by kernel_rfl) (by kernel_rfl) (fun _ _ _ h => h) (Or.inl ⟨by rfl, ?_⟩) (by assumption) ?_
                rotate_left 1
                · (intro w' hSw; go_simp; try with_reducible rfl)
                try simp only [Act.put, List.setIfInBounds_toArray, List.set_cons_zero, List.set_cons_succ]
                have HW2 := Lib.hid hHeld
                clear hHeld
                refine wpAnyW_done (by kernel_rfl) ?_ _
                refine NoPanic.normal ?_
                go_wp2_with fail
                go_roundw
                case rel => exact ⟨i + 1, by omega, by go_num, HW2⟩
                case measure => simp [intOf]; omega
              · obtain rfl : i = OL.length := by omega
                have hb := HW.out
                replace HXA := Lib.hid (HXA.out.later hb)
                replace HMB := Lib.hid (HMB.out.later hb)
                replace HXC := Lib.hid (HXC.out.later hb)
                replace HMD := Lib.hid (HMD.out.later hb)
                replace HQ := Lib.hid (HQ.out.later hb)
                replace HQ6 := Lib.hid (HQ6.out.later hb)
                replace HR2 := Lib.hid (RowP.below HR2.out hb)
                replace HR3 := Lib.hid (RowP.below HR3.out hb)
                replace HB := Lib.hid (HB.out.trans (hb.mono HB.out.size))
                clear hb HW HO1 HO2
                go_wp2_with (first
                  | ((with_reducible refine gate9 ?_); refine ldB (ty := 32) (cs := #[.slice A2 Y.length k2]) rfl rfl rfl HXA.out Try.underlying32 rfl infoB ?_)
                  | ((with_reducible refine gate9 ?_); refine stB (ty := 32) #[.slice A2 Y.length k2] rfl rfl rfl rfl HQ.out infoB rfl (cellsB_one _ _ _) ?_; intro w21 ht hg; replace HR2 := Lib.hid (RowP.stays HR2.out HF2.out hg (by omega)); replace HR3 := Lib.hid (RowP.keptA HR3.out HA5.out hg); replace HXC := Lib.hid (HXC.out.kept hg (by omega)); replace HQ6 := Lib.hid (HQ6.out.kept hg (by omega)); replace HB := Lib.hid (below_of_grown1 HB.out hg HB.out.size (by omega)); replace HQ := Lib.hid ht; clear ht hg)
                  | ((with_reducible refine gate9 ?_); refine ldB (ty := 35) (cs := #[.slice A3 Y.length k3]) rfl rfl rfl HXC.out Try.underlying35 rfl infoRB ?_)
                  | ((with_reducible refine gate9 ?_); refine stB (ty := 35) #[.slice A3 Y.length k3] rfl rfl rfl rfl HQ6.out infoRB rfl (cellsRB_one _ _ _) ?_; intro w22 ht hg; replace HR2 := Lib.hid (RowP.stays HR2.out HF2.out hg (by omega)); replace HR3 := Lib.hid (RowP.keptA HR3.out HA6.out hg); replace HQ := Lib.hid (HQ.out.kept hg (by omega)); replace HB := Lib.hid (below_of_grown1 HB.out hg HB.out.size (by omega)); replace HQ6 := Lib.hid ht; clear ht hg))
                go_roundw
                case rel => exact ⟨j + 1, by omega, by go_num, Lib.hid ⟨A2, k2, by rw [HN.out]; exact HQ.out, by rw [HN.out]; exact HR2.out⟩, Lib.hid ⟨A3, k3, by rw [HN.out]; exact HQ6.out, by rw [HN.out]; exact HR3.out, by rw [HN.out]; exact HA5.out, by rw [HN.out]; exact HA6.out⟩, HB⟩
                case measure => simp [intOf]; omega
      · obtain rfl : j = l.length := by omega
        go_wp2_with fail
        go_ret
        exact ⟨rfl, HB.out⟩

set_option maxRecDepth 100000 in
theorem lifted (os : Os) (started : os.Started) (H : Type) (enc : TypeId × Value → H) :
    ReturnsInHanded {} Try.checked os 4 .any (Rows.fragPutsSpec.pre6 enc Try.prog Try.f4 Rows.fragPutsRow.domain false) (Rows.fragPutsSpec.post enc Try.prog Try.f4 false true false false) := by
  refine returnsInHanded_of_change_sized (C := Try.checked) own started (by kernel_rfl) Try.func4
    (ChangeSpec.witness6 (enc := enc) (C := Try.checked) false ⟨#[], #[.slice none 0 0], []⟩ 8 (by kernel_rfl) (by kernel_rfl) (by kernel_rfl) (by kernel_rfl)) ?_
  intro W base args ds gs before hval0 hW _ hreach _
  have hval : ∀ (j : Nat) t v, Try.f4.params[j]? = some t → args[j]? = some v → Value.okWide Try.prog W .any base t v := hval0
  obtain ⟨p, q, hA0, _, _, _, _⟩ := id hW
  have hA : DataW.TrodAll enc Try.prog W 0 (fun _ => true) true Try.f4.params.toList args.toList ds p := hA0
  rw [Try.params4] at hA hval
  obtain ⟨v0, vs0, d0, ds0, p0, q0, hargs, rfl, rfl, h0, r0⟩ := trodAll_cons hA
  obtain ⟨rfl, rfl, rfl⟩ := trodAll_nil r0
  obtain rfl : args = #[v0] := by cases args; simp_all
  obtain ⟨l0, w0, m0⟩ := pieces_in (hval 0 29 v0 rfl rfl) h0
  refine (walk l0 v0 W w0).mono fun e W' ⟨he, hg⟩ => ?_
  subst he
  exact ⟨_, rfl, law_post laidOut Try.underlying4 (by kernel_rfl) (by kernel_rfl) rfl hW (by simp [Rows.fragPutsSpec]) hg⟩

theorem proved : Rows.FragPutsSaid :=
  OpenClaim.holds_of_wide 4 Try.f4 rfl rfl rfl rfl rfl rfl rfl ⟨rfl, rfl, rfl, rfl, rfl⟩ rfl rfl rfl rfl rfl (by kernel_rfl) Try.func4 (by kernel_rfl)
    (of_decide_eq_true (by kernel_rfl)) (by unfold Func.isWrapper; first | (rw [if_pos (by decide +kernel)]; kernel_rfl) | (rw [if_neg (by decide +kernel)]; exact ⟨rfl, rfl⟩))
    (fun os started H enc _ => lifted os started H enc)
#print axioms proved
end Go.Proofs.Ytblepnbmjehikaa.fragPuts
