/-
  The pieces of a text, put in in whatever order, with a piece of another message between, are the message but once, with the last one: any text, any number, any first number, any stream, any order.
-/
import Derived.Test.YtgngdgiipifacaaLift
import Derived.Test.YtgngdgiipifacaaSz
import Derived.Test.YtgngdgiipifacaaSm
import Derived.Deep.CutBlock
import Derived.Deep.CutRange
import Derived.Deep.Cut
namespace Go.Proofs.Ytgngdgiipifacaa.fragBack
open Go.ChangeShapes Go.WideShapes Go.ChangeAt Go.RowKit
set_option linter.unusedVariables false
set_option linter.unusedSimpArgs false
set_option maxRecDepth 100000

theorem infoI : (Try.prog.info? 3).map (fun i => (i.zero, i.size, i.bytes)) = some (some (.int .i64 0), 1, 8) := by kernel_rfl
theorem neq_mg (x : Mg) (w : World) : (binOp .neq 39 (.agg (cellsMg x)) (.agg (cellsMg x))).run Try.prog w = .ok (.bool false) w := by
  rw [run_neq_struct, equal_mg]
  rfl
theorem infoI1 : (Try.prog.info? 3).map (·.size) = some 1 := by kernel_rfl
set_option maxHeartbeats 16000000 in
theorem walk (s : ByteArray) (mo : Int) (f : UInt32) (st : UInt16) (fr : Bool) (od : List Int) (vo : Value) (w : World) (h : RowE encI w vo od) (hod : ∀ n ∈ od, -9223372036854775808 ≤ n ∧ n ≤ 9223372036854775807) (hmo : -9223372036854775808 ≤ mo ∧ mo ≤ 9223372036854775807) :
    Calls Try.prog 5 #[.string s, .int .i64 mo, .int .u32 (f.toNat : Int), .int .u16 (st.toNat : Int), .bool fr, vo] w fun e w' => e = .returned (.bool true) ∧ Below w.heap.size w w' := by
  have HSH := Lib.hid shown_any
  have HV := Lib.hid h
  have HB := Lib.hid (Below.refl w.heap.size w)
  obtain ⟨A0, cap0, rfl, _, hmx0, _⟩ := id h
  have hmxI : (od.length : Int) ≤ 9223372036854775807 := by unfold maxLen at hmx0; omega
  clear h
  by_cases h0 : s.size = 0
  · have q0 : ((s.size : Int) == 0) = true := by rw [h0]; rfl
    go_enter Try.func5, Try.ntmps5
    go_wp2_with (go_at_call 9; (with_reducible refine (HSH.out _).mono ?_); rintro e w1 ⟨rfl, hb⟩; replace HV := Lib.hid (RowE.below HV.out hb); replace HB := Lib.hid (HB.out.trans (hb.mono HB.out.size)); clear hb)
    go_ret
    exact ⟨rfl, HB.out⟩
  have q0 : ((s.size : Int) == 0) = false := by rw [beq_eq_false_iff_ne]; omega
  have q0' : s.size ≠ 0 := h0
  by_cases h1 : 3000 < s.size
  · have q1 : (3000 : Int) < (s.size : Int) := by omega
    go_enter Try.func5, Try.ntmps5
    go_wp2_with (go_at_call 9; (with_reducible refine (HSH.out _).mono ?_); rintro e w1 ⟨rfl, hb⟩; replace HV := Lib.hid (RowE.below HV.out hb); replace HB := Lib.hid (HB.out.trans (hb.mono HB.out.size)); clear hb)
    go_ret
    exact ⟨rfl, HB.out⟩
  have q1 : ¬ (3000 : Int) < (s.size : Int) := by omega
  by_cases h2 : 300 < od.length
  · have q2 : (300 : Int) < (od.length : Int) := by omega
    go_enter Try.func5, Try.ntmps5
    go_wp2_with (go_at_call 9; (with_reducible refine (HSH.out _).mono ?_); rintro e w1 ⟨rfl, hb⟩; replace HV := Lib.hid (RowE.below HV.out hb); replace HB := Lib.hid (HB.out.trans (hb.mono HB.out.size)); clear hb)
    go_ret
    exact ⟨rfl, HB.out⟩
  have q2 : ¬ (300 : Int) < (od.length : Int) := by omega
  obtain ⟨bad, hbad⟩ : ∃ b, (decide (mo < 1) || decide (1000 < mo) || decide (60 < Int.tdiv (s.size : Int) mo)) = b := ⟨_, rfl⟩
  obtain ⟨M, hM, hM1, hM2, hM3⟩ : ∃ M : Nat, (if bad then (1000 : Int) else mo) = (M : Int) ∧ 1 ≤ M ∧ M ≤ 1000 ∧ s.size / M ≤ 60 := by
    subst hbad
    by_cases c1 : mo < 1
    · exact ⟨1000, by simp [c1], by omega, by omega, by omega⟩
    · by_cases c2 : 1000 < mo
      · exact ⟨1000, by simp [c2], by omega, by omega, by omega⟩
      · obtain ⟨k, rfl⟩ : ∃ k : Nat, mo = (k : Int) := ⟨mo.toNat, by omega⟩
        by_cases c3 : 60 < Int.tdiv (s.size : Int) (k : Int)
        · exact ⟨1000, by rw [decide_eq_true c3, Bool.or_true, if_pos rfl]; rfl, by omega, by omega, by omega⟩
        · refine ⟨k, by rw [decide_eq_false c1, decide_eq_false c2, decide_eq_false c3]; rfl, by omega, by omega, ?_⟩
          rw [Int.tdiv_eq_ediv_of_nonneg (by omega)] at c3
          have : ((s.size / k : Nat) : Int) = (s.size : Int) / (k : Int) := rfl
          omega
  have HOT : Hid (#[.int .u32 ((f - 1).toNat : Int), .bool true, .bool false, .bool !fr, .int .u16 (st.toNat : Int), .int .u16 0, .int .u32 0, .string ⟨#[111, 116, 104, 101, 114]⟩] = cellsPc (otherP f fr st)) := Lib.hid rfl
  obtain ⟨L, hL⟩ : ∃ L, cutL s M = L := ⟨_, rfl⟩
  have hc0 := cut_pos (m := M) (by omega) s
  have hc1 := cut_len (m := M) (by omega) s
  have hc2 := cut_each (m := M) (by omega) s (by omega)
  have hc3 := cut_cat (m := M) (by omega) s
  have HCU := Lib.hid (fun W => cut_good s M (by omega) (by omega) hM1 hM2 W)
  rw [hL] at hc0 hc1 hc2 hc3 HCU
  have hm61 : L.length ≤ 61 := by omega
  have HFA := Lib.hid (fam_of L f fr st 7 9 hc0 (by omega))
  have HTX := Lib.hid (pcOf_tx L f fr st 7 9 hc2 hM2)
  have HMS : Hid (joinM ((List.range L.length).map (pcOf L f fr st 7 9)) = ⟨f, fr, st, 7, 9, s⟩) := Lib.hid (by rw [msg_of L f fr st 7 9 hc0 (by omega), hc3])
  have HFR := Lib.hid (other_frn L f fr st 7 9 (by omega))
  have HPO := Lib.hid (fun V W h => put_anyE [] (by decide) okB_nil (otherP f fr st) (by show 0 + oTx.size ≤ _; rw [oTx_size]; decide) V W h)
  rw [other_put] at HPO
  have hLI : (L.length : Int) ≤ 61 := by omega
  have hL0 : (0 : Int) < (L.length : Int) := by omega
  have e1 : (((f.toNat : Int) - 1) % 4294967296) = ((f - 1).toNat : Int) := by
    have := f.toNat_lt
    have h1 : (1 : UInt32).toNat = 1 := rfl
    rw [UInt32.toNat_sub, h1]
    omega
  have e2 : ((f.toNat : Int) + -1) % 4294967296 = ((f - 1).toNat : Int) := by rw [← e1]; rfl
  obtain ⟨i0, hi0, hz0, hz1, hz2⟩ := info_parts infoI
  have HI := Lib.hid hi0
  have HZ0 := Lib.hid hz0
  have HZ1 := Lib.hid hz1
  have HZ2 := Lib.hid hz2
  have hLL : 0 < L.length := hc0
  clear hi0 hz0 hz1 hz2 hc1 hc2 hc3 hL hc0 h0 h1 h2
  go_enter Try.func5, Try.ntmps5
  go_upto_region 4 with (go_at_call 9; (with_reducible refine (HSH.out _).mono ?_); rintro e w1 ⟨rfl, hb⟩; replace HV := Lib.hid (RowE.below HV.out hb); replace HB := Lib.hid (HB.out.trans (hb.mono HB.out.size)); clear hb)
  go_cut [63] from 32 (fun v63 wx => v63 = .bool bad ∧ wx = w1)
  case first =>
    by_cases c1 : mo < 1
    · obtain rfl : bad = true := by rw [← hbad, decide_eq_true c1]; rfl
      clear hbad hM
      go_wp2_with fail
      go_meet
      exact ⟨rfl, rfl⟩
    · by_cases c2 : 1000 < mo
      · obtain rfl : bad = true := by rw [← hbad, decide_eq_true c2, Bool.or_true]; rfl
        clear hbad hM
        go_wp2_with fail
        go_meet
        exact ⟨rfl, rfl⟩
      · have n3 : mo ≠ 0 := by omega
        obtain ⟨z, hz⟩ : ∃ z, Int.tdiv (s.size : Int) mo = z := ⟨_, rfl⟩
        have hz2 : 0 ≤ z ∧ z ≤ 3000 := by
          rw [← hz, Int.tdiv_eq_ediv_of_nonneg (by omega)]
          exact ⟨Int.ediv_nonneg (by omega) (by omega), Int.le_trans (Int.ediv_le_self _ (by omega)) (by omega)⟩
        have s2 : IntKind.i64.wrap z = z := by rw [IntKind.wrap_i64]; omega
        have s3 : wrap64 z = z := by unfold wrap64; omega
        rw [hz] at hbad
        by_cases c3 : 60 < z
        · obtain rfl : bad = true := by rw [← hbad, decide_eq_true c3, Bool.or_true]
          clear hbad hM
          go_wp2_with fail
          go_meet
          exact ⟨rfl, rfl⟩
        · obtain rfl : bad = false := by rw [← hbad, decide_eq_false c1, decide_eq_false c2, decide_eq_false c3]; rfl
          clear hbad hM
          go_wp2_with fail
          go_meet
          exact ⟨rfl, rfl⟩
  case rest =>
    obtain ⟨rfl, rfl⟩ := hcut
    go_upto_if 63 with fail
    go_cut [1] from 32 (fun v1 wx => v1 = .int .i64 (M : Int) ∧ wx = wc)
    case first =>
      cases bad with
      | true =>
        rw [if_pos rfl] at hM
        go_wp2_with fail
        go_meet
        exact ⟨congrArg (Value.int .i64) hM, rfl⟩
      | false =>
        rw [if_neg (by decide)] at hM
        go_wp2_with fail
        go_meet
        exact ⟨congrArg (Value.int .i64) hM, rfl⟩
    case rest =>
      obtain ⟨rfl, rfl⟩ := hcut
      clear hbad hM q0 q0' q1 q2
      go_wp2_with (first
        | (go_at_call 10; (with_reducible refine (HCU.out _).mono ?_); rintro e w2 ⟨A2, k2, rfl, hr, hb⟩; have HL := Lib.hid hr; replace HV := Lib.hid (RowE.below HV.out hb); replace HB := Lib.hid (HB.out.trans (hb.mono HB.out.size)); clear hr hb; obtain ⟨W9, hW9, HP0, HB9, hs9⟩ := one_open w2 43 #[.int .u32 0, .bool false, .bool false, .bool false, .int .u16 0, .int .u16 0, .int .u32 0, .string ⟨#[]⟩]; obtain ⟨g9, hg9⟩ : ∃ g, w2.heap.size = g := ⟨_, rfl⟩; rw [hg9] at HP0)
        | ((with_reducible refine gate9 ?_); refine stB (ty := 43) #[.int .u32 ((f - 1).toNat : Int), .bool true, .bool false, .bool !fr, .int .u16 (st.toNat : Int), .int .u16 0, .int .u32 0, .string ⟨#[111, 116, 104, 101, 114]⟩] rfl rfl rfl rfl HP0.out infoP rfl (by rw [HOT.out]; exact cellsPc_one _) ?_; rw [HOT.out]; intro w3 ht hg; replace HB9 := Lib.hid (below_of_grown1 HB9.out hg HB9.out.size (Nat.le_of_eq hg9)); replace HP0 := Lib.hid ht; have hb := HB9.out; replace HL := Lib.hid (RowE.below HL.out hb); replace HV := Lib.hid (RowE.below HV.out hb); replace HB := Lib.hid (HB.out.trans (hb.mono HB.out.size)); clear ht hg hb HB9)
        | ((with_reducible refine gate9 ?_); refine ldB (ty := 43) rfl rfl rfl HP0.out Try.underlying43 rfl infoP ?_)
        | (go_at_call 14; (with_reducible refine (HPO.out _ _ (RowP.nil _)).mono ?_); (rintro e w10 ⟨A10, k10, rfl, hr, hf, hb⟩; have hwg10 : w.heap.size ≤ w10.heap.size := (by have h8 := HB.out.size; have h9 := hb.size; omega); have HR10 := Lib.hid hr; have HF10 := Lib.hid hf; replace HP0 := Lib.hid (HP0.out.later hb); replace HL := Lib.hid (RowE.below HL.out hb); replace HV := Lib.hid (RowE.below HV.out hb); replace HB := Lib.hid (HB.out.trans (hb.mono HB.out.size)); clear hr hf hb; obtain ⟨W10, hW10, HX10, HM10, HC10, hs10⟩ := two_open w10 32 39 #[.slice none 0 0] #[.int .u32 0, .bool false, .int .u16 0, .int .u16 0, .int .u32 0, .string ⟨#[]⟩]; obtain ⟨g10, hg10⟩ : ∃ g, w10.heap.size = g := ⟨_, rfl⟩; have HLX := Lib.hid (RowX.of HL.out (Nat.le_of_eq hg10)); have HVX := Lib.hid (RowX.of HV.out (Nat.le_of_eq hg10)); rw [hg10] at HX10 HM10 hwg10))
        | ((with_reducible refine gate9 ?_); refine stB (ty := 32) #[.slice A10 1 k10] rfl rfl rfl rfl HX10.out infoB rfl (cellsB_one _ _ _) ?_; intro w101 ht hg; replace HC10 := Lib.hid (below_of_grown1 HC10.out hg HC10.out.size (Nat.le_of_eq hg10)); replace HM10 := Lib.hid (HM10.out.kept hg (by omega)); replace HX10 := Lib.hid ht; clear ht hg)
        | ((with_reducible refine gate9 ?_); refine stB (ty := 39) (cellsMg zeroMg) rfl rfl rfl rfl HM10.out infoM rfl (cellsMg_one _) ?_; intro w102 ht hg; replace HC10 := Lib.hid (below_of_grown1 HC10.out hg HC10.out.size (by omega)); replace HX10 := Lib.hid (HX10.out.kept hg (by omega)); replace HM10 := Lib.hid ht; have hb := HC10.out; replace HP0 := Lib.hid (HP0.out.later hb); replace HLX := Lib.hid (RowX.below HLX.out hb); replace HVX := Lib.hid (RowX.below HVX.out hb); replace HB := Lib.hid (HB.out.trans (hb.mono HB.out.size)); replace HR10 := Lib.hid (RowP.below HR10.out hb); have hx10 := HX10.out.cell 0 (.slice A10 1 k10) rfl; clear ht hg hb)
        | (at_make; obtain ⟨g11, hg11⟩ : ∃ g, w102.heap.size = g := ⟨_, rfl⟩; refine wpList_make_full _ rfl (.tmp 86) (.tmp 86) 56 rfl w102.heap.size 3 i0 _ 1 Try.underlying56 HI.out HZ0.out HZ1.out .i64 .i64 _ _ L.length rfl rfl rfl rfl (by rw [HZ2.out]; omega) (by unfold maxLen; omega) (Nat.le_refl _) ?_; intro w11 hown hg; rw [hg11] at hown ⊢; have HNU := Lib.hid (Nums.start hown); have HBM := Lib.hid (below_none hg); clear hown hg))
      clear hW9 hs9 hg9 hW10 hs10 hg10
      have hg10g : g10 < w102.heap.size := HX10.out.lt
      have hwg : w.heap.size ≤ g10 := hwg10
      go_loopw [21] (fun v wr => ∃ j : Nat, j ≤ L.length ∧ v = .int .i64 j ∧ Hid (Nums wr g11 3 L.length j) ∧ Hid (Below w102.heap.size w102 wr))
        (fun v _ => L.length - (intOf v).toNat)
      case atStart => exact ⟨0, Nat.zero_le _, rfl, HNU, HBM⟩
      case round =>
        clear HNU HBM
        obtain ⟨j, hj, rfl, HNU, HBM⟩ := hrel
        by_cases hlt : j < L.length
        · obtain ⟨cur, hc1, hc2, hc3⟩ := HNU.out
          have HC := Lib.hid hc1
          have HC3 := Lib.hid hc3
          have p0 : (0 : Int) ≤ (j : Int) := by omega
          have p1 : (j : Int) < (L.length : Int) := by omega
          clear hc1 hc3 HNU
          go_wp2_with ((with_reducible refine gate9 ?_); refine stF (ty := 3) (.int .i64 (j : Int)) rfl rfl rfl rfl HC.out (by omega) infoI1 rfl ?_; intro w15 ht hg; have HN2 := Lib.hid (Nums.put ht hc2 hlt HC3.out); replace HBM := Lib.hid (below_of_grown1 HBM.out hg HBM.out.size (Nat.le_of_eq hg11)); clear ht hg)
          go_roundw
          case rel => exact ⟨j + 1, by omega, by go_num, HN2, HBM⟩
          case measure => simp [intOf]; omega
        · obtain rfl : j = L.length := by omega
          have HLF := Lib.hid (HNU.out.row (gB := g10) (by omega) (by unfold maxLen; omega))
          have hb := HBM.out
          replace HX10 := Lib.hid (HX10.out.later hb)
          replace HR10 := Lib.hid (RowP.below HR10.out hb)
          replace HLX := Lib.hid (RowX.below HLX.out hb)
          replace HVX := Lib.hid (RowX.below HVX.out hb)
          replace HB := Lib.hid (HB.out.trans (hb.mono HB.out.size))
          have hgw : g10 < wr.heap.size := HX10.out.lt
          have HBK : Hid (0 < (List.range L.length).length → BkI (pcOf L f fr st 7 9) L.length [otherP f fr st] (List.range L.length) [] ∧ BAt g10 ([otherP f fr st] ++ ([] : List Nat).map (pcOf L f fr st 7 9)) wr) := Lib.hid (fun _ => ⟨BkI.start (other_ok f fr st), A10, k10, HX10.out, HR10.out⟩)
          have HRN : Hid ((List.range L.length).length = L.length) := Lib.hid List.length_range
          clear hb HP0 HL HM10 HNU HBM HV HX10 HR10 HF10 HSH
          generalize hwq : wr = wq at *
          clear hwq
          go_wp2_with fail
          go_loopw [20, 22] (fun v20 v22 wr => ∃ (left d : List Nat) (A : Option Addr) (c i : Nat), v20 = .slice A left.length c ∧ v22 = .int .i64 i ∧ Hid (i + left.length = L.length) ∧ Hid (RowX encN g10 wr (.slice A left.length c) left) ∧ Hid (0 < left.length → BkI (pcOf L f fr st 7 9) L.length [otherP f fr st] left d ∧ BAt g10 ([otherP f fr st] ++ d.map (pcOf L f fr st 7 9)) wr) ∧ Hid (RowX encS g10 wr (.slice A2 L.length k2) L) ∧ Hid (RowX encI g10 wr (.slice A0 od.length cap0) od) ∧ g10 < wr.heap.size ∧ Hid (Below w.heap.size w wr))
            (fun v20 _ _ => match v20 with | .slice _ n _ => n | _ => 0)
          case atStart => exact ⟨List.range L.length, [], some ⟨g11, 0, none⟩, L.length, 0, by rw [HRN.out], rfl, Lib.hid (by rw [HRN.out]; omega), by rw [HRN.out]; exact HLF, HBK, HLX, HVX, hgw, HB⟩
          case round =>
            clear HLF HBK HLX HVX HB hgw HRN
            obtain ⟨left, d, A, c, i, rfl, rfl, HIL, HLF, HBK, HLX, HVX, hgw, HB⟩ := hrel
            obtain ⟨nl, hnl⟩ : ∃ nl, left.length = nl := ⟨_, rfl⟩
            have HNL := Lib.hid hnl
            have hil := HIL.out
            have hl61 : (nl : Int) ≤ 61 := by omega
            have hi61 : (i : Int) ≤ 61 := by omega
            have hi0 : (0 : Int) ≤ (i : Int) := by omega
            rw [hnl]
            clear hil hnl
            by_cases hlt : 0 < nl
            · obtain ⟨hbk, A1, k1, hbx, hrow⟩ := HBK.out (by rw [HNL.out]; exact hlt)
              have HK := Lib.hid hbk
              have HQ := Lib.hid hbx
              have HRB := Lib.hid hrow
              clear hbk hbx hrow HBK
              have p0 : (0 : Int) < (nl : Int) := by omega
              have p1 : ¬ nl = 0 := by omega
              obtain ⟨k, hk, HKO, HKN⟩ : ∃ k : Nat, k < nl ∧ Hid (∀ hi : i < od.length, ∃ r, Int.tmod od[i] (nl : Int) = r ∧ -1000 ≤ r ∧ r ≤ 1000 ∧ max r (-r) = (k : Int)) ∧ Hid (¬ i < od.length → k = 0) := by
                by_cases hi : i < od.length
                · obtain ⟨k, r, h1, h2, h3, h4, h5⟩ := pick_abs od[i] nl hlt (by omega)
                  exact ⟨k, h1, Lib.hid (fun _ => ⟨r, h2, h3, h4, h5⟩), Lib.hid (fun h => absurd hi h)⟩
                · exact ⟨0, hlt, Lib.hid (fun h => absurd h hi), Lib.hid (fun _ => rfl)⟩
              clear hlt
              go_upto_if 106 with fail
              go_cut [23] from 98 to 211 (fun v23 wx => ∃ wy : World, wy = wx ∧ v23 = .int .i64 (k : Int) ∧ Hid (Below wr.heap.size wr wy))
              case first =>
                by_cases hi : i < od.length
                · obtain ⟨r, t1, t2, t3, t4⟩ := HKO.out hi
                  obtain ⟨bo, oo, co, e9, hbo, -, -, -, hco⟩ := HVX.out.at hi
                  cases e9
                  have eo : wr.cell? ⟨bo, oo + i, none⟩ = some (.int .i64 od[i]) := hco i hi
                  have q2 : (i : Int) < (od.length : Int) := by omega
                  have s1 : IntKind.i64.wrap (-r) = -r := by rw [IntKind.wrap_i64]; omega
                  have s2 : IntKind.i64.wrap r = r := by rw [IntKind.wrap_i64]; omega
                  have t5 : (if r < -r then -r else r) = (k : Int) := by rw [← t4]; simp only [Int.max_def]; split <;> split <;> omega
                  generalize od[i] = o at *
                  have HT4 := Lib.hid t4
                  clear hco HKO HKN t4
                  go_wp2_with fail
                  have HS : (fun V => Below wr.heap.size wr V) wr.drew := below_drawn (Below.refl _ _)
                  refine wp_region_noPanic ?_
                  refine wp_region_waits (S := (fun V => Below wr.heap.size wr V)) [16] (by kernel_rfl) HS (fun hHeld => ?_)
                  clear HS
                  refine wpAnyW_take (i := 0) (v := ?_) (by simp only [List.getElem?_toArray, List.getElem?_cons_zero]; rfl) (by kernel_rfl) (by kernel_rfl) (by kernel_rfl) (by kernel_rfl) (by kernel_rfl) (fun _ _ _ h => h) (Or.inl ⟨by rfl, ?_⟩) (by assumption) ?_
                  rotate_left 1
                  · (intro w' hSw; go_simp; try with_reducible rfl)
                  try simp only [Act.put, List.setIfInBounds_toArray, List.set_cons_zero, List.set_cons_succ]
                  refine wpAnyW_take (i := 1) (v := ?_) (by simp only [List.getElem?_toArray, List.getElem?_cons_succ, List.getElem?_cons_zero]; rfl) (by kernel_rfl) (by kernel_rfl) (by kernel_rfl) (by kernel_rfl) (by kernel_rfl) (fun _ _ _ h => h) (Or.inl ⟨by rfl, ?_⟩) (by assumption) ?_
                  rotate_left 1
                  · (intro w' hSw; go_simp; try with_reducible rfl)
                  try simp only [Act.put, List.setIfInBounds_toArray, List.set_cons_zero, List.set_cons_succ]
                  refine wpAnyW_take (i := 2) (v := ?_) (by simp only [List.getElem?_toArray, List.getElem?_cons_succ, List.getElem?_cons_zero]; rfl) (by kernel_rfl) (by kernel_rfl) (by kernel_rfl) (by kernel_rfl) (by kernel_rfl) (fun _ _ _ h => h) (Or.inl ⟨by rfl, ?_⟩) (by assumption) ?_
                  rotate_left 1
                  · (intro w' hSw; go_simp; try with_reducible rfl)
                  try simp only [Act.put, List.setIfInBounds_toArray, List.set_cons_zero, List.set_cons_succ]
                  refine wpAnyW_take (i := 3) (v := ?_) (by simp only [List.getElem?_toArray, List.getElem?_cons_succ, List.getElem?_cons_zero]; rfl) (by kernel_rfl) (by kernel_rfl) (by kernel_rfl) (by kernel_rfl) (by kernel_rfl) (fun _ _ _ h => h) (Or.inl ⟨by rfl, ?_⟩) (by assumption) ?_
                  rotate_left 1
                  · (intro w' hSw; have hq := (hSw.cell (p := ⟨bo, oo + i, none⟩) hbo).trans eo; go_simp; try with_reducible rfl)
                  try simp only [Act.put, List.setIfInBounds_toArray, List.set_cons_zero, List.set_cons_succ]
                  refine wpAnyW_take (i := 4) (v := ?_) (by simp only [List.getElem?_toArray, List.getElem?_cons_succ, List.getElem?_cons_zero]; rfl) (by kernel_rfl) (by kernel_rfl) (by kernel_rfl) (by kernel_rfl) (by kernel_rfl) (fun _ _ _ h => h) (Or.inl ⟨by rfl, ?_⟩) (by assumption) ?_
                  rotate_left 1
                  · (intro w' hSw; go_simp; try with_reducible rfl)
                  try simp only [Act.put, List.setIfInBounds_toArray, List.set_cons_zero, List.set_cons_succ]
                  refine wpAnyW_take (i := 5) (v := ?_) (by simp only [List.getElem?_toArray, List.getElem?_cons_succ, List.getElem?_cons_zero]; rfl) (by kernel_rfl) (by kernel_rfl) (by kernel_rfl) (by kernel_rfl) (by kernel_rfl) (fun _ _ _ h => h) (Or.inl ⟨by rfl, ?_⟩) (by assumption) ?_
                  rotate_left 1
                  · (intro w' hSw; go_simp; try with_reducible rfl)
                  try simp only [Act.put, List.setIfInBounds_toArray, List.set_cons_zero, List.set_cons_succ]
                  refine wpAnyW_take (i := 6) (v := ?_) (by simp only [List.getElem?_toArray, List.getElem?_cons_succ, List.getElem?_cons_zero]; rfl) (by kernel_rfl) (by kernel_rfl) (by kernel_rfl) (by kernel_rfl) (by kernel_rfl) (fun _ _ _ h => h) (Or.inl ⟨by rfl, ?_⟩) (by assumption) ?_
                  rotate_left 1
                  · (intro w' hSw; go_simp; try with_reducible rfl)
                  try simp only [Act.put, List.setIfInBounds_toArray, List.set_cons_zero, List.set_cons_succ]
                  refine wpAnyW_take (i := 7) (v := ?_) (by simp only [List.getElem?_toArray, List.getElem?_cons_succ, List.getElem?_cons_zero]; rfl) (by kernel_rfl) (by kernel_rfl) (by kernel_rfl) (by kernel_rfl) (by kernel_rfl) (fun _ _ _ h => h) (Or.inl ⟨by rfl, ?_⟩) (by assumption) ?_
                  rotate_left 1
                  · (intro w' hSw; go_simp; try with_reducible rfl)
                  try simp only [Act.put, List.setIfInBounds_toArray, List.set_cons_zero, List.set_cons_succ]
                  refine wpAnyW_take (i := 8) (v := ?_) (by simp only [List.getElem?_toArray, List.getElem?_cons_succ, List.getElem?_cons_zero]; rfl) (by kernel_rfl) (by kernel_rfl) (by kernel_rfl) (by kernel_rfl) (by kernel_rfl) (fun _ _ _ h => h) (Or.inl ⟨by rfl, ?_⟩) (by assumption) ?_
                  rotate_left 1
                  · (intro w' hSw; go_simp; try with_reducible rfl)
                  try simp only [Act.put, List.setIfInBounds_toArray, List.set_cons_zero, List.set_cons_succ]
                  refine wpAnyW_take (i := 9) (v := ?_) (by simp only [List.getElem?_toArray, List.getElem?_cons_succ, List.getElem?_cons_zero]; rfl) (by kernel_rfl) (by kernel_rfl) (by kernel_rfl) (by kernel_rfl) (by kernel_rfl) (fun _ _ _ h => h) (Or.inl ⟨by rfl, ?_⟩) (by assumption) ?_
                  rotate_left 1
                  · (intro w' hSw; go_simp; try with_reducible rfl)
                  try simp only [Act.put, List.setIfInBounds_toArray, List.set_cons_zero, List.set_cons_succ]
                  refine wpAnyW_take (i := 10) (v := ?_) (by simp only [List.getElem?_toArray, List.getElem?_cons_succ, List.getElem?_cons_zero]; rfl) (by kernel_rfl) (by kernel_rfl) (by kernel_rfl) (by kernel_rfl) (by kernel_rfl) (fun _ _ _ h => h) (Or.inl ⟨by rfl, ?_⟩) (by assumption) ?_
                  rotate_left 1
                  · (intro w' hSw; have hq := (hSw.cell (p := ⟨bo, oo + i, none⟩) hbo).trans eo; go_simp; try with_reducible rfl)
                  try simp only [Act.put, List.setIfInBounds_toArray, List.set_cons_zero, List.set_cons_succ]
                  refine wpAnyW_take (i := 11) (v := ?_) (by simp only [List.getElem?_toArray, List.getElem?_cons_succ, List.getElem?_cons_zero]; rfl) (by kernel_rfl) (by kernel_rfl) (by kernel_rfl) (by kernel_rfl) (by kernel_rfl) (fun _ _ _ h => h) (Or.inl ⟨by rfl, ?_⟩) (by assumption) ?_
                  rotate_left 1
                  · (intro w' hSw; go_simp; try with_reducible rfl)
                  try simp only [Act.put, List.setIfInBounds_toArray, List.set_cons_zero, List.set_cons_succ]
                  refine wpAnyW_take (i := 12) (v := ?_) (by simp only [List.getElem?_toArray, List.getElem?_cons_succ, List.getElem?_cons_zero]; rfl) (by kernel_rfl) (by kernel_rfl) (by kernel_rfl) (by kernel_rfl) (by kernel_rfl) (fun _ _ _ h => h) (Or.inl ⟨by rfl, ?_⟩) (by assumption) ?_
                  rotate_left 1
                  · (intro w' hSw; go_simp; try with_reducible rfl)
                  try simp only [Act.put, List.setIfInBounds_toArray, List.set_cons_zero, List.set_cons_succ]
                  refine wpAnyW_take (i := 13) (v := ?_) (by simp only [List.getElem?_toArray, List.getElem?_cons_succ, List.getElem?_cons_zero]; rfl) (by kernel_rfl) (by kernel_rfl) (by kernel_rfl) (by kernel_rfl) (by kernel_rfl) (fun _ _ _ h => h) (Or.inl ⟨by rfl, ?_⟩) (by assumption) ?_
                  rotate_left 1
                  · (intro w' hSw; go_simp; try with_reducible rfl)
                  try simp only [Act.put, List.setIfInBounds_toArray, List.set_cons_zero, List.set_cons_succ]
                  refine wpAnyW_take (i := 14) (v := ?_) (by simp only [List.getElem?_toArray, List.getElem?_cons_succ, List.getElem?_cons_zero]; rfl) (by kernel_rfl) (by kernel_rfl) (by kernel_rfl) (by kernel_rfl) (by kernel_rfl) (fun _ _ _ h => h) (Or.inl ⟨by rfl, ?_⟩) (by assumption) ?_
                  rotate_left 1
                  · (intro w' hSw; go_simp; try with_reducible rfl)
                  try simp only [Act.put, List.setIfInBounds_toArray, List.set_cons_zero, List.set_cons_succ]
                  refine wpAnyW_take (i := 15) (v := ?_) (by simp only [List.getElem?_toArray, List.getElem?_cons_succ, List.getElem?_cons_zero]; rfl) (by kernel_rfl) (by kernel_rfl) (by kernel_rfl) (by kernel_rfl) (by kernel_rfl) (fun _ _ _ h => h) (Or.inl ⟨by rfl, ?_⟩) (by assumption) ?_
                  rotate_left 1
                  · (intro w' hSw; go_simp; try with_reducible rfl)
                  try simp only [Act.put, List.setIfInBounds_toArray, List.set_cons_zero, List.set_cons_succ]
                  refine wpAnyW_freed (i := 16) (by kernel_rfl) (by kernel_rfl) (by simp only [List.getElem?_toArray, List.getElem?_cons_succ, List.getElem?_cons_zero]; rfl) (fun K hK => ?_)
                  rw [if_pos (by rfl)]
                  go_simp
                  have HE := Lib.hid hHeld
                  refine hK.out _ _ ?_
                  clear hK K hHeld
                  try simp only [Act.put, List.setIfInBounds_toArray, List.set_cons_zero, List.set_cons_succ]
                  refine wpAnyW_done (by kernel_rfl) ?_ _
                  refine NoPanic.normal ?_
                  go_wp2_with fail
                  go_meet
                  exact ⟨_, rfl, congrArg (Value.int .i64) HT4.out, HE⟩
                · have q2 : ¬ (i : Int) < (od.length : Int) := by omega
                  obtain rfl := HKN.out hi
                  go_wp2_with fail
                  go_meet
                  exact ⟨_, rfl, rfl, Lib.hid (Below.refl _ _)⟩
              case rest =>
                obtain ⟨wy, rfl, rfl, HY⟩ := hcut
                have hy := HY.out
                replace HLX := Lib.hid (RowX.below HLX.out hy)
                replace HVX := Lib.hid (RowX.below HVX.out hy)
                replace HLF := Lib.hid (RowX.below HLF.out hy)
                replace HQ := Lib.hid (HQ.out.later hy)
                replace HRB := Lib.hid (RowP.below HRB.out hy)
                replace HB := Lib.hid (HB.out.trans (hy.mono HB.out.size))
                have hgy : g10 < wy.heap.size := HQ.out.lt
                clear hy HY HKO HKN hgw
                have hkl : k < left.length := by rw [HNL.out]; exact hk
                obtain ⟨b, off, c', e9, hbl, hbne, hc1, hc2, hcl⟩ := HLF.out.at hkl
                cases e9
                rw [HNL.out] at hc1
                have el : wy.cell? ⟨b, off + k, none⟩ = some (.int .i64 (left[k] : Int)) := hcl k hkl
                have HCL := Lib.hid hcl
                have hkI : (k : Int) < (nl : Int) := by omega
                have hk0 : (0 : Int) ≤ (k : Int) := by omega
                obtain ⟨n, hn⟩ : ∃ n, left[k] = n := ⟨_, rfl⟩
                rw [hn] at el
                have HNK : Hid (∃ h : k < left.length, left[k] = n) := Lib.hid ⟨hkl, hn⟩
                have HS1 := Lib.hid (RowX.s1 (c := c) hcl hbl hkl)
                have HS2 := Lib.hid (RowX.s2 hcl hbl hkl HNL.out)
                have HC1 := Lib.hid (encN_one (left.take k))
                have HC2 := Lib.hid (encN_one (left.drop (k + 1)))
                have HNM : Hid (k ≤ 61 ∧ nl ≤ 61) := Lib.hid ⟨by omega, by omega⟩
                clear hcl hn
                go_upto_region 23 with fail
                have hcI : (nl : Int) ≤ (c : Int) := by omega
                have hcJ : (c : Int) ≤ 9223372036854775807 := by unfold maxLen at hc2; omega
                have hkc : k ≤ c := by omega
                obtain ⟨kx, hkx⟩ : ∃ x, k + 1 = x := ⟨_, rfl⟩
                have s9 : IntKind.i64.wrap ((k : Int) + 1) = (kx : Int) := by rw [IntKind.wrap_i64]; omega
                have s10 : (kx : Int) ≤ (nl : Int) := by omega
                obtain ⟨oo, hoo, HOO⟩ : ∃ oo, (if c = kx then some (⟨b, off, none⟩ : Addr) else some ⟨b, off + kx, none⟩) = some ⟨b, oo, none⟩ ∧ Hid (oo = off + kx ∨ nl = kx) := by
                  by_cases h : c = kx
                  · exact ⟨off, by rw [if_pos h], Lib.hid (.inr (by omega))⟩
                  · exact ⟨off + kx, by rw [if_neg h], Lib.hid (.inl rfl)⟩
                rw [hkx] at HS2 HC2
                have HKX := Lib.hid hkx
                clear hkx
                clear hkl hc1 hk hc2
                have HS : (fun V => Below wy.heap.size wy V) wy.drew := below_drawn (Below.refl _ _)
                refine wp_region_noPanic ?_
                refine wp_region_waits (S := (fun V => Below wy.heap.size wy V)) [10] (by kernel_rfl) HS (fun hHeld => ?_)
                clear HS
                refine wpAnyW_take (i := 1) (v := ?_) (by simp only [List.getElem?_toArray, List.getElem?_cons_succ, List.getElem?_cons_zero]; rfl) (by kernel_rfl) (by kernel_rfl) (by kernel_rfl) (by kernel_rfl) (by kernel_rfl) (fun _ _ _ h => h) (Or.inl ⟨by rfl, ?_⟩) (by assumption) ?_
                rotate_left 1
                · (intro w' hSw; go_simp; try with_reducible rfl)
                try simp only [Act.put, List.setIfInBounds_toArray, List.set_cons_zero, List.set_cons_succ]
                refine wpAnyW_take (i := 2) (v := ?_) (by simp only [List.getElem?_toArray, List.getElem?_cons_succ, List.getElem?_cons_zero]; rfl) (by kernel_rfl) (by kernel_rfl) (by kernel_rfl) (by kernel_rfl) (by kernel_rfl) (fun _ _ _ h => h) (Or.inl ⟨by rfl, ?_⟩) (by assumption) ?_
                rotate_left 1
                · (intro w' hSw; go_simp; try with_reducible rfl)
                try simp only [Act.put, List.setIfInBounds_toArray, List.set_cons_zero, List.set_cons_succ]
                refine wpAnyW_take (i := 3) (v := ?_) (by simp only [List.getElem?_toArray, List.getElem?_cons_succ, List.getElem?_cons_zero]; rfl) (by kernel_rfl) (by kernel_rfl) (by kernel_rfl) (by kernel_rfl) (by kernel_rfl) (fun _ _ _ h => h) (Or.inl ⟨by rfl, ?_⟩) (by assumption) ?_
                rotate_left 1
                · (intro w' hSw; go_simp; try with_reducible rfl)
                try simp only [Act.put, List.setIfInBounds_toArray, List.set_cons_zero, List.set_cons_succ]
                refine wpAnyW_take (i := 5) (v := ?_) (by simp only [List.getElem?_toArray, List.getElem?_cons_succ, List.getElem?_cons_zero]; rfl) (by kernel_rfl) (by kernel_rfl) (by kernel_rfl) (by kernel_rfl) (by kernel_rfl) (fun _ _ _ h => h) (Or.inl ⟨by rfl, ?_⟩) (by assumption) ?_
                rotate_left 1
                · (intro w' hSw; go_simp; try with_reducible rfl)
                try simp only [Act.put, List.setIfInBounds_toArray, List.set_cons_zero, List.set_cons_succ]
                refine wpAnyW_take (i := 6) (v := ?_) (by simp only [List.getElem?_toArray, List.getElem?_cons_succ, List.getElem?_cons_zero]; rfl) (by kernel_rfl) (by kernel_rfl) (by kernel_rfl) (by kernel_rfl) (by kernel_rfl) (fun _ _ _ h => h) (Or.inl ⟨by rfl, ?_⟩) (by assumption) ?_
                rotate_left 1
                · (intro w' hSw; go_simp; try with_reducible rfl)
                try simp only [Act.put, List.setIfInBounds_toArray, List.set_cons_zero, List.set_cons_succ]
                refine wpAnyW_take (i := 7) (v := ?_) (by simp only [List.getElem?_toArray, List.getElem?_cons_succ, List.getElem?_cons_zero]; rfl) (by kernel_rfl) (by kernel_rfl) (by kernel_rfl) (by kernel_rfl) (by kernel_rfl) (fun _ _ _ h => h) (Or.inl ⟨by rfl, ?_⟩) (by assumption) ?_
                rotate_left 1
                · (intro w' hSw; go_simp; try with_reducible rfl)
                try simp only [Act.put, List.setIfInBounds_toArray, List.set_cons_zero, List.set_cons_succ]
                refine wpAnyW_take (i := 8) (v := ?_) (by simp only [List.getElem?_toArray, List.getElem?_cons_succ, List.getElem?_cons_zero]; rfl) (by kernel_rfl) (by kernel_rfl) (by kernel_rfl) (by kernel_rfl) (by kernel_rfl) (fun _ _ _ h => h) (Or.inl ⟨by rfl, ?_⟩) (by assumption) ?_
                rotate_left 1
                · (intro w' hSw; go_simp; try with_reducible rfl)
                try simp only [Act.put, List.setIfInBounds_toArray, List.set_cons_zero, List.set_cons_succ]
                refine wpAnyW_held (i := 0) (by kernel_rfl) (by simp only [List.getElem?_toArray, List.getElem?_cons_zero]; rfl) (fun K hK => ?_)
                rw [if_pos (by rfl)]
                obtain ⟨v23, hv23, HX23, HB23, hs23⟩ := one_open wy.drew 3 #[]
                have HS : (fun V => Below wy.heap.size wy V) v23 := hHeld.trans (HB23.out.mono hHeld.size)
                clear hHeld HB23 hs23
                go_wp2_with fail
                refine hK.out _ _ HS (fun hHeld => ?_)
                clear hK K HS
                try simp only [Act.put, List.setIfInBounds_toArray, List.set_cons_zero, List.set_cons_succ]
                refine wpAnyW_held (i := 4) (by kernel_rfl) (by simp only [List.getElem?_toArray, List.getElem?_cons_succ, List.getElem?_cons_zero]; rfl) (fun K hK => ?_)
                refine step_append_src _ (by rfl) (.tmp 127) (.tmp 130) _ (by rfl) wy 3 i0 _ 1 8 Try.underlying56 HI.out HZ0.out HZ1.out HZ2.out rfl (by omega) _ 0 [] (by rfl) (own_none HX23.out (Nat.le_refl _)) _ k _ (by rfl) (HS1.out _ hHeld) HC1.out (by have := HNM.out; simp only [maxLen]; omega) (by have := HNM.out; omega) hHeld ?_
                intro v45 w45 hown45 hg45 HS
                have HO45 := Lib.hid hown45
                clear hHeld hown45 hg45 HX23 hv23
                refine hK.out _ _ HS (fun hHeld => ?_)
                clear hK K HS
                try simp only [Act.put, List.setIfInBounds_toArray, List.set_cons_zero, List.set_cons_succ]
                refine wpAnyW_held (i := 9) (by kernel_rfl) (by simp only [List.getElem?_toArray, List.getElem?_cons_succ, List.getElem?_cons_zero]; rfl) (fun K hK => ?_)
                refine step_append_src _ (by rfl) (.tmp 131) (.tmp 135) _ (by rfl) wy 3 i0 _ 1 8 Try.underlying56 HI.out HZ0.out HZ1.out HZ2.out rfl (by omega) _ (0 + k) ([] ++ (left.take k).map encN) (by rfl) HO45.out _ (nl - kx) _ (by rfl) (HS2.out _ hHeld _ _ HOO.out) HC2.out (by have := HNM.out; simp only [maxLen]; omega) (by have := HNM.out; omega) hHeld ?_
                intro v58 w58 hown58 hg58 HS
                obtain ⟨A8, c8, rfl, -, -, -⟩ := own_slice hown58
                obtain ⟨n8, hn8⟩ : ∃ x, 0 + k + (nl - kx) = x := ⟨_, rfl⟩
                have HLF2 := Lib.hid (RowX.own (g := g10) (l := left.take k ++ left.drop kx) (by rw [List.map_append]; exact hown58) hgy)
                rw [hn8] at HLF2 ⊢
                have HN8 : Hid (n8 + 1 = nl ∧ k < nl) := Lib.hid ⟨by have := HKX.out; omega, by have := HKX.out; omega⟩
                clear hHeld hown58 hg58 HO45 hn8
                refine hK.out _ _ HS (fun hHeld => ?_)
                clear hK K HS
                try simp only [Act.put, List.setIfInBounds_toArray, List.set_cons_zero, List.set_cons_succ]
                refine wpAnyW_freed (i := 10) (by kernel_rfl) (by kernel_rfl) (by simp only [List.getElem?_toArray, List.getElem?_cons_succ, List.getElem?_cons_zero]; rfl) (fun K hK => ?_)
                rw [if_pos (by rfl)]
                go_simp
                have HE := Lib.hid hHeld
                refine hK.out _ _ ?_
                clear hK K hHeld
                try simp only [Act.put, List.setIfInBounds_toArray, List.set_cons_zero, List.set_cons_succ]
                refine wpAnyW_done (by kernel_rfl) ?_ _
                refine NoPanic.normal ?_
                go_wp2_with fail
                have hE := HE.out
                obtain ⟨hkl, hnk⟩ := HNK.out
                have hnl : n ∈ left := hnk ▸ List.getElem_mem hkl
                have hnm : n < L.length := HK.out.lt n hnl
                obtain ⟨b2, o2, c2, e9, hb2, -, -, -, hcL⟩ := (RowX.below HLX.out hE).at hnm
                cases e9
                have eL : w58.cell? ⟨b2, o2 + n, none⟩ = some (.string L[n]) := hcL n hnm
                have HPZ : pcOf L f fr st 7 9 n = ⟨f + UInt32.ofNat n, decide (n = 0), decide (n + 1 = L.length), fr, st, 7, 9, L[n]⟩ := by
                  unfold pcOf; rw [getElem!_pos L n hnm]
                have HTN := HTX.out n hnm
                rw [HPZ] at HTN
                generalize L[n] = t at *
                obtain ⟨tx, htx⟩ : ∃ x, f + UInt32.ofNat n = x := ⟨_, rfl⟩
                have u1 : ((f.toNat : Int) + (n : Int)) % 4294967296 = (tx.toNat : Int) := by
                  rw [← htx, UInt32.toNat_add, UInt32.toNat_ofNat']
                  omega
                have u2 : (n : Int) % 4294967296 = (n : Int) := by omega
                have u3 : IntKind.u32.wrap (n : Int) = (n : Int) := by rw [IntKind.wrap_u32]; omega
                obtain ⟨bx, hbx⟩ : ∃ x, decide (n = 0) = x := ⟨_, rfl⟩
                obtain ⟨ex, hex⟩ : ∃ x, decide (n + 1 = L.length) = x := ⟨_, rfl⟩
                have u4 : ((n : Int) == 0) = bx := by rw [← hbx, Bool.eq_iff_iff, beq_iff_eq, decide_eq_true_iff]; omega
                have u5 : ((n : Int) == (L.length : Int) - 1) = ex := by rw [← hex, Bool.eq_iff_iff, beq_iff_eq, decide_eq_true_iff]; omega
                have u6 : (0 : Int) ≤ (n : Int) := by omega
                have u7 : (n : Int) < (L.length : Int) := by omega
                rw [htx, hbx, hex] at HPZ HTN
                have HPC : Hid (#[.int .u32 (tx.toNat : Int), .bool bx, .bool ex, .bool fr, .int .u16 (st.toNat : Int), .int .u16 7, .int .u32 9, .string t] = cellsPc ⟨tx, bx, ex, fr, st, 7, 9, t⟩) := Lib.hid rfl
                obtain ⟨x, hx⟩ : ∃ x, (⟨tx, bx, ex, fr, st, 7, 9, t⟩ : Pc) = x := ⟨_, rfl⟩
                rw [hx] at HPZ HTN HPC
                have HPX := Lib.hid HPZ
                have hbb := HK.out.bytes (other_len f fr st) (fun i hi => (HTX.out i hi).2)
                have hdl := HK.out.len
                rw [HNL.out] at hdl
                have hok := HK.out.ok
                have HT0 := Lib.hid (fun i hi => (HTX.out i hi).1)
                replace HQ := Lib.hid (HQ.out.later hE)
                replace HRB := Lib.hid (RowP.below HRB.out hE)
                replace HLX := Lib.hid (RowX.below HLX.out hE)
                replace HVX := Lib.hid (RowX.below HVX.out hE)
                replace HB := Lib.hid (HB.out.trans (hE.mono HB.out.size))
                have hg58 : g10 < w58.heap.size := HQ.out.lt
                obtain ⟨W24, hW24, HP0, HB24, hs24⟩ := one_open w58 43 #[.int .u32 0, .bool false, .bool false, .bool false, .int .u16 0, .int .u16 0, .int .u32 0, .string ⟨#[]⟩]
                obtain ⟨g24, hg24⟩ : ∃ g, w58.heap.size = g := ⟨_, rfl⟩
                rw [hg24] at HP0
                have h8 := HN8.out.1
                have hkN := HN8.out.2
                clear hcL HPZ htx hbx hex hx hE HE HNM HS1 HS2 HC1 HC2 hs24 hoo s9 s10 hkc hcI hcJ HOO el hkI hk0
                by_cases hl1 : nl = 1
                · have hP1 := HK.out.last HFA.out HFR.out HT0.out hkl (by rw [HNL.out]; exact hl1)
                  rw [hnk, HPX.out, HMS.out] at hP1
                  have HPU1 := Lib.hid (fun V W h => put_anyE _ (by rw [hbb.2]; simp only [List.length_singleton]; omega) hok x (by have := hbb.1; simp only [List.length_singleton] at this; omega) V W h)
                  rw [hP1] at HPU1
                  have hzx := HTN.2
                  have HPU2 := Lib.hid (fun V W h => put_anyE [otherP f fr st] (by simp only [List.length_singleton]; omega) (other_ok f fr st) x (by rw [other_bytes]; omega) V W h)
                  have HBY := Lib.hid (fun V W h => bytes_any [otherP f fr st] (by simp only [List.length_singleton]; omega) (by rw [other_bytes]; decide) V W h)
                  rw [other_bytes] at HBY
                  obtain ⟨P2, hP2⟩ : ∃ q, putP [otherP f fr st] x = q := ⟨_, rfl⟩
                  rw [hP2] at HPU2
                  obtain ⟨Y2, o2'⟩ := P2
                  obtain ⟨y2, hy2⟩ : ∃ q, o2'.isSome = q := ⟨_, rfl⟩
                  obtain ⟨m2, hm2⟩ : ∃ q, o2'.getD zeroMg = q := ⟨_, rfl⟩
                  simp only [hy2, hm2] at HPU2
                  have HMG : Hid (#[.int .u32 (f.toNat : Int), .bool fr, .int .u16 (st.toNat : Int), .int .u16 7, .int .u32 9, .string s] = cellsMg ⟨f, fr, st, 7, 9, s⟩) := Lib.hid rfl
                  obtain rfl : n8 = 0 := by omega
                  have HL0 : Hid (left.take k ++ left.drop kx = []) := Lib.hid (List.eq_nil_of_length_eq_zero (by rw [← HKX.out, len_erase hkl, HNL.out]; omega))
                  clear hP1 hP2 hy2 hm2 hbb hok HTN hzx h8 hkN hdl hkl hnk hnl
                  generalize [otherP f fr st] ++ d.map (pcOf L f fr st 7 9) = Bg at *
                  have HGD : ∀ W, (eqGuard .neq 39 (.tmp 170) (.tmp 175) (.agg #[.int .u32 (f.toNat : Int), .bool fr, .int .u16 (st.toNat : Int), .int .u16 7, .int .u32 9, .string s]) (.agg #[.int .u32 (f.toNat : Int), .bool fr, .int .u16 (st.toNat : Int), .int .u16 7, .int .u32 9, .string s])).run Try.prog W = .ok () W := fun W => guard_mg _ _ _ _ _ W
                  have HNQ : ∀ W, (binOp .neq 39 (.agg #[.int .u32 (f.toNat : Int), .bool fr, .int .u16 (st.toNat : Int), .int .u16 7, .int .u32 9, .string s]) (.agg #[.int .u32 (f.toNat : Int), .bool fr, .int .u16 (st.toNat : Int), .int .u16 7, .int .u32 9, .string s])).run Try.prog W = .ok (.bool false) W := fun W => neq_mg ⟨f, fr, st, 7, 9, s⟩ W
                  go_wp2_with (first
                    | ((with_reducible refine gate9 ?_); refine stB (ty := 43) #[.int .u32 (tx.toNat : Int), .bool bx, .bool ex, .bool fr, .int .u16 (st.toNat : Int), .int .u16 7, .int .u32 9, .string t] rfl rfl rfl rfl HP0.out infoP rfl (by rw [HPC.out]; exact cellsPc_one _) ?_; rw [HPC.out]; intro w25 ht hg; replace HB24 := Lib.hid (below_of_grown1 HB24.out hg HB24.out.size (Nat.le_of_eq hg24)); replace HP0 := Lib.hid ht; have hb := HB24.out; replace HQ := Lib.hid (HQ.out.later hb); replace HRB := Lib.hid (RowP.below HRB.out hb); replace HLX := Lib.hid (RowX.below HLX.out hb); replace HVX := Lib.hid (RowX.below HVX.out hb); replace HLF2 := Lib.hid (RowX.below HLF2.out hb); replace HB := Lib.hid (HB.out.trans (hb.mono HB.out.size)); clear ht hg hb HB24)
                    | ((with_reducible refine gate9 ?_); refine ldB (ty := 43) rfl rfl rfl HP0.out Try.underlying43 rfl infoP ?_)
                    | ((with_reducible refine gate9 ?_); refine ldB (ty := 32) (cs := #[.slice A1 Bg.length k1]) rfl rfl rfl HQ.out Try.underlying32 rfl infoB ?_)
                    | (go_at_call 14; (with_reducible refine (HPU1.out _ _ HRB.out).mono ?_); (rintro e w26 ⟨A26, k26, rfl, hr, hf, hb⟩; have hwg26 : w.heap.size ≤ w26.heap.size := (by have h8 := HB.out.size; have h9 := hb.size; omega); have hr' : RowP w26 (.slice A26 1 k26) [otherP f fr st] := hr; have HR26 := Lib.hid hr'; clear hr'; have HF26 := Lib.hid (hf.less (show g10 + 1 ≤ _ by (have h9 := HQ.out.lt; omega))); replace HP0 := Lib.hid (HP0.out.later hb); replace HQ := Lib.hid (HQ.out.later hb); replace HLX := Lib.hid (RowX.below HLX.out hb); replace HVX := Lib.hid (RowX.below HVX.out hb); replace HLF2 := Lib.hid (RowX.below HLF2.out hb); replace HRB := Lib.hid (RowP.below HRB.out hb); replace HB := Lib.hid (HB.out.trans (hb.mono HB.out.size)); clear hr hf hb; obtain ⟨W26, hW26, HX26, HM26, HC26, hs26⟩ := two_open w26 32 39 #[.slice none 0 0] #[.int .u32 0, .bool false, .int .u16 0, .int .u16 0, .int .u32 0, .string ⟨#[]⟩]; obtain ⟨g26, hg26⟩ : ∃ g, w26.heap.size = g := ⟨_, rfl⟩; rw [hg26] at HX26 HM26 hwg26))
                    | ((with_reducible refine gate9 ?_); refine stB (ty := 32) #[.slice A26 1 k26] rfl rfl rfl rfl HX26.out infoB rfl (cellsB_one _ _ _) ?_; intro w261 ht hg; replace HC26 := Lib.hid (below_of_grown1 HC26.out hg HC26.out.size (Nat.le_of_eq hg26)); replace HM26 := Lib.hid (HM26.out.kept hg (by omega)); replace HX26 := Lib.hid ht; clear ht hg)
                    | ((with_reducible refine gate9 ?_); refine stB (ty := 39) (cellsMg ⟨f, fr, st, 7, 9, s⟩) rfl rfl rfl rfl HM26.out infoM rfl (cellsMg_one _) ?_; intro w262 ht hg; replace HC26 := Lib.hid (below_of_grown1 HC26.out hg HC26.out.size (by omega)); replace HX26 := Lib.hid (HX26.out.kept hg (by omega)); replace HM26 := Lib.hid ht; have hb := HC26.out; replace HP0 := Lib.hid (HP0.out.later hb); replace HQ := Lib.hid (HQ.out.later hb); replace HLX := Lib.hid (RowX.below HLX.out hb); replace HVX := Lib.hid (RowX.below HVX.out hb); replace HLF2 := Lib.hid (RowX.below HLF2.out hb); replace HRB := Lib.hid (RowP.below HRB.out hb); replace HB := Lib.hid (HB.out.trans (hb.mono HB.out.size)); replace HR26 := Lib.hid (RowP.below HR26.out hb); have hx26 := HX26.out.cell 0 (.slice A26 1 k26) rfl; have m0 := HM26.out.cell 0 (.int .u32 (f.toNat : Int)) rfl; have m1 := HM26.out.cell 1 (.bool fr) rfl; have m2 := HM26.out.cell 2 (.int .u16 (st.toNat : Int)) rfl; have m3 := HM26.out.cell 3 (.int .u16 7) rfl; have m4 := HM26.out.cell 4 (.int .u32 9) rfl; have m5 := HM26.out.cell 5 (.string s) rfl; clear ht hg hb)
                    | ((with_reducible refine gate9 ?_); refine ldB (ty := 32) (cs := #[.slice A26 1 k26]) rfl rfl rfl HX26.out Try.underlying32 rfl infoB ?_)
                    | (go_at_call 14; (with_reducible refine (HPU2.out _ _ HR26.out).mono ?_); (rintro e w29 ⟨A29, k29, rfl, hr, hf, hb⟩; have hwg29 : w.heap.size ≤ w29.heap.size := (by have h8 := HB.out.size; have h9 := hb.size; omega); have HR29 := Lib.hid hr; have HF29 := Lib.hid hf; replace HP0 := Lib.hid (HP0.out.later hb); replace HQ := Lib.hid (HQ.out.later hb); replace HLX := Lib.hid (RowX.below HLX.out hb); replace HVX := Lib.hid (RowX.below HVX.out hb); replace HLF2 := Lib.hid (RowX.below HLF2.out hb); replace HX26 := Lib.hid (HX26.out.later hb); replace HM26 := Lib.hid (HM26.out.later hb); replace HR26 := Lib.hid (RowP.below HR26.out hb); replace HB := Lib.hid (HB.out.trans (hb.mono HB.out.size)); clear hr hf hb; obtain ⟨W29, hW29, HX29, HM29, HC29, hs29⟩ := two_open w29 32 39 #[.slice none 0 0] #[.int .u32 0, .bool false, .int .u16 0, .int .u16 0, .int .u32 0, .string ⟨#[]⟩]; obtain ⟨g29, hg29⟩ : ∃ g, w29.heap.size = g := ⟨_, rfl⟩; rw [hg29] at HX29 HM29 hwg29))
                    | ((with_reducible refine gate9 ?_); refine stB (ty := 32) #[.slice A29 Y2.length k29] rfl rfl rfl rfl HX29.out infoB rfl (cellsB_one _ _ _) ?_; intro w291 ht hg; replace HC29 := Lib.hid (below_of_grown1 HC29.out hg HC29.out.size (Nat.le_of_eq hg29)); replace HM29 := Lib.hid (HM29.out.kept hg (by omega)); replace HX29 := Lib.hid ht; clear ht hg)
                    | ((with_reducible refine gate9 ?_); refine stB (ty := 39) (cellsMg m2) rfl rfl rfl rfl HM29.out infoM rfl (cellsMg_one _) ?_; intro w292 ht hg; replace HC29 := Lib.hid (below_of_grown1 HC29.out hg HC29.out.size (by omega)); replace HX29 := Lib.hid (HX29.out.kept hg (by omega)); replace HM29 := Lib.hid ht; have hb := HC29.out; replace HP0 := Lib.hid (HP0.out.later hb); replace HQ := Lib.hid (HQ.out.later hb); replace HLX := Lib.hid (RowX.below HLX.out hb); replace HVX := Lib.hid (RowX.below HVX.out hb); replace HLF2 := Lib.hid (RowX.below HLF2.out hb); replace HX26 := Lib.hid (HX26.out.later hb); replace HM26 := Lib.hid (HM26.out.later hb); replace HR26 := Lib.hid (RowP.below HR26.out hb); replace HB := Lib.hid (HB.out.trans (hb.mono HB.out.size)); replace HR29 := Lib.hid (RowP.below HR29.out hb); have hx29 := HX29.out.cell 0 (.slice A29 Y2.length k29) rfl; have hx26 := HX26.out.cell 0 (.slice A26 1 k26) rfl; clear ht hg hb)
                    | ((with_reducible refine gate9 ?_); refine ldB (ty := 32) (cs := #[.slice A29 Y2.length k29]) rfl rfl rfl HX29.out Try.underlying32 rfl infoB ?_)
                    | ((with_reducible refine gate9 ?_); refine stB (ty := 32) #[.slice A26 1 k26] rfl rfl rfl rfl HQ.out infoB rfl (cellsB_one _ _ _) ?_; intro w31 ht hg; replace HR26 := Lib.hid (RowP.stays HR26.out HF26.out hg (Nat.lt_succ_self _)); replace HLX := Lib.hid (RowX.kept HLX.out hg); replace HVX := Lib.hid (RowX.kept HVX.out hg); replace HLF2 := Lib.hid (RowX.kept HLF2.out hg); replace HB := Lib.hid (below_of_grown1 HB.out hg HB.out.size hwg); replace HQ := Lib.hid ht; clear ht hg))
                  refine (HBY.out _ _ HR26.out).mono ?_
                  rintro e w27 ⟨rfl, hb⟩
                  replace HP0 := Lib.hid (HP0.out.later hb)
                  replace HQ := Lib.hid (HQ.out.later hb)
                  replace HLX := Lib.hid (RowX.below HLX.out hb)
                  replace HVX := Lib.hid (RowX.below HVX.out hb)
                  replace HLF2 := Lib.hid (RowX.below HLF2.out hb)
                  replace HRB := Lib.hid (RowP.below HRB.out hb)
                  replace HX26 := Lib.hid (HX26.out.later hb)
                  replace HM26 := Lib.hid (HM26.out.later hb)
                  replace HR26 := Lib.hid (RowP.below HR26.out hb)
                  replace HB := Lib.hid (HB.out.trans (hb.mono HB.out.size))
                  have hx26 := HX26.out.cell 0 (.slice A26 1 k26) rfl
                  clear hb m0 m1 m2 m3 m4 m5
                  go_wp2_with (first
                    | ((with_reducible refine gate9 ?_); refine stB (ty := 43) #[.int .u32 (tx.toNat : Int), .bool bx, .bool ex, .bool fr, .int .u16 (st.toNat : Int), .int .u16 7, .int .u32 9, .string t] rfl rfl rfl rfl HP0.out infoP rfl (by rw [HPC.out]; exact cellsPc_one _) ?_; rw [HPC.out]; intro w25 ht hg; replace HB24 := Lib.hid (below_of_grown1 HB24.out hg HB24.out.size (Nat.le_of_eq hg24)); replace HP0 := Lib.hid ht; have hb := HB24.out; replace HQ := Lib.hid (HQ.out.later hb); replace HRB := Lib.hid (RowP.below HRB.out hb); replace HLX := Lib.hid (RowX.below HLX.out hb); replace HVX := Lib.hid (RowX.below HVX.out hb); replace HLF2 := Lib.hid (RowX.below HLF2.out hb); replace HB := Lib.hid (HB.out.trans (hb.mono HB.out.size)); clear ht hg hb HB24)
                    | ((with_reducible refine gate9 ?_); refine ldB (ty := 43) rfl rfl rfl HP0.out Try.underlying43 rfl infoP ?_)
                    | ((with_reducible refine gate9 ?_); refine ldB (ty := 32) (cs := #[.slice A1 Bg.length k1]) rfl rfl rfl HQ.out Try.underlying32 rfl infoB ?_)
                    | (go_at_call 14; (with_reducible refine (HPU1.out _ _ HRB.out).mono ?_); (rintro e w26 ⟨A26, k26, rfl, hr, hf, hb⟩; have hwg26 : w.heap.size ≤ w26.heap.size := (by have h8 := HB.out.size; have h9 := hb.size; omega); have hr' : RowP w26 (.slice A26 1 k26) [otherP f fr st] := hr; have HR26 := Lib.hid hr'; clear hr'; have HF26 := Lib.hid (hf.less (show g10 + 1 ≤ _ by (have h9 := HQ.out.lt; omega))); replace HP0 := Lib.hid (HP0.out.later hb); replace HQ := Lib.hid (HQ.out.later hb); replace HLX := Lib.hid (RowX.below HLX.out hb); replace HVX := Lib.hid (RowX.below HVX.out hb); replace HLF2 := Lib.hid (RowX.below HLF2.out hb); replace HRB := Lib.hid (RowP.below HRB.out hb); replace HB := Lib.hid (HB.out.trans (hb.mono HB.out.size)); clear hr hf hb; obtain ⟨W26, hW26, HX26, HM26, HC26, hs26⟩ := two_open w26 32 39 #[.slice none 0 0] #[.int .u32 0, .bool false, .int .u16 0, .int .u16 0, .int .u32 0, .string ⟨#[]⟩]; obtain ⟨g26, hg26⟩ : ∃ g, w26.heap.size = g := ⟨_, rfl⟩; rw [hg26] at HX26 HM26 hwg26))
                    | ((with_reducible refine gate9 ?_); refine stB (ty := 32) #[.slice A26 1 k26] rfl rfl rfl rfl HX26.out infoB rfl (cellsB_one _ _ _) ?_; intro w261 ht hg; replace HC26 := Lib.hid (below_of_grown1 HC26.out hg HC26.out.size (Nat.le_of_eq hg26)); replace HM26 := Lib.hid (HM26.out.kept hg (by omega)); replace HX26 := Lib.hid ht; clear ht hg)
                    | ((with_reducible refine gate9 ?_); refine stB (ty := 39) (cellsMg ⟨f, fr, st, 7, 9, s⟩) rfl rfl rfl rfl HM26.out infoM rfl (cellsMg_one _) ?_; intro w262 ht hg; replace HC26 := Lib.hid (below_of_grown1 HC26.out hg HC26.out.size (by omega)); replace HX26 := Lib.hid (HX26.out.kept hg (by omega)); replace HM26 := Lib.hid ht; have hb := HC26.out; replace HP0 := Lib.hid (HP0.out.later hb); replace HQ := Lib.hid (HQ.out.later hb); replace HLX := Lib.hid (RowX.below HLX.out hb); replace HVX := Lib.hid (RowX.below HVX.out hb); replace HLF2 := Lib.hid (RowX.below HLF2.out hb); replace HRB := Lib.hid (RowP.below HRB.out hb); replace HB := Lib.hid (HB.out.trans (hb.mono HB.out.size)); replace HR26 := Lib.hid (RowP.below HR26.out hb); have hx26 := HX26.out.cell 0 (.slice A26 1 k26) rfl; have m0 := HM26.out.cell 0 (.int .u32 (f.toNat : Int)) rfl; have m1 := HM26.out.cell 1 (.bool fr) rfl; have m2 := HM26.out.cell 2 (.int .u16 (st.toNat : Int)) rfl; have m3 := HM26.out.cell 3 (.int .u16 7) rfl; have m4 := HM26.out.cell 4 (.int .u32 9) rfl; have m5 := HM26.out.cell 5 (.string s) rfl; clear ht hg hb)
                    | ((with_reducible refine gate9 ?_); refine ldB (ty := 32) (cs := #[.slice A26 1 k26]) rfl rfl rfl HX26.out Try.underlying32 rfl infoB ?_)
                    | (go_at_call 14; (with_reducible refine (HPU2.out _ _ HR26.out).mono ?_); (rintro e w29 ⟨A29, k29, rfl, hr, hf, hb⟩; have hwg29 : w.heap.size ≤ w29.heap.size := (by have h8 := HB.out.size; have h9 := hb.size; omega); have HR29 := Lib.hid hr; have HF29 := Lib.hid hf; replace HP0 := Lib.hid (HP0.out.later hb); replace HQ := Lib.hid (HQ.out.later hb); replace HLX := Lib.hid (RowX.below HLX.out hb); replace HVX := Lib.hid (RowX.below HVX.out hb); replace HLF2 := Lib.hid (RowX.below HLF2.out hb); replace HX26 := Lib.hid (HX26.out.later hb); replace HM26 := Lib.hid (HM26.out.later hb); replace HR26 := Lib.hid (RowP.below HR26.out hb); replace HB := Lib.hid (HB.out.trans (hb.mono HB.out.size)); clear hr hf hb; obtain ⟨W29, hW29, HX29, HM29, HC29, hs29⟩ := two_open w29 32 39 #[.slice none 0 0] #[.int .u32 0, .bool false, .int .u16 0, .int .u16 0, .int .u32 0, .string ⟨#[]⟩]; obtain ⟨g29, hg29⟩ : ∃ g, w29.heap.size = g := ⟨_, rfl⟩; rw [hg29] at HX29 HM29 hwg29))
                    | ((with_reducible refine gate9 ?_); refine stB (ty := 32) #[.slice A29 Y2.length k29] rfl rfl rfl rfl HX29.out infoB rfl (cellsB_one _ _ _) ?_; intro w291 ht hg; replace HC29 := Lib.hid (below_of_grown1 HC29.out hg HC29.out.size (Nat.le_of_eq hg29)); replace HM29 := Lib.hid (HM29.out.kept hg (by omega)); replace HX29 := Lib.hid ht; clear ht hg)
                    | ((with_reducible refine gate9 ?_); refine stB (ty := 39) (cellsMg m2) rfl rfl rfl rfl HM29.out infoM rfl (cellsMg_one _) ?_; intro w292 ht hg; replace HC29 := Lib.hid (below_of_grown1 HC29.out hg HC29.out.size (by omega)); replace HX29 := Lib.hid (HX29.out.kept hg (by omega)); replace HM29 := Lib.hid ht; have hb := HC29.out; replace HP0 := Lib.hid (HP0.out.later hb); replace HQ := Lib.hid (HQ.out.later hb); replace HLX := Lib.hid (RowX.below HLX.out hb); replace HVX := Lib.hid (RowX.below HVX.out hb); replace HLF2 := Lib.hid (RowX.below HLF2.out hb); replace HX26 := Lib.hid (HX26.out.later hb); replace HM26 := Lib.hid (HM26.out.later hb); replace HR26 := Lib.hid (RowP.below HR26.out hb); replace HB := Lib.hid (HB.out.trans (hb.mono HB.out.size)); replace HR29 := Lib.hid (RowP.below HR29.out hb); have hx29 := HX29.out.cell 0 (.slice A29 Y2.length k29) rfl; have hx26 := HX26.out.cell 0 (.slice A26 1 k26) rfl; clear ht hg hb)
                    | ((with_reducible refine gate9 ?_); refine ldB (ty := 32) (cs := #[.slice A29 Y2.length k29]) rfl rfl rfl HX29.out Try.underlying32 rfl infoB ?_)
                    | ((with_reducible refine gate9 ?_); refine stB (ty := 32) #[.slice A26 1 k26] rfl rfl rfl rfl HQ.out infoB rfl (cellsB_one _ _ _) ?_; intro w31 ht hg; replace HR26 := Lib.hid (RowP.stays HR26.out HF26.out hg (Nat.lt_succ_self _)); replace HLX := Lib.hid (RowX.kept HLX.out hg); replace HVX := Lib.hid (RowX.kept HVX.out hg); replace HLF2 := Lib.hid (RowX.kept HLF2.out hg); replace HB := Lib.hid (below_of_grown1 HB.out hg HB.out.size hwg); replace HQ := Lib.hid ht; clear ht hg))
                  go_roundw
                  case rel => exact ⟨[], d, A8, c8, i + 1, by rfl, by go_num, Lib.hid (by have := HIL.out; have := HNL.out; simp only [List.length_nil]; omega), Lib.hid (by have h := HLF2.out; rw [HL0.out] at h; exact h), Lib.hid (fun h => absurd h (by decide)), HLX, HVX, HQ.out.lt, HB⟩
                  case measure => (show 0 < nl; omega)
                · have hP1 := HK.out.wait HFA.out HFR.out HT0.out hkl (by rw [HNL.out]; omega)
                  rw [hnk, HPX.out] at hP1
                  obtain ⟨hP1, hbk2, hP2⟩ := hP1
                  rw [HKX.out] at hbk2
                  have HK2 := Lib.hid hbk2
                  have hbb2 := hbk2.bytes (other_len f fr st) (fun i hi => (HTX.out i hi).2)
                  have hok2 := hbk2.ok
                  have HPU1 := Lib.hid (fun V W h => put_anyE _ (by rw [hbb.2]; simp only [List.length_singleton]; omega) hok x (by have h1 := hbb.1; have h2 := HTN.2; simp only [List.length_singleton] at h1; omega) V W h)
                  rw [hP1] at HPU1
                  have HPU2 := Lib.hid (fun V W h => put_anyE _ (by rw [hbb2.2]; simp only [List.length_singleton, List.length_append]; omega) hok2 x (by have h1 := hbb2.1; have h2 := HTN.2; simp only [List.length_singleton, List.length_append] at h1; omega) V W h)
                  rw [hP2] at HPU2
                  have h11 : ((n8 : Int) == 0) = false := by rw [beq_eq_false_iff_ne]; omega
                  have HN9 : Hid (0 < n8) := Lib.hid (by omega)
                  have hBL := hbb.2
                  have hYL := hbb2.2
                  have HLE : Hid ((left.take k ++ left.drop kx).length = n8) := Lib.hid (by rw [← HKX.out, len_erase hkl, HNL.out]; omega)
                  clear hP1 hP2 hbk2 hbb hbb2 hok hok2 HTN h8 hkN hdl hkl hnk hnl hl1
                  generalize hBg : [otherP f fr st] ++ d.map (pcOf L f fr st 7 9) = Bg at *
                  generalize hY : [otherP f fr st] ++ (d ++ [n]).map (pcOf L f fr st 7 9) = Y at *
                  clear hBg
                  have HY := Lib.hid hY
                  clear hY hBL hYL
                  go_upto_region 25 with (first
                    | ((with_reducible refine gate9 ?_); refine stB (ty := 43) #[.int .u32 (tx.toNat : Int), .bool bx, .bool ex, .bool fr, .int .u16 (st.toNat : Int), .int .u16 7, .int .u32 9, .string t] rfl rfl rfl rfl HP0.out infoP rfl (by rw [HPC.out]; exact cellsPc_one _) ?_; rw [HPC.out]; intro w25 ht hg; replace HB24 := Lib.hid (below_of_grown1 HB24.out hg HB24.out.size (Nat.le_of_eq hg24)); replace HP0 := Lib.hid ht; have hb := HB24.out; replace HQ := Lib.hid (HQ.out.later hb); replace HRB := Lib.hid (RowP.below HRB.out hb); replace HLX := Lib.hid (RowX.below HLX.out hb); replace HVX := Lib.hid (RowX.below HVX.out hb); replace HLF2 := Lib.hid (RowX.below HLF2.out hb); replace HB := Lib.hid (HB.out.trans (hb.mono HB.out.size)); clear ht hg hb HB24))
                  go_upto_region 26 with (first
                    | ((with_reducible refine gate9 ?_); refine stB (ty := 43) #[.int .u32 (tx.toNat : Int), .bool bx, .bool ex, .bool fr, .int .u16 (st.toNat : Int), .int .u16 7, .int .u32 9, .string t] rfl rfl rfl rfl HP0.out infoP rfl (by rw [HPC.out]; exact cellsPc_one _) ?_; rw [HPC.out]; intro w25 ht hg; replace HB24 := Lib.hid (below_of_grown1 HB24.out hg HB24.out.size (Nat.le_of_eq hg24)); replace HP0 := Lib.hid ht; have hb := HB24.out; replace HQ := Lib.hid (HQ.out.later hb); replace HRB := Lib.hid (RowP.below HRB.out hb); replace HLX := Lib.hid (RowX.below HLX.out hb); replace HVX := Lib.hid (RowX.below HVX.out hb); replace HLF2 := Lib.hid (RowX.below HLF2.out hb); replace HB := Lib.hid (HB.out.trans (hb.mono HB.out.size)); clear ht hg hb HB24)
                    | ((with_reducible refine gate9 ?_); refine ldB (ty := 43) rfl rfl rfl HP0.out Try.underlying43 rfl infoP ?_)
                    | ((with_reducible refine gate9 ?_); refine ldB (ty := 32) (cs := #[.slice A1 Bg.length k1]) rfl rfl rfl HQ.out Try.underlying32 rfl infoB ?_)
                    | (go_at_call 14; (with_reducible refine (HPU1.out _ _ HRB.out).mono ?_); (rintro e w26 ⟨A26, k26, rfl, hr, hf, hb⟩; have hwg26 : w.heap.size ≤ w26.heap.size := (by have h8 := HB.out.size; have h9 := hb.size; omega); have HR26 := Lib.hid hr; have HF26 := Lib.hid (hf.less (show g10 + 1 ≤ _ by (have h9 := HQ.out.lt; omega))); replace HP0 := Lib.hid (HP0.out.later hb); replace HQ := Lib.hid (HQ.out.later hb); replace HLX := Lib.hid (RowX.below HLX.out hb); replace HVX := Lib.hid (RowX.below HVX.out hb); replace HLF2 := Lib.hid (RowX.below HLF2.out hb); replace HRB := Lib.hid (RowP.below HRB.out hb); replace HB := Lib.hid (HB.out.trans (hb.mono HB.out.size)); clear hr hf hb; obtain ⟨W26, hW26, HX26, HM26, HC26, hs26⟩ := two_open w26 32 39 #[.slice none 0 0] #[.int .u32 0, .bool false, .int .u16 0, .int .u16 0, .int .u32 0, .string ⟨#[]⟩]; obtain ⟨g26, hg26⟩ : ∃ g, w26.heap.size = g := ⟨_, rfl⟩; rw [hg26] at HX26 HM26 hwg26))
                    | ((with_reducible refine gate9 ?_); refine stB (ty := 32) #[.slice A26 Y.length k26] rfl rfl rfl rfl HX26.out infoB rfl (cellsB_one _ _ _) ?_; intro w261 ht hg; replace HC26 := Lib.hid (below_of_grown1 HC26.out hg HC26.out.size (Nat.le_of_eq hg26)); replace HM26 := Lib.hid (HM26.out.kept hg (by omega)); replace HX26 := Lib.hid ht; clear ht hg)
                    | ((with_reducible refine gate9 ?_); refine stB (ty := 39) (cellsMg zeroMg) rfl rfl rfl rfl HM26.out infoM rfl (cellsMg_one _) ?_; intro w262 ht hg; replace HC26 := Lib.hid (below_of_grown1 HC26.out hg HC26.out.size (by omega)); replace HX26 := Lib.hid (HX26.out.kept hg (by omega)); replace HM26 := Lib.hid ht; have hb := HC26.out; replace HP0 := Lib.hid (HP0.out.later hb); replace HQ := Lib.hid (HQ.out.later hb); replace HLX := Lib.hid (RowX.below HLX.out hb); replace HVX := Lib.hid (RowX.below HVX.out hb); replace HLF2 := Lib.hid (RowX.below HLF2.out hb); replace HRB := Lib.hid (RowP.below HRB.out hb); replace HB := Lib.hid (HB.out.trans (hb.mono HB.out.size)); replace HR26 := Lib.hid (RowP.below HR26.out hb); have hx26 := HX26.out.cell 0 (.slice A26 Y.length k26) rfl; clear ht hg hb)
                    | ((with_reducible refine gate9 ?_); refine ldB (ty := 32) (cs := #[.slice A26 Y.length k26]) rfl rfl rfl HX26.out Try.underlying32 rfl infoB ?_)
                    | (go_at_call 14; (with_reducible refine (HPU2.out _ _ HR26.out).mono ?_); (rintro e w29 ⟨A29, k29, rfl, hr, hf, hb⟩; have hwg29 : w.heap.size ≤ w29.heap.size := (by have h8 := HB.out.size; have h9 := hb.size; omega); have HR29 := Lib.hid hr; have HF29 := Lib.hid hf; replace HP0 := Lib.hid (HP0.out.later hb); replace HQ := Lib.hid (HQ.out.later hb); replace HLX := Lib.hid (RowX.below HLX.out hb); replace HVX := Lib.hid (RowX.below HVX.out hb); replace HLF2 := Lib.hid (RowX.below HLF2.out hb); replace HX26 := Lib.hid (HX26.out.later hb); replace HM26 := Lib.hid (HM26.out.later hb); replace HR26 := Lib.hid (RowP.below HR26.out hb); replace HB := Lib.hid (HB.out.trans (hb.mono HB.out.size)); clear hr hf hb; obtain ⟨W29, hW29, HX29, HM29, HC29, hs29⟩ := two_open w29 32 39 #[.slice none 0 0] #[.int .u32 0, .bool false, .int .u16 0, .int .u16 0, .int .u32 0, .string ⟨#[]⟩]; obtain ⟨g29, hg29⟩ : ∃ g, w29.heap.size = g := ⟨_, rfl⟩; rw [hg29] at HX29 HM29 hwg29))
                    | ((with_reducible refine gate9 ?_); refine stB (ty := 32) #[.slice A29 Y.length k29] rfl rfl rfl rfl HX29.out infoB rfl (cellsB_one _ _ _) ?_; intro w291 ht hg; replace HC29 := Lib.hid (below_of_grown1 HC29.out hg HC29.out.size (Nat.le_of_eq hg29)); replace HM29 := Lib.hid (HM29.out.kept hg (by omega)); replace HX29 := Lib.hid ht; clear ht hg)
                    | ((with_reducible refine gate9 ?_); refine stB (ty := 39) (cellsMg zeroMg) rfl rfl rfl rfl HM29.out infoM rfl (cellsMg_one _) ?_; intro w292 ht hg; replace HC29 := Lib.hid (below_of_grown1 HC29.out hg HC29.out.size (by omega)); replace HX29 := Lib.hid (HX29.out.kept hg (by omega)); replace HM29 := Lib.hid ht; have hb := HC29.out; replace HP0 := Lib.hid (HP0.out.later hb); replace HQ := Lib.hid (HQ.out.later hb); replace HLX := Lib.hid (RowX.below HLX.out hb); replace HVX := Lib.hid (RowX.below HVX.out hb); replace HLF2 := Lib.hid (RowX.below HLF2.out hb); replace HX26 := Lib.hid (HX26.out.later hb); replace HM26 := Lib.hid (HM26.out.later hb); replace HR26 := Lib.hid (RowP.below HR26.out hb); replace HB := Lib.hid (HB.out.trans (hb.mono HB.out.size)); replace HR29 := Lib.hid (RowP.below HR29.out hb); have hx29 := HX29.out.cell 0 (.slice A29 Y.length k29) rfl; have hx26 := HX26.out.cell 0 (.slice A26 Y.length k26) rfl; clear ht hg hb)
                    | ((with_reducible refine gate9 ?_); refine ldB (ty := 32) (cs := #[.slice A29 Y.length k29]) rfl rfl rfl HX29.out Try.underlying32 rfl infoB ?_)
                    | ((with_reducible refine gate9 ?_); refine stB (ty := 32) #[.slice A26 Y.length k26] rfl rfl rfl rfl HQ.out infoB rfl (cellsB_one _ _ _) ?_; intro w31 ht hg; replace HR26 := Lib.hid (RowP.stays HR26.out HF26.out hg (Nat.lt_succ_self _)); replace HLX := Lib.hid (RowX.kept HLX.out hg); replace HVX := Lib.hid (RowX.kept HVX.out hg); replace HLF2 := Lib.hid (RowX.kept HLF2.out hg); replace HB := Lib.hid (below_of_grown1 HB.out hg HB.out.size hwg); replace HQ := Lib.hid ht; clear ht hg))
                  go_upto_region 28 with fail
                  go_wp2_with (first
                    | ((with_reducible refine gate9 ?_); refine stB (ty := 43) #[.int .u32 (tx.toNat : Int), .bool bx, .bool ex, .bool fr, .int .u16 (st.toNat : Int), .int .u16 7, .int .u32 9, .string t] rfl rfl rfl rfl HP0.out infoP rfl (by rw [HPC.out]; exact cellsPc_one _) ?_; rw [HPC.out]; intro w25 ht hg; replace HB24 := Lib.hid (below_of_grown1 HB24.out hg HB24.out.size (Nat.le_of_eq hg24)); replace HP0 := Lib.hid ht; have hb := HB24.out; replace HQ := Lib.hid (HQ.out.later hb); replace HRB := Lib.hid (RowP.below HRB.out hb); replace HLX := Lib.hid (RowX.below HLX.out hb); replace HVX := Lib.hid (RowX.below HVX.out hb); replace HLF2 := Lib.hid (RowX.below HLF2.out hb); replace HB := Lib.hid (HB.out.trans (hb.mono HB.out.size)); clear ht hg hb HB24)
                    | ((with_reducible refine gate9 ?_); refine ldB (ty := 43) rfl rfl rfl HP0.out Try.underlying43 rfl infoP ?_)
                    | ((with_reducible refine gate9 ?_); refine ldB (ty := 32) (cs := #[.slice A1 Bg.length k1]) rfl rfl rfl HQ.out Try.underlying32 rfl infoB ?_)
                    | (go_at_call 14; (with_reducible refine (HPU1.out _ _ HRB.out).mono ?_); (rintro e w26 ⟨A26, k26, rfl, hr, hf, hb⟩; have hwg26 : w.heap.size ≤ w26.heap.size := (by have h8 := HB.out.size; have h9 := hb.size; omega); have HR26 := Lib.hid hr; have HF26 := Lib.hid (hf.less (show g10 + 1 ≤ _ by (have h9 := HQ.out.lt; omega))); replace HP0 := Lib.hid (HP0.out.later hb); replace HQ := Lib.hid (HQ.out.later hb); replace HLX := Lib.hid (RowX.below HLX.out hb); replace HVX := Lib.hid (RowX.below HVX.out hb); replace HLF2 := Lib.hid (RowX.below HLF2.out hb); replace HRB := Lib.hid (RowP.below HRB.out hb); replace HB := Lib.hid (HB.out.trans (hb.mono HB.out.size)); clear hr hf hb; obtain ⟨W26, hW26, HX26, HM26, HC26, hs26⟩ := two_open w26 32 39 #[.slice none 0 0] #[.int .u32 0, .bool false, .int .u16 0, .int .u16 0, .int .u32 0, .string ⟨#[]⟩]; obtain ⟨g26, hg26⟩ : ∃ g, w26.heap.size = g := ⟨_, rfl⟩; rw [hg26] at HX26 HM26 hwg26))
                    | ((with_reducible refine gate9 ?_); refine stB (ty := 32) #[.slice A26 Y.length k26] rfl rfl rfl rfl HX26.out infoB rfl (cellsB_one _ _ _) ?_; intro w261 ht hg; replace HC26 := Lib.hid (below_of_grown1 HC26.out hg HC26.out.size (Nat.le_of_eq hg26)); replace HM26 := Lib.hid (HM26.out.kept hg (by omega)); replace HX26 := Lib.hid ht; clear ht hg)
                    | ((with_reducible refine gate9 ?_); refine stB (ty := 39) (cellsMg zeroMg) rfl rfl rfl rfl HM26.out infoM rfl (cellsMg_one _) ?_; intro w262 ht hg; replace HC26 := Lib.hid (below_of_grown1 HC26.out hg HC26.out.size (by omega)); replace HX26 := Lib.hid (HX26.out.kept hg (by omega)); replace HM26 := Lib.hid ht; have hb := HC26.out; replace HP0 := Lib.hid (HP0.out.later hb); replace HQ := Lib.hid (HQ.out.later hb); replace HLX := Lib.hid (RowX.below HLX.out hb); replace HVX := Lib.hid (RowX.below HVX.out hb); replace HLF2 := Lib.hid (RowX.below HLF2.out hb); replace HRB := Lib.hid (RowP.below HRB.out hb); replace HB := Lib.hid (HB.out.trans (hb.mono HB.out.size)); replace HR26 := Lib.hid (RowP.below HR26.out hb); have hx26 := HX26.out.cell 0 (.slice A26 Y.length k26) rfl; clear ht hg hb)
                    | ((with_reducible refine gate9 ?_); refine ldB (ty := 32) (cs := #[.slice A26 Y.length k26]) rfl rfl rfl HX26.out Try.underlying32 rfl infoB ?_)
                    | (go_at_call 14; (with_reducible refine (HPU2.out _ _ HR26.out).mono ?_); (rintro e w29 ⟨A29, k29, rfl, hr, hf, hb⟩; have hwg29 : w.heap.size ≤ w29.heap.size := (by have h8 := HB.out.size; have h9 := hb.size; omega); have HR29 := Lib.hid hr; have HF29 := Lib.hid hf; replace HP0 := Lib.hid (HP0.out.later hb); replace HQ := Lib.hid (HQ.out.later hb); replace HLX := Lib.hid (RowX.below HLX.out hb); replace HVX := Lib.hid (RowX.below HVX.out hb); replace HLF2 := Lib.hid (RowX.below HLF2.out hb); replace HX26 := Lib.hid (HX26.out.later hb); replace HM26 := Lib.hid (HM26.out.later hb); replace HR26 := Lib.hid (RowP.below HR26.out hb); replace HB := Lib.hid (HB.out.trans (hb.mono HB.out.size)); clear hr hf hb; obtain ⟨W29, hW29, HX29, HM29, HC29, hs29⟩ := two_open w29 32 39 #[.slice none 0 0] #[.int .u32 0, .bool false, .int .u16 0, .int .u16 0, .int .u32 0, .string ⟨#[]⟩]; obtain ⟨g29, hg29⟩ : ∃ g, w29.heap.size = g := ⟨_, rfl⟩; rw [hg29] at HX29 HM29 hwg29))
                    | ((with_reducible refine gate9 ?_); refine stB (ty := 32) #[.slice A29 Y.length k29] rfl rfl rfl rfl HX29.out infoB rfl (cellsB_one _ _ _) ?_; intro w291 ht hg; replace HC29 := Lib.hid (below_of_grown1 HC29.out hg HC29.out.size (Nat.le_of_eq hg29)); replace HM29 := Lib.hid (HM29.out.kept hg (by omega)); replace HX29 := Lib.hid ht; clear ht hg)
                    | ((with_reducible refine gate9 ?_); refine stB (ty := 39) (cellsMg zeroMg) rfl rfl rfl rfl HM29.out infoM rfl (cellsMg_one _) ?_; intro w292 ht hg; replace HC29 := Lib.hid (below_of_grown1 HC29.out hg HC29.out.size (by omega)); replace HX29 := Lib.hid (HX29.out.kept hg (by omega)); replace HM29 := Lib.hid ht; have hb := HC29.out; replace HP0 := Lib.hid (HP0.out.later hb); replace HQ := Lib.hid (HQ.out.later hb); replace HLX := Lib.hid (RowX.below HLX.out hb); replace HVX := Lib.hid (RowX.below HVX.out hb); replace HLF2 := Lib.hid (RowX.below HLF2.out hb); replace HX26 := Lib.hid (HX26.out.later hb); replace HM26 := Lib.hid (HM26.out.later hb); replace HR26 := Lib.hid (RowP.below HR26.out hb); replace HB := Lib.hid (HB.out.trans (hb.mono HB.out.size)); replace HR29 := Lib.hid (RowP.below HR29.out hb); have hx29 := HX29.out.cell 0 (.slice A29 Y.length k29) rfl; have hx26 := HX26.out.cell 0 (.slice A26 Y.length k26) rfl; clear ht hg hb)
                    | ((with_reducible refine gate9 ?_); refine ldB (ty := 32) (cs := #[.slice A29 Y.length k29]) rfl rfl rfl HX29.out Try.underlying32 rfl infoB ?_)
                    | ((with_reducible refine gate9 ?_); refine stB (ty := 32) #[.slice A26 Y.length k26] rfl rfl rfl rfl HQ.out infoB rfl (cellsB_one _ _ _) ?_; intro w31 ht hg; replace HR26 := Lib.hid (RowP.stays HR26.out HF26.out hg (Nat.lt_succ_self _)); replace HLX := Lib.hid (RowX.kept HLX.out hg); replace HVX := Lib.hid (RowX.kept HVX.out hg); replace HLF2 := Lib.hid (RowX.kept HLF2.out hg); replace HB := Lib.hid (below_of_grown1 HB.out hg HB.out.size hwg); replace HQ := Lib.hid ht; clear ht hg))
                  go_roundw
                  case rel => exact ⟨left.take k ++ left.drop kx, d ++ [n], A8, c8, i + 1, by rw [HLE.out], by go_num, Lib.hid (by have := HIL.out; have := HNL.out; have := HN8.out; rw [HLE.out]; omega), by rw [HLE.out]; exact HLF2, Lib.hid (fun _ => ⟨HK2.out, A26, k26, by rw [HY.out]; exact HQ.out, by rw [HY.out]; exact HR26.out⟩), HLX, HVX, HQ.out.lt, HB⟩
                  case measure => (show n8 < nl; have := HN8.out; omega)
            · obtain rfl : nl = 0 := by omega
              go_wp2_with fail
              go_ret
              exact ⟨rfl, HB.out⟩

set_option maxRecDepth 100000 in
theorem lifted (os : Os) (started : os.Started) (H : Type) (enc : TypeId × Value → H) :
    ReturnsInHanded {} Try.checked os 5 .any (Rows.fragBackSpec.pre6 enc Try.prog Try.f5 Rows.fragBackRow.domain false) (Rows.fragBackSpec.post enc Try.prog Try.f5 false true false false) := by
  refine returnsInHanded_of_change_sized (C := Try.checked) own started (by kernel_rfl) Try.func5
    (ChangeSpec.witness6 (enc := enc) (C := Try.checked) false ⟨#[], #[.string ⟨#[]⟩, .int .i64 0, .int .u32 0, .int .u16 0, .bool false, .slice none 0 0], []⟩ 8 (by kernel_rfl) (by kernel_rfl) (by kernel_rfl) (by kernel_rfl)) ?_
  intro W base args ds gs before hval0 hW _ hreach _
  have hval : ∀ (j : Nat) t v, Try.f5.params[j]? = some t → args[j]? = some v → Value.okWide Try.prog W .any base t v := hval0
  obtain ⟨p, q, hA0, _, _, _, _⟩ := id hW
  have hA : DataW.TrodAll enc Try.prog W 0 (fun _ => true) true Try.f5.params.toList args.toList ds p := hA0
  rw [Try.params5] at hA hval
  obtain ⟨v0, vs0, d0, ds0, p0, q0, hargs, rfl, rfl, h0, r0⟩ := trodAll_cons hA
  obtain ⟨v1, vs1, d1, ds1, p1, q1, rfl, rfl, rfl, h1, r1⟩ := trodAll_cons r0
  obtain ⟨v2, vs2, d2, ds2, p2, q2, rfl, rfl, rfl, h2, r2⟩ := trodAll_cons r1
  obtain ⟨v3, vs3, d3, ds3, p3, q3, rfl, rfl, rfl, h3, r3⟩ := trodAll_cons r2
  obtain ⟨v4, vs4, d4, ds4, p4, q4, rfl, rfl, rfl, h4, r4⟩ := trodAll_cons r3
  obtain ⟨v5, vs5, d5, ds5, p5, q5, rfl, rfl, rfl, h5, r5⟩ := trodAll_cons r4
  obtain ⟨rfl, rfl, rfl⟩ := trodAll_nil r5
  obtain rfl : args = #[v0, v1, v2, v3, v4, v5] := by cases args; simp_all
  obtain ⟨a0, rfl, rfl, rfl, w0⟩ := Go.ChangeMaps.open_string Try.underlying9 (hval 0 9 v0 rfl rfl) h0
  obtain ⟨a1, rfl, rfl, rfl, w1⟩ := open_int Try.underlying3 (hval 1 3 v1 rfl rfl) h1
  obtain ⟨a2, rfl, rfl, rfl, w2⟩ := open_int Try.underlying36 (hval 2 36 v2 rfl rfl) h2
  have b2 := bounds_u32 w2
  obtain ⟨n2, rfl⟩ := num32 (n := a2) (by omega) (by omega)
  obtain ⟨a3, rfl, rfl, rfl, w3⟩ := open_int Try.underlying37 (hval 3 37 v3 rfl rfl) h3
  obtain ⟨n3, rfl⟩ := num16 (n := a3) (bounds_u16 w3).1 (bounds_u16 w3).2
  obtain ⟨a4, rfl, rfl, rfl⟩ := open_bool Try.underlying4 (hval 4 4 v4 rfl rfl) h4
  obtain ⟨l5, w5, m5⟩ := ints_in (hval 5 56 v5 rfl rfl) h5
  refine (walk a0 a1 n2 n3 a4 l5 v5 W w5 m5 (bounds_i64 w1)).mono fun e W' ⟨he, hg⟩ => ?_
  subst he
  exact ⟨_, rfl, law_post laidOut Try.underlying4 (by kernel_rfl) (by kernel_rfl) rfl hW (by simp [Rows.fragBackSpec]) hg⟩

theorem proved : Rows.FragBackSaid :=
  OpenClaim.holds_of_wide 5 Try.f5 rfl rfl rfl rfl rfl rfl rfl ⟨rfl, rfl, rfl, rfl, rfl⟩ rfl rfl rfl rfl rfl (by kernel_rfl) Try.func5 (by kernel_rfl)
    (of_decide_eq_true (by kernel_rfl)) (by unfold Func.isWrapper; first | (rw [if_pos (by decide +kernel)]; kernel_rfl) | (rw [if_neg (by decide +kernel)]; exact ⟨rfl, rfl⟩))
    (fun os started H enc _ => lifted os started H enc)
#print axioms proved
end Go.Proofs.Ytgngdgiipifacaa.fragBack
