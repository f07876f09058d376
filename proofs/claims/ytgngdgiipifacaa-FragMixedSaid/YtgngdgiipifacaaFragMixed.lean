/-
  Two messages whose pieces come mixed are both whole, each with its last piece, as they were: any two texts, any number, any first number, any order.
-/
import Derived.Test.YtgngdgiipifacaaLift
import Derived.Test.YtgngdgiipifacaaTb
import Derived.Test.YtgngdgiipifacaaSm
import Derived.Deep.CutBlock
import Derived.Deep.CutRange
import Derived.Deep.Cut
namespace Go.Proofs.Ytgngdgiipifacaa.fragMixed
open Go.ChangeShapes Go.WideShapes Go.ChangeAt Go.RowKit
set_option linter.unusedVariables false
set_option linter.unusedSimpArgs false
set_option maxRecDepth 100000

set_option maxHeartbeats 16000000 in
theorem walk (s t : ByteArray) (mo : Int) (f : UInt32) (od : List Int) (vo : Value) (w : World) (h : RowE encI w vo od) (hod : ∀ n ∈ od, -9223372036854775808 ≤ n ∧ n ≤ 9223372036854775807) (hmo : -9223372036854775808 ≤ mo ∧ mo ≤ 9223372036854775807) :
    Calls Try.prog 7 #[.string s, .string t, .int .i64 mo, .int .u32 (f.toNat : Int), vo] w fun e w' => e = .returned (.bool true) ∧ Below w.heap.size w w' := by
  have HSH := Lib.hid shown_any
  have HV := Lib.hid h
  have HV0 := Lib.hid h
  have HB := Lib.hid (Below.refl w.heap.size w)
  obtain ⟨A0, cap0, rfl, _, hmx0, _⟩ := id h
  have hmxI : (od.length : Int) ≤ 9223372036854775807 := by unfold maxLen at hmx0; omega
  clear h
  by_cases h0 : s.size = 0
  · have q0 : ((s.size : Int) == 0) = true := by rw [h0]; rfl
    go_enter Try.func7, Try.ntmps7
    go_wp2_with (go_at_call 9; (with_reducible refine (HSH.out _).mono ?_); rintro e w1 ⟨rfl, hb⟩; replace HV := Lib.hid (RowE.below HV.out hb); replace HB := Lib.hid (HB.out.trans (hb.mono HB.out.size)); clear hb)
    go_ret
    exact ⟨rfl, HB.out⟩
  have q0 : ((s.size : Int) == 0) = false := by rw [beq_eq_false_iff_ne]; omega
  have q0' : s.size ≠ 0 := h0
  by_cases h1 : t.size = 0
  · have q1 : ((t.size : Int) == 0) = true := by rw [h1]; rfl
    go_enter Try.func7, Try.ntmps7
    go_wp2_with (go_at_call 9; (with_reducible refine (HSH.out _).mono ?_); rintro e w1 ⟨rfl, hb⟩; replace HV := Lib.hid (RowE.below HV.out hb); replace HB := Lib.hid (HB.out.trans (hb.mono HB.out.size)); clear hb)
    go_ret
    exact ⟨rfl, HB.out⟩
  have q1 : ((t.size : Int) == 0) = false := by rw [beq_eq_false_iff_ne]; omega
  have q1' : t.size ≠ 0 := h1
  by_cases h2 : 600 < s.size
  · have q2 : (600 : Int) < (s.size : Int) := by omega
    go_enter Try.func7, Try.ntmps7
    go_wp2_with (go_at_call 9; (with_reducible refine (HSH.out _).mono ?_); rintro e w1 ⟨rfl, hb⟩; replace HV := Lib.hid (RowE.below HV.out hb); replace HB := Lib.hid (HB.out.trans (hb.mono HB.out.size)); clear hb)
    go_ret
    exact ⟨rfl, HB.out⟩
  have q2 : ¬ (600 : Int) < (s.size : Int) := by omega
  by_cases h3 : 600 < t.size
  · have q3 : (600 : Int) < (t.size : Int) := by omega
    go_enter Try.func7, Try.ntmps7
    go_wp2_with (go_at_call 9; (with_reducible refine (HSH.out _).mono ?_); rintro e w1 ⟨rfl, hb⟩; replace HV := Lib.hid (RowE.below HV.out hb); replace HB := Lib.hid (HB.out.trans (hb.mono HB.out.size)); clear hb)
    go_ret
    exact ⟨rfl, HB.out⟩
  have q3 : ¬ (600 : Int) < (t.size : Int) := by omega
  by_cases h4 : 200 < od.length
  · have q4 : (200 : Int) < (od.length : Int) := by omega
    go_enter Try.func7, Try.ntmps7
    go_wp2_with (go_at_call 9; (with_reducible refine (HSH.out _).mono ?_); rintro e w1 ⟨rfl, hb⟩; replace HV := Lib.hid (RowE.below HV.out hb); replace HB := Lib.hid (HB.out.trans (hb.mono HB.out.size)); clear hb)
    go_ret
    exact ⟨rfl, HB.out⟩
  have q4 : ¬ (200 : Int) < (od.length : Int) := by omega
  obtain ⟨bad, hbad⟩ : ∃ b, (decide (mo < 1) || decide (1000 < mo) || decide (60 < Int.tdiv ((s.size : Int) + (t.size : Int)) mo)) = b := ⟨_, rfl⟩
  obtain ⟨M, hM, hM1, hM2, hM3⟩ : ∃ M : Nat, (if bad then (600 : Int) else mo) = (M : Int) ∧ 1 ≤ M ∧ M ≤ 1000 ∧ s.size / M + t.size / M ≤ 60 := by
    subst hbad
    by_cases c1 : mo < 1
    · exact ⟨600, by simp [c1], by omega, by omega, by omega⟩
    · by_cases c2 : 1000 < mo
      · exact ⟨600, by simp [c2], by omega, by omega, by omega⟩
      · obtain ⟨k, rfl⟩ : ∃ k : Nat, mo = (k : Int) := ⟨mo.toNat, by omega⟩
        by_cases c3 : 60 < Int.tdiv ((s.size : Int) + (t.size : Int)) (k : Int)
        · exact ⟨600, by rw [decide_eq_true c3, Bool.or_true, if_pos rfl]; rfl, by omega, by omega, by omega⟩
        · refine ⟨k, by rw [decide_eq_false c1, decide_eq_false c2, decide_eq_false c3]; rfl, by omega, by omega, ?_⟩
          rw [Int.tdiv_eq_ediv_of_nonneg (by omega)] at c3
          have h5 : (((s.size + t.size) / k : Nat) : Int) = ((s.size : Int) + (t.size : Int)) / (k : Int) := by rw [Int.natCast_ediv, Int.natCast_add]
          have h6 : s.size / k + t.size / k ≤ (s.size + t.size) / k := by
            rw [Nat.le_div_iff_mul_le (by omega), Nat.add_mul]
            have := Nat.div_mul_le_self s.size k
            have := Nat.div_mul_le_self t.size k
            omega
          omega
  obtain ⟨LA, hLA⟩ : ∃ L, cutL s M = L := ⟨_, rfl⟩
  obtain ⟨LB, hLB⟩ : ∃ L, cutL t M = L := ⟨_, rfl⟩
  have hc0 := cut_pos (m := M) (by omega) s
  have hc1 := cut_len (m := M) (by omega) s
  have hc2 := cut_each (m := M) (by omega) s (by omega)
  have hc3 := cut_cat (m := M) (by omega) s
  have hd0 := cut_pos (m := M) (by omega) t
  have hd1 := cut_len (m := M) (by omega) t
  have hd2 := cut_each (m := M) (by omega) t (by omega)
  have hd3 := cut_cat (m := M) (by omega) t
  have HCU1 := Lib.hid (fun W => cut_good s M (by omega) (by omega) hM1 hM2 W)
  have HCU2 := Lib.hid (fun W => cut_good t M (by omega) (by omega) hM1 hM2 W)
  rw [hLA] at hc0 hc1 hc2 hc3 HCU1
  rw [hLB] at hd0 hd1 hd2 hd3 HCU2
  have hab : LA.length + LB.length ≤ 62 := by omega
  have HTW := Lib.hid (two_of LA LB f hM2 hc0 hd0 (by omega) hc2 hd2)
  have HMA : Hid (joinM ((List.range LA.length).map (pcOf LA f false 1 0 0)) = ⟨f, false, 1, 0, 0, s⟩) := Lib.hid (by rw [msg_of LA f false 1 0 0 hc0 (by omega), hc3])
  have HMBB : Hid (joinM ((List.range LB.length).map (pcOf LB (f + UInt32.ofNat LA.length) false 1 1 0)) = ⟨f + UInt32.ofNat LA.length, false, 1, 1, 0, t⟩) := Lib.hid (by rw [msg_of LB _ false 1 1 0 hd0 (by omega), hd3])
  have hLI : (LA.length : Int) ≤ 62 := by omega
  have hLJ : (LB.length : Int) ≤ 62 := by omega
  obtain ⟨i0, hi0, hz0, hz1, hz2⟩ := info_parts infoPZ
  have HI := Lib.hid hi0
  have HZ0 := Lib.hid hz0
  have HZ1 := Lib.hid hz1
  have HZ2 := Lib.hid hz2
  clear hi0 hz0 hz1 hz2
  obtain ⟨iS, hi0, hz0, hz1, hz2⟩ := info_parts infoSTZ
  have HIS := Lib.hid hi0
  have HS0 := Lib.hid hz0
  have HS1 := Lib.hid hz1
  have HS2 := Lib.hid hz2
  have HA0 := Lib.hid hc0
  clear hi0 hz0 hz1 hz2 hc1 hc2 hc3 hLA hc0 hd0 hd1 hd2 hd3 hLB h0 h1 h2 h3 h4
  go_enter Try.func7, Try.ntmps7
  go_upto_region 4 with (go_at_call 9; (with_reducible refine (HSH.out _).mono ?_); rintro e w1 ⟨rfl, hb⟩; replace HV := Lib.hid (RowE.below HV.out hb); replace HB := Lib.hid (HB.out.trans (hb.mono HB.out.size)); clear hb)
  go_cut [70] from 26 (fun v70 wx => v70 = .bool bad ∧ wx = w1)
  case first =>
    by_cases c1 : mo < 1
    · obtain rfl : bad = true := by rw [← hbad, decide_eq_true c1]; rfl
      clear hbad hM
      go_wp2_with fail
      go_meet
      exact ⟨rfl, rfl⟩
    · by_cases c2 : 1000 < mo
      · obtain rfl : bad = true := by rw [← hbad, decide_eq_true c2, Bool.or_true]; rfl
        clear hbad hM
        go_wp2_with fail
        go_meet
        exact ⟨rfl, rfl⟩
      · have n3 : mo ≠ 0 := by omega
        obtain ⟨z, hz⟩ : ∃ z, Int.tdiv ((s.size : Int) + (t.size : Int)) mo = z := ⟨_, rfl⟩
        have hz2 : 0 ≤ z ∧ z ≤ 3000 := by
          rw [← hz, Int.tdiv_eq_ediv_of_nonneg (by omega)]
          exact ⟨Int.ediv_nonneg (by omega) (by omega), Int.le_trans (Int.ediv_le_self _ (by omega)) (by omega)⟩
        have s2 : IntKind.i64.wrap z = z := by rw [IntKind.wrap_i64]; omega
        have s3 : wrap64 z = z := by unfold wrap64; omega
        rw [hz] at hbad
        by_cases c3 : 60 < z
        · obtain rfl : bad = true := by rw [← hbad, decide_eq_true c3, Bool.or_true]
          clear hbad hM
          go_wp2_with fail
          go_meet
          exact ⟨rfl, rfl⟩
        · obtain rfl : bad = false := by rw [← hbad, decide_eq_false c1, decide_eq_false c2, decide_eq_false c3]; rfl
          clear hbad hM
          go_wp2_with fail
          go_meet
          exact ⟨rfl, rfl⟩
  case rest =>
    obtain ⟨rfl, rfl⟩ := hcut
    go_upto_if 70 with fail
    go_cut [2] from 26 (fun v2 wx => v2 = .int .i64 (M : Int) ∧ wx = wc)
    case first =>
      cases bad with
      | true =>
        rw [if_pos rfl] at hM
        go_wp2_with fail
        go_meet
        exact ⟨congrArg (Value.int .i64) hM, rfl⟩
      | false =>
        rw [if_neg (by decide)] at hM
        go_wp2_with fail
        go_meet
        exact ⟨congrArg (Value.int .i64) hM, rfl⟩
    case rest =>
      obtain ⟨rfl, rfl⟩ := hcut
      clear hbad hM q0 q0' q1 q1' q2 q3 q4
      go_wp2_with (first
        | (go_at_call 10; (with_reducible refine (HCU1.out _).mono ?_); rintro e w2 ⟨A2, k2, rfl, hr, hb⟩; have HL2 := Lib.hid hr; replace HV := Lib.hid (RowE.below HV.out hb); replace HB := Lib.hid (HB.out.trans (hb.mono HB.out.size)); clear hr hb)
        | (go_at_call 10; (with_reducible refine (HCU2.out _).mono ?_); rintro e w3 ⟨A3, k3, rfl, hr, hb⟩; have HL3 := Lib.hid hr; replace HV := Lib.hid (RowE.below HV.out hb); replace HL2 := Lib.hid (RowE.below HL2.out hb); replace HB := Lib.hid (HB.out.trans (hb.mono HB.out.size)); clear hr hb))
      have HLAR := HL2
      have HLBR := HL3
      clear HL2 HL3 HSH HCU1 HCU2
      go_loopw [16, 17] (fun v16 v17 wr => ∃ (j : Nat) (A : Option Addr) (c : Nat), j ≤ LA.length ∧ v16 = .slice A j c ∧ v17 = .int .i64 j ∧ Hid (OwnG wr w3.heap.size 43 8 (.slice A j c) j (flatP ([] ++ (List.range j).map (pcOf LA f false 1 0 0)))) ∧ Hid (Below w3.heap.size w3 wr))
        (fun _ v17 _ => LA.length - (intOf v17).toNat)
      case atStart => exact ⟨0, none, 0, Nat.zero_le _, rfl, rfl, Lib.hid (OwnG.nil _ _ _ _), Lib.hid (Below.refl _ _)⟩
      case round =>
        obtain ⟨j, A, c, hj, rfl, rfl, HO, HW⟩ := hrel
        by_cases hlt : j < LA.length
        · skip
          obtain ⟨b2, o2, c2, e9, hb2, -, -, eL0⟩ := HLAR.out.atS hlt
          cases e9
          have eL := (HW.out.cell (p := ⟨b2, o2 + j, none⟩) hb2).trans eL0
          have hws := HW.out.size
          have HPZ : pcOf LA f false 1 0 0 j = ⟨f + UInt32.ofNat j, decide (j = 0), decide (j + 1 = LA.length), false, 1, 0, 0, LA[j]⟩ := by
            unfold pcOf; rw [getElem!_pos LA j hlt]
          clear eL0
          generalize LA[j] = x at *
          obtain ⟨tx, htx⟩ : ∃ x, f + UInt32.ofNat j = x := ⟨_, rfl⟩
          obtain ⟨bx, hbx⟩ : ∃ x, decide (j = 0) = x := ⟨_, rfl⟩
          obtain ⟨ex, hex⟩ : ∃ x, decide (j + 1 = LA.length) = x := ⟨_, rfl⟩
          have u1 : ((f.toNat : Int) + (j : Int)) % 4294967296 = (tx.toNat : Int) := by
            rw [← htx, UInt32.toNat_add, UInt32.toNat_ofNat']
            omega
          have u2 : (j : Int) % 4294967296 = (j : Int) := by omega
          have u3 : IntKind.u32.wrap (j : Int) = (j : Int) := by rw [IntKind.wrap_u32]; omega
          have u4 : ((j : Int) == 0) = bx := by rw [← hbx, Bool.eq_iff_iff, beq_iff_eq, decide_eq_true_iff]; omega
          have u5 : ((j : Int) == (LA.length : Int) - 1) = ex := by rw [← hex, Bool.eq_iff_iff, beq_iff_eq, decide_eq_true_iff]; omega
          have u6 : (0 : Int) ≤ (j : Int) := by omega
          have u7 : (j : Int) < (LA.length : Int) := by omega
          rw [htx, hbx, hex] at HPZ
          have HPC : Hid ([.int .u32 (tx.toNat : Int), .bool bx, .bool ex, .bool false, .int .u16 1, .int .u16 0, .int .u32 0, .string x] = (cellsPc ⟨tx, bx, ex, false, 1, 0, 0, x⟩).toList) := Lib.hid rfl
          have HPX := Lib.hid HPZ
          clear HPZ htx hbx hex
          go_wp2_with (at_builtin; refine wpList_append_fed _ rfl (.tmp 95) (.tmp 112) 29 29 rfl w3.heap.size 43 i0 _ 8 32 Try.underlying29 (.inr ⟨_, Try.underlying29⟩) HI.out HZ0.out HZ1.out HZ2.out rfl _ (j) _ rfl (HO.out.alloc _) _ 1 [.int .u32 (tx.toNat : Int), .bool bx, .bool ex, .bool false, .int .u16 1, .int .u16 0, .int .u32 0, .string x] rfl (Fed.block (heap_alloc_new _ _) rfl (by rw [HPC.out]; exact fun u hu => cells_one hu)) (by unfold maxLen; omega) (by omega) (by rw [World.size_alloc]; omega) ?_; intro v8 w8 hown hgr; replace HW := Lib.hid ((HW.out.alloc (by omega) _).grown hgr (by rw [World.size_alloc]; omega) (fun z hz => by have := (HO.out.lt z hz).1; omega)); obtain ⟨A8, k8, rfl, -, -, -⟩ := id hown.slice; have HO8 := Lib.hid hown; clear hown hgr)
          go_roundw
          case rel => exact ⟨j + 1, A8, k8, by omega, rfl, by go_num, Lib.hid (by rw [flat_next, HPX.out, ← HPC.out]; exact HO8.out), HW⟩
          case measure => simp [intOf]; omega
        · obtain rfl : j = LA.length := by omega
          generalize hwq : wr = wq at *
          clear hwq hj hlt
          go_wp2_with fail
          go_loopw [16, 18] (fun v16 v18 wr => ∃ (j : Nat) (A : Option Addr) (c : Nat), j ≤ LB.length ∧ v16 = .slice A (LA.length + j) c ∧ v18 = .int .i64 j ∧ Hid (OwnG wr w3.heap.size 43 8 (.slice A (LA.length + j) c) (LA.length + j) (flatP ((List.range LA.length).map (pcOf LA f false 1 0 0) ++ (List.range j).map (pcOf LB (f + UInt32.ofNat LA.length) false 1 1 0)))) ∧ Hid (Below w3.heap.size w3 wr))
            (fun _ v18 _ => LB.length - (intOf v18).toNat)
          case atStart => exact ⟨0, A, c, Nat.zero_le _, rfl, rfl, Lib.hid (by rw [List.range_zero, List.map_nil, List.append_nil]; exact HO.out), HW⟩
          case round =>
            clear HO HW
            obtain ⟨j, A, c, hj, rfl, rfl, HO, HW⟩ := hrel
            by_cases hlt : j < LB.length
            · skip
              obtain ⟨b2, o2, c2, e9, hb2, -, -, eL0⟩ := HLBR.out.atS hlt
              cases e9
              have eL := (HW.out.cell (p := ⟨b2, o2 + j, none⟩) hb2).trans eL0
              have hws := HW.out.size
              have HPZ : pcOf LB (f + UInt32.ofNat LA.length) false 1 1 0 j = ⟨(f + UInt32.ofNat LA.length) + UInt32.ofNat j, decide (j = 0), decide (j + 1 = LB.length), false, 1, 1, 0, LB[j]⟩ := by
                unfold pcOf; rw [getElem!_pos LB j hlt]
              clear eL0
              generalize LB[j] = x at *
              obtain ⟨tx, htx⟩ : ∃ x, (f + UInt32.ofNat LA.length) + UInt32.ofNat j = x := ⟨_, rfl⟩
              obtain ⟨bx, hbx⟩ : ∃ x, decide (j = 0) = x := ⟨_, rfl⟩
              obtain ⟨ex, hex⟩ : ∃ x, decide (j + 1 = LB.length) = x := ⟨_, rfl⟩
              have u1 : ((f.toNat : Int) + ((LA.length : Int) + (j : Int))) % 4294967296 = (tx.toNat : Int) := by
                rw [← htx, UInt32.toNat_add, UInt32.toNat_add, UInt32.toNat_ofNat', UInt32.toNat_ofNat']
                omega
              have u2 : ((LA.length : Int) + (j : Int)) % 4294967296 = (LA.length : Int) + (j : Int) := by omega
              have u3 : IntKind.u32.wrap ((LA.length : Int) + (j : Int)) = (LA.length : Int) + (j : Int) := by rw [IntKind.wrap_u32]; omega
              have u4 : ((j : Int) == 0) = bx := by rw [← hbx, Bool.eq_iff_iff, beq_iff_eq, decide_eq_true_iff]; omega
              have u5 : ((j : Int) == (LB.length : Int) - 1) = ex := by rw [← hex, Bool.eq_iff_iff, beq_iff_eq, decide_eq_true_iff]; omega
              have u6 : (0 : Int) ≤ (j : Int) := by omega
              have u7 : (j : Int) < (LB.length : Int) := by omega
              rw [htx, hbx, hex] at HPZ
              have HPC : Hid ([.int .u32 (tx.toNat : Int), .bool bx, .bool ex, .bool false, .int .u16 1, .int .u16 1, .int .u32 0, .string x] = (cellsPc ⟨tx, bx, ex, false, 1, 1, 0, x⟩).toList) := Lib.hid rfl
              have HPX := Lib.hid HPZ
              clear HPZ htx hbx hex
              go_wp2_with (at_builtin; refine wpList_append_fed _ rfl (.tmp 120) (.tmp 140) 29 29 rfl w3.heap.size 43 i0 _ 8 32 Try.underlying29 (.inr ⟨_, Try.underlying29⟩) HI.out HZ0.out HZ1.out HZ2.out rfl _ (LA.length + j) _ rfl (HO.out.alloc _) _ 1 [.int .u32 (tx.toNat : Int), .bool bx, .bool ex, .bool false, .int .u16 1, .int .u16 1, .int .u32 0, .string x] rfl (Fed.block (heap_alloc_new _ _) rfl (by rw [HPC.out]; exact fun u hu => cells_one hu)) (by unfold maxLen; omega) (by omega) (by rw [World.size_alloc]; omega) ?_; intro v8 w8 hown hgr; replace HW := Lib.hid ((HW.out.alloc (by omega) _).grown hgr (by rw [World.size_alloc]; omega) (fun z hz => by have := (HO.out.lt z hz).1; omega)); obtain ⟨A8, k8, rfl, -, -, -⟩ := id hown.slice; have HO8 := Lib.hid hown; clear hown hgr)
              go_roundw
              case rel => exact ⟨j + 1, A8, k8, by omega, rfl, by go_num, Lib.hid (by rw [flat_next, HPX.out, ← HPC.out]; exact HO8.out), HW⟩
              case measure => simp [intOf]; omega
            · obtain rfl : j = LB.length := by omega
              have hw := HW.out
              replace HB := Lib.hid (HB.out.trans (hw.mono HB.out.size))
              have HRW := Lib.hid (rowP_of_ownG HO.out)
              have hwg0 := HB.out.size
              clear hw HW HV HO HLAR HLBR hj hlt
              generalize hwq : wr = wk at *
              clear hwq
              obtain ⟨W9, hW9, HQ0, HB9, hs9⟩ := one_open wk 32 #[.slice none 0 0]
              obtain ⟨g5, hg5⟩ : ∃ g, wk.heap.size = g := ⟨_, rfl⟩
              rw [hg5] at HQ0 hwg0
              have HAP := Lib.hid (Apart.new HRW.out (Nat.le_of_eq hg5))
              clear hs9
              go_wp2_with ((with_reducible refine gate9 ?_); refine stB (ty := 32) #[.slice none 0 0] rfl rfl rfl rfl HQ0.out infoB rfl (cellsB_one _ _ _) ?_; intro w4 ht hg; replace HB9 := Lib.hid (below_of_grown1 HB9.out hg HB9.out.size (Nat.le_of_eq hg5)); replace HQ0 := Lib.hid ht; clear ht hg)
              have hb := HB9.out
              replace HRW := Lib.hid (RowP.below HRW.out hb)
              replace HB := Lib.hid (HB.out.trans (hb.mono HB.out.size))
              have HMX := Lib.hid (MxI.start HTW.out)
              have HLN : Hid (((List.range LA.length).map (pcOf LA f false 1 0 0) ++ (List.range LB.length).map (pcOf LB (f + UInt32.ofNat LA.length) false 1 1 0)).length = LA.length + LB.length) := Lib.hid (by simp)
              rw [← HLN.out] at HRW HAP
              have HBA : Hid (BAt g5 [] w4) := Lib.hid ⟨none, 0, HQ0.out, RowP.nil _⟩
              clear hb HB9 HQ0 hW9 hg5
              go_loopw [16, 20, 21] (fun v16 v20 v21 wr => ∃ (rest bag : List Pc) (tl : List ByteArray) (ta tb : Bool) (A At : Option Addr) (c ct i : Nat), v16 = .slice A rest.length c ∧ v20 = .slice At tl.length ct ∧ v21 = .int .i64 i ∧ Hid (i + rest.length = LA.length + LB.length) ∧ Hid (tl.length = ta.toNat + tb.toNat) ∧ Hid (MxI (pcOf LA f false 1 0 0) LA.length (pcOf LB (f + UInt32.ofNat LA.length) false 1 1 0) LB.length rest bag ta tb) ∧ Hid (RowP wr (.slice A rest.length c) rest) ∧ Hid (Apart (.slice A rest.length c) rest g5) ∧ Hid (OffO (.slice A rest.length c) rest (.slice At tl.length ct)) ∧ Hid (OwnG wr (g5 + 1) 9 1 (.slice At tl.length ct) tl.length (tl.map encS)) ∧ Hid (BAt g5 bag wr) ∧ Hid (Below w.heap.size w wr))
                (fun v16 _ _ _ => match v16 with | .slice _ n _ => n | _ => 0)
              case atStart => exact ⟨_, [], [], false, false, A, none, c, 0, 0, by rw [HLN.out], rfl, rfl, Lib.hid (by rw [HLN.out]; omega), Lib.hid rfl, HMX, HRW, HAP, Lib.hid (offO_none _ _), Lib.hid (OwnG.nil _ _ _ _), HBA, HB⟩
              case round =>
                clear HRW HAP HBA HB HMX HLN
                obtain ⟨rest, bag, tl, ta, tb, A, At, c, ct, i, rfl, rfl, rfl, HIL, HTN, HMX, HRW, HAP, HOF, HOT, HBA, HB⟩ := hrel
                obtain ⟨nl, hnl⟩ : ∃ nl, rest.length = nl := ⟨_, rfl⟩
                have HNL := Lib.hid hnl
                have hil := HIL.out
                have htn := HTN.out
                obtain ⟨nt, hnt⟩ : ∃ nt, tl.length = nt := ⟨_, rfl⟩
                have HNT := Lib.hid hnt
                have hnt2 : (nt : Int) ≤ 2 := by
                  have h1 := Bool.toNat_le ta
                  have h2 := Bool.toNat_le tb
                  omega
                have hl61 : (nl : Int) ≤ 62 := by omega
                have hi61 : (i : Int) ≤ 62 := by omega
                have hi0 : (0 : Int) ≤ (i : Int) := by omega
                rw [hnl] at HRW HAP HOF ⊢
                rw [hnt] at HOF HOT ⊢
                clear hil hnl htn hnt
                by_cases hlt : 0 < nl
                · obtain ⟨A1, k1, hbx, hrow⟩ := HBA.out
                  have HQ := Lib.hid hbx
                  have HRB := Lib.hid hrow
                  have hgw : g5 < wr.heap.size := hbx.lt
                  clear hbx hrow HBA
                  have p0 : (0 : Int) < (nl : Int) := by omega
                  have p1 : ¬ nl = 0 := by omega
                  obtain ⟨k, hk, HKO, HKN⟩ : ∃ k : Nat, k < nl ∧ Hid (∀ hi : i < od.length, ∃ r, Int.tmod od[i] (nl : Int) = r ∧ -1000 ≤ r ∧ r ≤ 1000 ∧ max r (-r) = (k : Int)) ∧ Hid (¬ i < od.length → k = 0) := by
                    by_cases hi : i < od.length
                    · obtain ⟨k, r, h1, h2, h3, h4, h5⟩ := pick_abs od[i] nl hlt (by omega)
                      exact ⟨k, h1, Lib.hid (fun _ => ⟨r, h2, h3, h4, h5⟩), Lib.hid (fun h => absurd hi h)⟩
                    · exact ⟨0, hlt, Lib.hid (fun h => absurd h hi), Lib.hid (fun _ => rfl)⟩
                  clear hlt
                  go_upto_if 151 with fail
                  go_cut [22] from 143 to 214 (fun v22 wx => ∃ wy : World, wy = wx ∧ v22 = .int .i64 (k : Int) ∧ Hid (Below wr.heap.size wr wy))
                  case first =>
                    as_aux_lemma =>
                      by_cases hi : i < od.length
                      · obtain ⟨r, t1, t2, t3, t4⟩ := HKO.out hi
                        obtain ⟨bo, oo, co, e9, hbo, -, -, -, hco⟩ := (RowX.of (RowE.below HV0.out HB.out) (Nat.le_refl _)).at hi
                        cases e9
                        have eo : wr.cell? ⟨bo, oo + i, none⟩ = some (.int .i64 od[i]) := hco i hi
                        have q2 : (i : Int) < (od.length : Int) := by omega
                        have s1 : IntKind.i64.wrap (-r) = -r := by rw [IntKind.wrap_i64]; omega
                        have s2 : IntKind.i64.wrap r = r := by rw [IntKind.wrap_i64]; omega
                        have t5 : (if r < -r then -r else r) = (k : Int) := by rw [← t4]; simp only [Int.max_def]; split <;> split <;> omega
                        generalize od[i] = o at *
                        have HT4 := Lib.hid t4
                        clear hco HKO HKN t4
                        go_wp2_with fail
                        have HS : (fun V => Below wr.heap.size wr V) wr.drew := below_drawn (Below.refl _ _)
                        refine wp_region_noPanic ?_
                        refine wp_region_waits (S := (fun V => Below wr.heap.size wr V)) [16] (by kernel_rfl) HS (fun hHeld => ?_)
                        clear HS
                        refine wpAnyW_take (i := 0) (v := ?_) (by simp only [List.getElem?_toArray, List.getElem?_cons_zero]; rfl) (by kernel_rfl) (by kernel_rfl) (by kernel_rfl) (by kernel_rfl) (by kernel_rfl) (fun _ _ _ h => h) (Or.inl ⟨by rfl, ?_⟩) (by assumption) ?_
                        rotate_left 1
                        · (intro w' hSw; go_simp; try with_reducible rfl)
                        try simp only [Act.put, List.setIfInBounds_toArray, List.set_cons_zero, List.set_cons_succ]
                        refine wpAnyW_take (i := 1) (v := ?_) (by simp only [List.getElem?_toArray, List.getElem?_cons_succ, List.getElem?_cons_zero]; rfl) (by kernel_rfl) (by kernel_rfl) (by kernel_rfl) (by kernel_rfl) (by kernel_rfl) (fun _ _ _ h => h) (Or.inl ⟨by rfl, ?_⟩) (by assumption) ?_
                        rotate_left 1
                        · (intro w' hSw; go_simp; try with_reducible rfl)
                        try simp only [Act.put, List.setIfInBounds_toArray, List.set_cons_zero, List.set_cons_succ]
                        refine wpAnyW_take (i := 2) (v := ?_) (by simp only [List.getElem?_toArray, List.getElem?_cons_succ, List.getElem?_cons_zero]; rfl) (by kernel_rfl) (by kernel_rfl) (by kernel_rfl) (by kernel_rfl) (by kernel_rfl) (fun _ _ _ h => h) (Or.inl ⟨by rfl, ?_⟩) (by assumption) ?_
                        rotate_left 1
                        · (intro w' hSw; go_simp; try with_reducible rfl)
                        try simp only [Act.put, List.setIfInBounds_toArray, List.set_cons_zero, List.set_cons_succ]
                        refine wpAnyW_take (i := 3) (v := ?_) (by simp only [List.getElem?_toArray, List.getElem?_cons_succ, List.getElem?_cons_zero]; rfl) (by kernel_rfl) (by kernel_rfl) (by kernel_rfl) (by kernel_rfl) (by kernel_rfl) (fun _ _ _ h => h) (Or.inl ⟨by rfl, ?_⟩) (by assumption) ?_
                        rotate_left 1
                        · (intro w' hSw; have hq := (hSw.cell (p := ⟨bo, oo + i, none⟩) hbo).trans eo; go_simp; try with_reducible rfl)
                        try simp only [Act.put, List.setIfInBounds_toArray, List.set_cons_zero, List.set_cons_succ]
                        refine wpAnyW_take (i := 4) (v := ?_) (by simp only [List.getElem?_toArray, List.getElem?_cons_succ, List.getElem?_cons_zero]; rfl) (by kernel_rfl) (by kernel_rfl) (by kernel_rfl) (by kernel_rfl) (by kernel_rfl) (fun _ _ _ h => h) (Or.inl ⟨by rfl, ?_⟩) (by assumption) ?_
                        rotate_left 1
                        · (intro w' hSw; go_simp; try with_reducible rfl)
                        try simp only [Act.put, List.setIfInBounds_toArray, List.set_cons_zero, List.set_cons_succ]
                        refine wpAnyW_take (i := 5) (v := ?_) (by simp only [List.getElem?_toArray, List.getElem?_cons_succ, List.getElem?_cons_zero]; rfl) (by kernel_rfl) (by kernel_rfl) (by kernel_rfl) (by kernel_rfl) (by kernel_rfl) (fun _ _ _ h => h) (Or.inl ⟨by rfl, ?_⟩) (by assumption) ?_
                        rotate_left 1
                        · (intro w' hSw; go_simp; try with_reducible rfl)
                        try simp only [Act.put, List.setIfInBounds_toArray, List.set_cons_zero, List.set_cons_succ]
                        refine wpAnyW_take (i := 6) (v := ?_) (by simp only [List.getElem?_toArray, List.getElem?_cons_succ, List.getElem?_cons_zero]; rfl) (by kernel_rfl) (by kernel_rfl) (by kernel_rfl) (by kernel_rfl) (by kernel_rfl) (fun _ _ _ h => h) (Or.inl ⟨by rfl, ?_⟩) (by assumption) ?_
                        rotate_left 1
                        · (intro w' hSw; go_simp; try with_reducible rfl)
                        try simp only [Act.put, List.setIfInBounds_toArray, List.set_cons_zero, List.set_cons_succ]
                        refine wpAnyW_take (i := 7) (v := ?_) (by simp only [List.getElem?_toArray, List.getElem?_cons_succ, List.getElem?_cons_zero]; rfl) (by kernel_rfl) (by kernel_rfl) (by kernel_rfl) (by kernel_rfl) (by kernel_rfl) (fun _ _ _ h => h) (Or.inl ⟨by rfl, ?_⟩) (by assumption) ?_
                        rotate_left 1
                        · (intro w' hSw; go_simp; try with_reducible rfl)
                        try simp only [Act.put, List.setIfInBounds_toArray, List.set_cons_zero, List.set_cons_succ]
                        refine wpAnyW_take (i := 8) (v := ?_) (by simp only [List.getElem?_toArray, List.getElem?_cons_succ, List.getElem?_cons_zero]; rfl) (by kernel_rfl) (by kernel_rfl) (by kernel_rfl) (by kernel_rfl) (by kernel_rfl) (fun _ _ _ h => h) (Or.inl ⟨by rfl, ?_⟩) (by assumption) ?_
                        rotate_left 1
                        · (intro w' hSw; go_simp; try with_reducible rfl)
                        try simp only [Act.put, List.setIfInBounds_toArray, List.set_cons_zero, List.set_cons_succ]
                        refine wpAnyW_take (i := 9) (v := ?_) (by simp only [List.getElem?_toArray, List.getElem?_cons_succ, List.getElem?_cons_zero]; rfl) (by kernel_rfl) (by kernel_rfl) (by kernel_rfl) (by kernel_rfl) (by kernel_rfl) (fun _ _ _ h => h) (Or.inl ⟨by rfl, ?_⟩) (by assumption) ?_
                        rotate_left 1
                        · (intro w' hSw; go_simp; try with_reducible rfl)
                        try simp only [Act.put, List.setIfInBounds_toArray, List.set_cons_zero, List.set_cons_succ]
                        refine wpAnyW_take (i := 10) (v := ?_) (by simp only [List.getElem?_toArray, List.getElem?_cons_succ, List.getElem?_cons_zero]; rfl) (by kernel_rfl) (by kernel_rfl) (by kernel_rfl) (by kernel_rfl) (by kernel_rfl) (fun _ _ _ h => h) (Or.inl ⟨by rfl, ?_⟩) (by assumption) ?_
                        rotate_left 1
                        · (intro w' hSw; have hq := (hSw.cell (p := ⟨bo, oo + i, none⟩) hbo).trans eo; go_simp; try with_reducible rfl)
                        try simp only [Act.put, List.setIfInBounds_toArray, List.set_cons_zero, List.set_cons_succ]
                        refine wpAnyW_take (i := 11) (v := ?_) (by simp only [List.getElem?_toArray, List.getElem?_cons_succ, List.getElem?_cons_zero]; rfl) (by kernel_rfl) (by kernel_rfl) (by kernel_rfl) (by kernel_rfl) (by kernel_rfl) (fun _ _ _ h => h) (Or.inl ⟨by rfl, ?_⟩) (by assumption) ?_
                        rotate_left 1
                        · (intro w' hSw; go_simp; try with_reducible rfl)
                        try simp only [Act.put, List.setIfInBounds_toArray, List.set_cons_zero, List.set_cons_succ]
                        refine wpAnyW_take (i := 12) (v := ?_) (by simp only [List.getElem?_toArray, List.getElem?_cons_succ, List.getElem?_cons_zero]; rfl) (by kernel_rfl) (by kernel_rfl) (by kernel_rfl) (by kernel_rfl) (by kernel_rfl) (fun _ _ _ h => h) (Or.inl ⟨by rfl, ?_⟩) (by assumption) ?_
                        rotate_left 1
                        · (intro w' hSw; go_simp; try with_reducible rfl)
                        try simp only [Act.put, List.setIfInBounds_toArray, List.set_cons_zero, List.set_cons_succ]
                        refine wpAnyW_take (i := 13) (v := ?_) (by simp only [List.getElem?_toArray, List.getElem?_cons_succ, List.getElem?_cons_zero]; rfl) (by kernel_rfl) (by kernel_rfl) (by kernel_rfl) (by kernel_rfl) (by kernel_rfl) (fun _ _ _ h => h) (Or.inl ⟨by rfl, ?_⟩) (by assumption) ?_
                        rotate_left 1
                        · (intro w' hSw; go_simp; try with_reducible rfl)
                        try simp only [Act.put, List.setIfInBounds_toArray, List.set_cons_zero, List.set_cons_succ]
                        refine wpAnyW_take (i := 14) (v := ?_) (by simp only [List.getElem?_toArray, List.getElem?_cons_succ, List.getElem?_cons_zero]; rfl) (by kernel_rfl) (by kernel_rfl) (by kernel_rfl) (by kernel_rfl) (by kernel_rfl) (fun _ _ _ h => h) (Or.inl ⟨by rfl, ?_⟩) (by assumption) ?_
                        rotate_left 1
                        · (intro w' hSw; go_simp; try with_reducible rfl)
                        try simp only [Act.put, List.setIfInBounds_toArray, List.set_cons_zero, List.set_cons_succ]
                        refine wpAnyW_take (i := 15) (v := ?_) (by simp only [List.getElem?_toArray, List.getElem?_cons_succ, List.getElem?_cons_zero]; rfl) (by kernel_rfl) (by kernel_rfl) (by kernel_rfl) (by kernel_rfl) (by kernel_rfl) (fun _ _ _ h => h) (Or.inl ⟨by rfl, ?_⟩) (by assumption) ?_
                        rotate_left 1
                        · (intro w' hSw; go_simp; try with_reducible rfl)
                        try simp only [Act.put, List.setIfInBounds_toArray, List.set_cons_zero, List.set_cons_succ]
                        refine wpAnyW_freed (i := 16) (by kernel_rfl) (by kernel_rfl) (by simp only [List.getElem?_toArray, List.getElem?_cons_succ, List.getElem?_cons_zero]; rfl) (fun K hK => ?_)
                        rw [if_pos (by rfl)]
                        go_simp
                        have HE := Lib.hid hHeld
                        refine hK.out _ _ ?_
                        clear hK K hHeld
                        try simp only [Act.put, List.setIfInBounds_toArray, List.set_cons_zero, List.set_cons_succ]
                        refine wpAnyW_done (by kernel_rfl) ?_ _
                        refine NoPanic.normal ?_
                        go_wp2_with fail
                        go_meet
                        exact ⟨_, rfl, congrArg (Value.int .i64) HT4.out, HE⟩
                      · have q2 : ¬ (i : Int) < (od.length : Int) := by omega
                        obtain rfl := HKN.out hi
                        go_wp2_with fail
                        go_meet
                        exact ⟨_, rfl, rfl, Lib.hid (Below.refl _ _)⟩
                  case rest =>
                    obtain ⟨wy, rfl, rfl, HY⟩ := hcut
                    have hy := HY.out
                    replace HRW := Lib.hid (RowP.below HRW.out hy)
                    replace HOT := Lib.hid (HOT.out.later hy)
                    replace HQ := Lib.hid (HQ.out.later hy)
                    replace HRB := Lib.hid (RowP.below HRB.out hy)
                    replace HB := Lib.hid (HB.out.trans (hy.mono HB.out.size))
                    have hgy : g5 < wy.heap.size := HQ.out.lt
                    have HTL := Lib.hid (show ∀ q, (Value.slice At nt ct).ownBlock = some q → q < wy.heap.size from fun q hq => (HOT.out.lt q hq).2)
                    clear hy HY HKO HKN hgw
                    have hkl : k < rest.length := by rw [HNL.out]; exact hk
                    have hr8 := HRW.out
                    rw [← HNL.out] at hr8
                    obtain ⟨b, off, c', e9, hbl, hc1, hc2, hcl⟩ := hr8.at8 (by omega)
                    rw [HNL.out] at e9 hc1
                    cases e9
                    have HRG := Lib.hid (hcl k hkl)
                    obtain ⟨bag', o, ta2, tb2, e1, hmx2, ho⟩ := HMX.out.step HTW.out hkl
                    have hxs := HMX.out.size HTW.out (List.getElem_mem hkl)
                    have hbb := HMX.out.bytes HTW.out
                    have hbl2 := HMX.out.len
                    have hok := HMX.out.ok
                    rw [HNL.out] at hbl2
                    have HPU := Lib.hid (fun V W h => put_anyE bag (by omega) hok rest[k] (by omega) V W h)
                    rw [e1] at HPU
                    rw [HMA.out, HMBB.out] at ho
                    have HMX2 := Lib.hid hmx2
                    have hkI : (k : Int) < (nl : Int) := by omega
                    have hk0 : (0 : Int) ≤ (k : Int) := by omega
                    obtain ⟨yb, hyb⟩ : ∃ q, o.isSome = q := ⟨_, rfl⟩
                    obtain ⟨mg, hmg⟩ : ∃ q, o.getD zeroMg = q := ⟨_, rfl⟩
                    simp only [hyb, hmg] at HPU
                    have HCA : Hid ((yb = false ∧ ta2.toNat + tb2.toNat = ta.toNat + tb.toNat) ∨ (yb = true ∧ (mg = ⟨f, false, 1, 0, 0, s⟩ ∨ mg = ⟨f + UInt32.ofNat LA.length, false, 1, 1, 0, t⟩) ∧ ta2.toNat + tb2.toNat = ta.toNat + tb.toNat + 1)) := by
                      rcases ho with ⟨rfl, h2⟩ | ⟨rfl | rfl, h2⟩
                      · exact Lib.hid (.inl ⟨hyb.symm, h2⟩)
                      · exact Lib.hid (.inr ⟨hyb.symm, .inl hmg.symm, h2⟩)
                      · exact Lib.hid (.inr ⟨hyb.symm, .inr hmg.symm, h2⟩)
                    clear ho hyb hmg e1 hmx2 hxs hbb hbl2 hok hcl hr8
                    generalize rest[k] = x at *
                    generalize bag' = Y at *
                    generalize bag = Bg at *
                    go_upto_region 27 with fail
                    go_cut [23, 24, 25] from 143 to 214 (fun v23 v24 v25 wx => ∃ (wz : World) (ga gb : Nat) (A2 : Option Addr) (k2 : Nat), wz = wx ∧ v23 = .pointer (some ⟨ga, 0, none⟩) ∧ v24 = .pointer (some ⟨gb, 0, none⟩) ∧ v25 = .bool yb ∧ Hid (Bx wz ga 32 #[.slice A2 Y.length k2] ∧ Bx wz gb 39 (cellsMg mg) ∧ Bx wz g5 32 #[.slice A1 Bg.length k1] ∧ RowP wz (.slice A2 Y.length k2) Y ∧ Fresh wy.heap.size (.slice A2 Y.length k2) ∧ wy.heap.size ≤ ga ∧ wy.heap.size ≤ gb ∧ Below wy.heap.size wy wz))
                    case first =>
                      as_aux_lemma =>
                        have HS : (fun V => Bx V g5 32 #[.slice A1 Bg.length k1] ∧ Below wy.heap.size wy V) wy.drew := ⟨HQ.out.drew, below_drawn (Below.refl _ _)⟩
                        refine wp_region_noPanic ?_
                        refine wp_region_waits (S := (fun V => Bx V g5 32 #[.slice A1 Bg.length k1] ∧ Below wy.heap.size wy V)) [14] (by kernel_rfl) HS (fun hHeld => ?_)
                        clear HS
                        refine wpAnyW_take (i := 0) (v := _) (by simp only [List.getElem?_toArray, List.getElem?_cons_zero]; rfl) (by kernel_rfl) (by kernel_rfl) (by kernel_rfl) (by kernel_rfl) (by kernel_rfl) (fun _ _ _ h => h) (yB (ty := 32) (by rfl) rfl rfl (fun V h => h.1) Try.underlying32 rfl infoB) (by assumption) ?_
                        try simp only [Act.put, List.setIfInBounds_toArray, List.set_cons_zero, List.set_cons_succ]
                        refine wpAnyW_take (i := 1) (v := ?_) (by simp only [List.getElem?_toArray, List.getElem?_cons_succ, List.getElem?_cons_zero]; rfl) (by kernel_rfl) (by kernel_rfl) (by kernel_rfl) (by kernel_rfl) (by kernel_rfl) (fun _ _ _ h => h) (Or.inl ⟨by rfl, ?_⟩) (by assumption) ?_
                        rotate_left 1
                        · (intro w' hSw; go_simp; try with_reducible rfl)
                        try simp only [Act.put, List.setIfInBounds_toArray, List.set_cons_zero, List.set_cons_succ]
                        refine wpAnyW_take (i := 2) (v := ?_) (by simp only [List.getElem?_toArray, List.getElem?_cons_succ, List.getElem?_cons_zero]; rfl) (by kernel_rfl) (by kernel_rfl) (by kernel_rfl) (by kernel_rfl) (by kernel_rfl) (fun _ _ _ h => h) (Or.inl ⟨by rfl, ?_⟩) (by assumption) ?_
                        rotate_left 1
                        · (intro w' hSw; go_simp; try with_reducible rfl)
                        try simp only [Act.put, List.setIfInBounds_toArray, List.set_cons_zero, List.set_cons_succ]
                        refine wpAnyW_take (i := 3) (v := ?_) (by simp only [List.getElem?_toArray, List.getElem?_cons_succ, List.getElem?_cons_zero]; rfl) (by kernel_rfl) (by kernel_rfl) (by kernel_rfl) (by kernel_rfl) (by kernel_rfl) (fun _ _ _ h => h) (Or.inl ⟨by rfl, ?_⟩) (by assumption) ?_
                        rotate_left 1
                        · (intro w' hSw; go_simp; try with_reducible rfl)
                        try simp only [Act.put, List.setIfInBounds_toArray, List.set_cons_zero, List.set_cons_succ]
                        refine wpAnyW_take (i := 4) (v := _) (by simp only [List.getElem?_toArray, List.getElem?_cons_succ, List.getElem?_cons_zero]; rfl) (by kernel_rfl) (by kernel_rfl) (by kernel_rfl) (by kernel_rfl) (by kernel_rfl) (fun _ _ _ h => h) (yPc (ty := 43) (by rfl) rfl rfl (fun V h => range_below HRG.out hbl h.2) Try.underlying43 rfl infoP) (by assumption) ?_
                        try simp only [Act.put, List.setIfInBounds_toArray, List.set_cons_zero, List.set_cons_succ]
                        refine wpAnyW_three (i := 5) (i2 := 10) (i3 := 11) (by kernel_rfl) (by simp only [List.getElem?_toArray, List.getElem?_cons_succ, List.getElem?_cons_zero]; rfl) (by simp only [List.getElem?_toArray, List.getElem?_cons_succ, List.getElem?_cons_zero]; rfl) (by simp only [List.getElem?_toArray, List.getElem?_cons_succ, List.getElem?_cons_zero]; rfl) (fun K hK => ?_) (fun K hK => ?_) (fun K hK => ?_)
                        · as_aux_lemma =>
                            rw [if_pos (by rfl)]
                            go_simp
                            refine (HPU.out _ _ (HRB.out.below hHeld.2)).mono ?_
                            rintro _ u5 ⟨A5, k5, rfl, hr, hf, hb⟩
                            have HS : (fun V => Bx V g5 32 #[.slice A1 Bg.length k1] ∧ Below wy.heap.size wy V) _ := ⟨hHeld.1.later hb, hHeld.2.trans (hb.mono hHeld.2.size)⟩
                            have HR5 := Lib.hid hr
                            have HF5 := Lib.hid (hf.less (show wy.heap.size ≤ _ from hHeld.2.size))
                            clear hHeld hr hf hb
                            go_wp2_with fail
                            refine hK.out _ _ HS (fun hHeld => ?_)
                            clear hK K HS
                            try simp only [Act.put, List.setIfInBounds_toArray, List.set_cons_zero, List.set_cons_succ]
                            refine wpAnyW_take (i := 6) (v := ?_) (by simp only [List.getElem?_toArray, List.getElem?_cons_succ, List.getElem?_cons_zero]; rfl) (by kernel_rfl) (by kernel_rfl) (by kernel_rfl) (by kernel_rfl) (by kernel_rfl) (fun _ _ _ h => h) (Or.inl ⟨by rfl, ?_⟩) (by assumption) ?_
                            rotate_left 1
                            · (intro w' hSw; go_simp; try with_reducible rfl)
                            try simp only [Act.put, List.setIfInBounds_toArray, List.set_cons_zero, List.set_cons_succ]
                            refine wpAnyW_take (i := 7) (v := ?_) (by simp only [List.getElem?_toArray, List.getElem?_cons_succ, List.getElem?_cons_zero]; rfl) (by kernel_rfl) (by kernel_rfl) (by kernel_rfl) (by kernel_rfl) (by kernel_rfl) (fun _ _ _ h => h) (Or.inl ⟨by rfl, ?_⟩) (by assumption) ?_
                            rotate_left 1
                            · (intro w' hSw; go_simp; try with_reducible rfl)
                            try simp only [Act.put, List.setIfInBounds_toArray, List.set_cons_zero, List.set_cons_succ]
                            refine wpAnyW_take (i := 8) (v := ?_) (by simp only [List.getElem?_toArray, List.getElem?_cons_succ, List.getElem?_cons_zero]; rfl) (by kernel_rfl) (by kernel_rfl) (by kernel_rfl) (by kernel_rfl) (by kernel_rfl) (fun _ _ _ h => h) (Or.inl ⟨by rfl, ?_⟩) (by assumption) ?_
                            rotate_left 1
                            · (intro w' hSw; go_simp; try with_reducible rfl)
                            try simp only [Act.put, List.setIfInBounds_toArray, List.set_cons_zero, List.set_cons_succ]
                            refine wpAnyW_take (i := 9) (v := ?_) (by simp only [List.getElem?_toArray, List.getElem?_cons_succ, List.getElem?_cons_zero]; rfl) (by kernel_rfl) (by kernel_rfl) (by kernel_rfl) (by kernel_rfl) (by kernel_rfl) (fun _ _ _ h => h) (Or.inl ⟨by rfl, ?_⟩) (by assumption) ?_
                            rotate_left 1
                            · (intro w' hSw; go_simp; try with_reducible rfl)
                            try simp only [Act.put, List.setIfInBounds_toArray, List.set_cons_zero, List.set_cons_succ]
                            refine wpAnyW_two (i := 10) (i2 := 11) (by kernel_rfl) (by simp only [List.getElem?_toArray, List.getElem?_cons_succ, List.getElem?_cons_zero]; rfl) (by simp only [List.getElem?_toArray, List.getElem?_cons_succ, List.getElem?_cons_zero]; rfl) (fun K hK => ?_) (fun K hK => ?_)
                            · as_aux_lemma =>
                                rw [if_pos (by rfl)]
                                obtain ⟨v1, hv1, HXa, HBv1, hsv1⟩ := one_open u5 32 #[.slice none 0 0]
                                obtain ⟨ga, hga⟩ : ∃ g, u5.heap.size = g := ⟨_, rfl⟩
                                rw [hga] at HXa hsv1
                                have HS : (fun V => Bx V g5 32 #[.slice A1 Bg.length k1] ∧ Below wy.heap.size wy V) _ := ⟨hHeld.1.later HBv1.out, hHeld.2.trans (HBv1.out.mono hHeld.2.size)⟩
                                have hzga : wy.heap.size ≤ ga := by have := hHeld.2.size; omega
                                have HNga := Lib.hid (Apart.new HR5.out (Nat.le_of_eq hga))
                                replace HR5 := Lib.hid (RowP.below HR5.out HBv1.out)
                                clear hHeld HBv1 hsv1
                                go_simp
                                refine hK.out _ _ HS (fun hHeld => ?_)
                                clear hK K HS
                                try simp only [Act.put, List.setIfInBounds_toArray, List.set_cons_zero, List.set_cons_succ]
                                clear hga
                                refine wpAnyW_held (i := 11) (by kernel_rfl) (by simp only [List.getElem?_toArray, List.getElem?_cons_succ, List.getElem?_cons_zero]; rfl) (fun K hK => ?_)
                                rw [if_pos (by rfl)]
                                obtain ⟨v2, hv2, HXb, HBv2, hsv2⟩ := one_open v1 39 #[.int .u32 0, .bool false, .int .u16 0, .int .u16 0, .int .u32 0, .string ⟨#[]⟩]
                                obtain ⟨gb, hgb⟩ : ∃ g, v1.heap.size = g := ⟨_, rfl⟩
                                rw [hgb] at HXb hsv2
                                have HS : (fun V => Bx V g5 32 #[.slice A1 Bg.length k1] ∧ Below wy.heap.size wy V) _ := ⟨hHeld.1.later HBv2.out, hHeld.2.trans (HBv2.out.mono hHeld.2.size)⟩
                                have hzgb : wy.heap.size ≤ gb := by have := hHeld.2.size; omega
                                have HNgb := Lib.hid (Apart.new HR5.out (Nat.le_of_eq hgb))
                                replace HR5 := Lib.hid (RowP.below HR5.out HBv2.out)
                                have hneab : ga ≠ gb := by have := HXa.out.lt; omega
                                replace HXa := Lib.hid (HXa.out.later HBv2.out)
                                clear hHeld HBv2 hsv2
                                go_simp
                                refine hK.out _ _ HS (fun hHeld => ?_)
                                clear hK K HS
                                try simp only [Act.put, List.setIfInBounds_toArray, List.set_cons_zero, List.set_cons_succ]
                                clear hgb
                                refine wpAnyW_held (i := 12) (by kernel_rfl) (by simp only [List.getElem?_toArray, List.getElem?_cons_succ, List.getElem?_cons_zero]; rfl) (fun K hK => ?_)
                                rw [if_pos (by rfl)]
                                refine wpB (ty := 32) #[.slice A5 Y.length k5] rfl rfl rfl HXa.out infoB rfl (cellsB_one _ _ _) ?_
                                intro y1 ht hg
                                have HS : (fun V => Bx V g5 32 #[.slice A1 Bg.length k1] ∧ Below wy.heap.size wy V) _ := ⟨hHeld.1.kept hg (by omega), below_of_grown1 hHeld.2 hg hHeld.2.size hzga⟩
                                replace HXb := Lib.hid (HXb.out.kept hg (by omega))
                                replace HR5 := Lib.hid (RowP.keptA HR5.out HNga.out hg)
                                replace HXa := Lib.hid ht
                                clear ht hg hHeld
                                refine hK.out _ _ HS (fun hHeld => ?_)
                                clear hK K HS
                                try simp only [Act.put, List.setIfInBounds_toArray, List.set_cons_zero, List.set_cons_succ]
                                refine wpAnyW_held (i := 13) (by kernel_rfl) (by simp only [List.getElem?_toArray, List.getElem?_cons_succ, List.getElem?_cons_zero]; rfl) (fun K hK => ?_)
                                rw [if_pos (by rfl)]
                                refine wpB (ty := 39) (cellsMg mg) rfl rfl rfl HXb.out infoM rfl (cellsMg_one _) ?_
                                intro y2 ht hg
                                have HS : (fun V => Bx V g5 32 #[.slice A1 Bg.length k1] ∧ Below wy.heap.size wy V) _ := ⟨hHeld.1.kept hg (by omega), below_of_grown1 hHeld.2 hg hHeld.2.size hzgb⟩
                                replace HXa := Lib.hid (HXa.out.kept hg (by omega))
                                replace HR5 := Lib.hid (RowP.keptA HR5.out HNgb.out hg)
                                replace HXb := Lib.hid ht
                                clear ht hg hHeld
                                refine hK.out _ _ HS (fun hHeld => ?_)
                                clear hK K HS
                                try simp only [Act.put, List.setIfInBounds_toArray, List.set_cons_zero, List.set_cons_succ]
                                refine wpAnyW_freed (i := 14) (by kernel_rfl) (by kernel_rfl) (by simp only [List.getElem?_toArray, List.getElem?_cons_succ, List.getElem?_cons_zero]; rfl) (fun K hK => ?_)
                                rw [if_pos (by rfl)]
                                go_simp
                                have HE := Lib.hid hHeld
                                refine hK.out _ _ ?_
                                clear hK K hHeld
                                try simp only [Act.put, List.setIfInBounds_toArray, List.set_cons_zero, List.set_cons_succ]
                                refine wpAnyW_done (by kernel_rfl) ?_ _
                                refine NoPanic.normal ?_
                                go_wp2_with fail
                                go_meet
                                exact ⟨_, ga, gb, A5, k5, rfl, rfl, rfl, rfl, Lib.hid ⟨HXa.out, HXb.out, HE.out.1, HR5.out, HF5.out, hzga, hzgb, HE.out.2⟩⟩
                            · as_aux_lemma =>
                                rw [if_pos (by rfl)]
                                obtain ⟨v1, hv1, HXb, HBv1, hsv1⟩ := one_open u5 39 #[.int .u32 0, .bool false, .int .u16 0, .int .u16 0, .int .u32 0, .string ⟨#[]⟩]
                                obtain ⟨gb, hgb⟩ : ∃ g, u5.heap.size = g := ⟨_, rfl⟩
                                rw [hgb] at HXb hsv1
                                have HS : (fun V => Bx V g5 32 #[.slice A1 Bg.length k1] ∧ Below wy.heap.size wy V) _ := ⟨hHeld.1.later HBv1.out, hHeld.2.trans (HBv1.out.mono hHeld.2.size)⟩
                                have hzgb : wy.heap.size ≤ gb := by have := hHeld.2.size; omega
                                have HNgb := Lib.hid (Apart.new HR5.out (Nat.le_of_eq hgb))
                                replace HR5 := Lib.hid (RowP.below HR5.out HBv1.out)
                                clear hHeld HBv1 hsv1
                                go_simp
                                refine hK.out _ _ HS (fun hHeld => ?_)
                                clear hK K HS
                                try simp only [Act.put, List.setIfInBounds_toArray, List.set_cons_zero, List.set_cons_succ]
                                clear hgb
                                refine wpAnyW_held (i := 10) (by kernel_rfl) (by simp only [List.getElem?_toArray, List.getElem?_cons_succ, List.getElem?_cons_zero]; rfl) (fun K hK => ?_)
                                rw [if_pos (by rfl)]
                                obtain ⟨v2, hv2, HXa, HBv2, hsv2⟩ := one_open v1 32 #[.slice none 0 0]
                                obtain ⟨ga, hga⟩ : ∃ g, v1.heap.size = g := ⟨_, rfl⟩
                                rw [hga] at HXa hsv2
                                have HS : (fun V => Bx V g5 32 #[.slice A1 Bg.length k1] ∧ Below wy.heap.size wy V) _ := ⟨hHeld.1.later HBv2.out, hHeld.2.trans (HBv2.out.mono hHeld.2.size)⟩
                                have hzga : wy.heap.size ≤ ga := by have := hHeld.2.size; omega
                                have HNga := Lib.hid (Apart.new HR5.out (Nat.le_of_eq hga))
                                replace HR5 := Lib.hid (RowP.below HR5.out HBv2.out)
                                have hneab : gb ≠ ga := by have := HXb.out.lt; omega
                                replace HXb := Lib.hid (HXb.out.later HBv2.out)
                                clear hHeld HBv2 hsv2
                                go_simp
                                refine hK.out _ _ HS (fun hHeld => ?_)
                                clear hK K HS
                                try simp only [Act.put, List.setIfInBounds_toArray, List.set_cons_zero, List.set_cons_succ]
                                clear hga
                                refine wpAnyW_held (i := 12) (by kernel_rfl) (by simp only [List.getElem?_toArray, List.getElem?_cons_succ, List.getElem?_cons_zero]; rfl) (fun K hK => ?_)
                                rw [if_pos (by rfl)]
                                refine wpB (ty := 32) #[.slice A5 Y.length k5] rfl rfl rfl HXa.out infoB rfl (cellsB_one _ _ _) ?_
                                intro y1 ht hg
                                have HS : (fun V => Bx V g5 32 #[.slice A1 Bg.length k1] ∧ Below wy.heap.size wy V) _ := ⟨hHeld.1.kept hg (by omega), below_of_grown1 hHeld.2 hg hHeld.2.size hzga⟩
                                replace HXb := Lib.hid (HXb.out.kept hg (by omega))
                                replace HR5 := Lib.hid (RowP.keptA HR5.out HNga.out hg)
                                replace HXa := Lib.hid ht
                                clear ht hg hHeld
                                refine hK.out _ _ HS (fun hHeld => ?_)
                                clear hK K HS
                                try simp only [Act.put, List.setIfInBounds_toArray, List.set_cons_zero, List.set_cons_succ]
                                refine wpAnyW_held (i := 13) (by kernel_rfl) (by simp only [List.getElem?_toArray, List.getElem?_cons_succ, List.getElem?_cons_zero]; rfl) (fun K hK => ?_)
                                rw [if_pos (by rfl)]
                                refine wpB (ty := 39) (cellsMg mg) rfl rfl rfl HXb.out infoM rfl (cellsMg_one _) ?_
                                intro y2 ht hg
                                have HS : (fun V => Bx V g5 32 #[.slice A1 Bg.length k1] ∧ Below wy.heap.size wy V) _ := ⟨hHeld.1.kept hg (by omega), below_of_grown1 hHeld.2 hg hHeld.2.size hzgb⟩
                                replace HXa := Lib.hid (HXa.out.kept hg (by omega))
                                replace HR5 := Lib.hid (RowP.keptA HR5.out HNgb.out hg)
                                replace HXb := Lib.hid ht
                                clear ht hg hHeld
                                refine hK.out _ _ HS (fun hHeld => ?_)
                                clear hK K HS
                                try simp only [Act.put, List.setIfInBounds_toArray, List.set_cons_zero, List.set_cons_succ]
                                refine wpAnyW_freed (i := 14) (by kernel_rfl) (by kernel_rfl) (by simp only [List.getElem?_toArray, List.getElem?_cons_succ, List.getElem?_cons_zero]; rfl) (fun K hK => ?_)
                                rw [if_pos (by rfl)]
                                go_simp
                                have HE := Lib.hid hHeld
                                refine hK.out _ _ ?_
                                clear hK K hHeld
                                try simp only [Act.put, List.setIfInBounds_toArray, List.set_cons_zero, List.set_cons_succ]
                                refine wpAnyW_done (by kernel_rfl) ?_ _
                                refine NoPanic.normal ?_
                                go_wp2_with fail
                                go_meet
                                exact ⟨_, ga, gb, A5, k5, rfl, rfl, rfl, rfl, Lib.hid ⟨HXa.out, HXb.out, HE.out.1, HR5.out, HF5.out, hzga, hzgb, HE.out.2⟩⟩
                        · as_aux_lemma =>
                            rw [if_pos (by rfl)]
                            obtain ⟨v0, hv0, HXa, HBv0, hsv0⟩ := one_open wy.drew 32 #[.slice none 0 0]
                            obtain ⟨ga, hga⟩ : ∃ g, wy.drew.heap.size = g := ⟨_, rfl⟩
                            rw [hga] at HXa hsv0
                            have HS : (fun V => Bx V g5 32 #[.slice A1 Bg.length k1] ∧ Below wy.heap.size wy V) _ := ⟨hHeld.1.later HBv0.out, hHeld.2.trans (HBv0.out.mono hHeld.2.size)⟩
                            have hzga : wy.heap.size ≤ ga := by have := hHeld.2.size; omega
                            clear hHeld HBv0 hsv0
                            go_simp
                            refine hK.out _ _ HS (fun hHeld => ?_)
                            clear hK K HS
                            try simp only [Act.put, List.setIfInBounds_toArray, List.set_cons_zero, List.set_cons_succ]
                            clear hga
                            refine wpAnyW_two (i := 5) (i2 := 11) (by kernel_rfl) (by simp only [List.getElem?_toArray, List.getElem?_cons_succ, List.getElem?_cons_zero]; rfl) (by simp only [List.getElem?_toArray, List.getElem?_cons_succ, List.getElem?_cons_zero]; rfl) (fun K hK => ?_) (fun K hK => ?_)
                            · as_aux_lemma =>
                                rw [if_pos (by rfl)]
                                go_simp
                                refine (HPU.out _ _ (HRB.out.below hHeld.2)).mono ?_
                                rintro _ u5 ⟨A5, k5, rfl, hr, hf, hb⟩
                                have HS : (fun V => Bx V g5 32 #[.slice A1 Bg.length k1] ∧ Below wy.heap.size wy V) _ := ⟨hHeld.1.later hb, hHeld.2.trans (hb.mono hHeld.2.size)⟩
                                have HR5 := Lib.hid hr
                                have HNga := Lib.hid (Apart.freshOf hr hf (show ga < _ by have := HXa.out.lt; omega))
                                replace HXa := Lib.hid (HXa.out.later hb)
                                have HF5 := Lib.hid (hf.less (show wy.heap.size ≤ _ from hHeld.2.size))
                                clear hHeld hr hf hb
                                go_wp2_with fail
                                refine hK.out _ _ HS (fun hHeld => ?_)
                                clear hK K HS
                                try simp only [Act.put, List.setIfInBounds_toArray, List.set_cons_zero, List.set_cons_succ]
                                refine wpAnyW_take (i := 6) (v := ?_) (by simp only [List.getElem?_toArray, List.getElem?_cons_succ, List.getElem?_cons_zero]; rfl) (by kernel_rfl) (by kernel_rfl) (by kernel_rfl) (by kernel_rfl) (by kernel_rfl) (fun _ _ _ h => h) (Or.inl ⟨by rfl, ?_⟩) (by assumption) ?_
                                rotate_left 1
                                · (intro w' hSw; go_simp; try with_reducible rfl)
                                try simp only [Act.put, List.setIfInBounds_toArray, List.set_cons_zero, List.set_cons_succ]
                                refine wpAnyW_take (i := 7) (v := ?_) (by simp only [List.getElem?_toArray, List.getElem?_cons_succ, List.getElem?_cons_zero]; rfl) (by kernel_rfl) (by kernel_rfl) (by kernel_rfl) (by kernel_rfl) (by kernel_rfl) (fun _ _ _ h => h) (Or.inl ⟨by rfl, ?_⟩) (by assumption) ?_
                                rotate_left 1
                                · (intro w' hSw; go_simp; try with_reducible rfl)
                                try simp only [Act.put, List.setIfInBounds_toArray, List.set_cons_zero, List.set_cons_succ]
                                refine wpAnyW_take (i := 8) (v := ?_) (by simp only [List.getElem?_toArray, List.getElem?_cons_succ, List.getElem?_cons_zero]; rfl) (by kernel_rfl) (by kernel_rfl) (by kernel_rfl) (by kernel_rfl) (by kernel_rfl) (fun _ _ _ h => h) (Or.inl ⟨by rfl, ?_⟩) (by assumption) ?_
                                rotate_left 1
                                · (intro w' hSw; go_simp; try with_reducible rfl)
                                try simp only [Act.put, List.setIfInBounds_toArray, List.set_cons_zero, List.set_cons_succ]
                                refine wpAnyW_take (i := 9) (v := ?_) (by simp only [List.getElem?_toArray, List.getElem?_cons_succ, List.getElem?_cons_zero]; rfl) (by kernel_rfl) (by kernel_rfl) (by kernel_rfl) (by kernel_rfl) (by kernel_rfl) (fun _ _ _ h => h) (Or.inl ⟨by rfl, ?_⟩) (by assumption) ?_
                                rotate_left 1
                                · (intro w' hSw; go_simp; try with_reducible rfl)
                                try simp only [Act.put, List.setIfInBounds_toArray, List.set_cons_zero, List.set_cons_succ]
                                refine wpAnyW_held (i := 11) (by kernel_rfl) (by simp only [List.getElem?_toArray, List.getElem?_cons_succ, List.getElem?_cons_zero]; rfl) (fun K hK => ?_)
                                rw [if_pos (by rfl)]
                                obtain ⟨v2, hv2, HXb, HBv2, hsv2⟩ := one_open u5 39 #[.int .u32 0, .bool false, .int .u16 0, .int .u16 0, .int .u32 0, .string ⟨#[]⟩]
                                obtain ⟨gb, hgb⟩ : ∃ g, u5.heap.size = g := ⟨_, rfl⟩
                                rw [hgb] at HXb hsv2
                                have HS : (fun V => Bx V g5 32 #[.slice A1 Bg.length k1] ∧ Below wy.heap.size wy V) _ := ⟨hHeld.1.later HBv2.out, hHeld.2.trans (HBv2.out.mono hHeld.2.size)⟩
                                have hzgb : wy.heap.size ≤ gb := by have := hHeld.2.size; omega
                                have HNgb := Lib.hid (Apart.new HR5.out (Nat.le_of_eq hgb))
                                replace HR5 := Lib.hid (RowP.below HR5.out HBv2.out)
                                have hneab : ga ≠ gb := by have := HXa.out.lt; omega
                                replace HXa := Lib.hid (HXa.out.later HBv2.out)
                                clear hHeld HBv2 hsv2
                                go_simp
                                refine hK.out _ _ HS (fun hHeld => ?_)
                                clear hK K HS
                                try simp only [Act.put, List.setIfInBounds_toArray, List.set_cons_zero, List.set_cons_succ]
                                clear hgb
                                refine wpAnyW_held (i := 12) (by kernel_rfl) (by simp only [List.getElem?_toArray, List.getElem?_cons_succ, List.getElem?_cons_zero]; rfl) (fun K hK => ?_)
                                rw [if_pos (by rfl)]
                                refine wpB (ty := 32) #[.slice A5 Y.length k5] rfl rfl rfl HXa.out infoB rfl (cellsB_one _ _ _) ?_
                                intro y1 ht hg
                                have HS : (fun V => Bx V g5 32 #[.slice A1 Bg.length k1] ∧ Below wy.heap.size wy V) _ := ⟨hHeld.1.kept hg (by omega), below_of_grown1 hHeld.2 hg hHeld.2.size hzga⟩
                                replace HXb := Lib.hid (HXb.out.kept hg (by omega))
                                replace HR5 := Lib.hid (RowP.keptA HR5.out HNga.out hg)
                                replace HXa := Lib.hid ht
                                clear ht hg hHeld
                                refine hK.out _ _ HS (fun hHeld => ?_)
                                clear hK K HS
                                try simp only [Act.put, List.setIfInBounds_toArray, List.set_cons_zero, List.set_cons_succ]
                                refine wpAnyW_held (i := 13) (by kernel_rfl) (by simp only [List.getElem?_toArray, List.getElem?_cons_succ, List.getElem?_cons_zero]; rfl) (fun K hK => ?_)
                                rw [if_pos (by rfl)]
                                refine wpB (ty := 39) (cellsMg mg) rfl rfl rfl HXb.out infoM rfl (cellsMg_one _) ?_
                                intro y2 ht hg
                                have HS : (fun V => Bx V g5 32 #[.slice A1 Bg.length k1] ∧ Below wy.heap.size wy V) _ := ⟨hHeld.1.kept hg (by omega), below_of_grown1 hHeld.2 hg hHeld.2.size hzgb⟩
                                replace HXa := Lib.hid (HXa.out.kept hg (by omega))
                                replace HR5 := Lib.hid (RowP.keptA HR5.out HNgb.out hg)
                                replace HXb := Lib.hid ht
                                clear ht hg hHeld
                                refine hK.out _ _ HS (fun hHeld => ?_)
                                clear hK K HS
                                try simp only [Act.put, List.setIfInBounds_toArray, List.set_cons_zero, List.set_cons_succ]
                                refine wpAnyW_freed (i := 14) (by kernel_rfl) (by kernel_rfl) (by simp only [List.getElem?_toArray, List.getElem?_cons_succ, List.getElem?_cons_zero]; rfl) (fun K hK => ?_)
                                rw [if_pos (by rfl)]
                                go_simp
                                have HE := Lib.hid hHeld
                                refine hK.out _ _ ?_
                                clear hK K hHeld
                                try simp only [Act.put, List.setIfInBounds_toArray, List.set_cons_zero, List.set_cons_succ]
                                refine wpAnyW_done (by kernel_rfl) ?_ _
                                refine NoPanic.normal ?_
                                go_wp2_with fail
                                go_meet
                                exact ⟨_, ga, gb, A5, k5, rfl, rfl, rfl, rfl, Lib.hid ⟨HXa.out, HXb.out, HE.out.1, HR5.out, HF5.out, hzga, hzgb, HE.out.2⟩⟩
                            · as_aux_lemma =>
                                rw [if_pos (by rfl)]
                                obtain ⟨v1, hv1, HXb, HBv1, hsv1⟩ := one_open v0 39 #[.int .u32 0, .bool false, .int .u16 0, .int .u16 0, .int .u32 0, .string ⟨#[]⟩]
                                obtain ⟨gb, hgb⟩ : ∃ g, v0.heap.size = g := ⟨_, rfl⟩
                                rw [hgb] at HXb hsv1
                                have HS : (fun V => Bx V g5 32 #[.slice A1 Bg.length k1] ∧ Below wy.heap.size wy V) _ := ⟨hHeld.1.later HBv1.out, hHeld.2.trans (HBv1.out.mono hHeld.2.size)⟩
                                have hzgb : wy.heap.size ≤ gb := by have := hHeld.2.size; omega
                                have hneab : ga ≠ gb := by have := HXa.out.lt; omega
                                replace HXa := Lib.hid (HXa.out.later HBv1.out)
                                clear hHeld HBv1 hsv1
                                go_simp
                                refine hK.out _ _ HS (fun hHeld => ?_)
                                clear hK K HS
                                try simp only [Act.put, List.setIfInBounds_toArray, List.set_cons_zero, List.set_cons_succ]
                                clear hgb
                                refine wpAnyW_held (i := 5) (by kernel_rfl) (by simp only [List.getElem?_toArray, List.getElem?_cons_succ, List.getElem?_cons_zero]; rfl) (fun K hK => ?_)
                                rw [if_pos (by rfl)]
                                go_simp
                                refine (HPU.out _ _ (HRB.out.below hHeld.2)).mono ?_
                                rintro _ u5 ⟨A5, k5, rfl, hr, hf, hb⟩
                                have HS : (fun V => Bx V g5 32 #[.slice A1 Bg.length k1] ∧ Below wy.heap.size wy V) _ := ⟨hHeld.1.later hb, hHeld.2.trans (hb.mono hHeld.2.size)⟩
                                have HR5 := Lib.hid hr
                                have HNga := Lib.hid (Apart.freshOf hr hf (show ga < _ by have := HXa.out.lt; omega))
                                replace HXa := Lib.hid (HXa.out.later hb)
                                have HNgb := Lib.hid (Apart.freshOf hr hf (show gb < _ by have := HXb.out.lt; omega))
                                replace HXb := Lib.hid (HXb.out.later hb)
                                have HF5 := Lib.hid (hf.less (show wy.heap.size ≤ _ from hHeld.2.size))
                                clear hHeld hr hf hb
                                go_wp2_with fail
                                refine hK.out _ _ HS (fun hHeld => ?_)
                                clear hK K HS
                                try simp only [Act.put, List.setIfInBounds_toArray, List.set_cons_zero, List.set_cons_succ]
                                refine wpAnyW_take (i := 6) (v := ?_) (by simp only [List.getElem?_toArray, List.getElem?_cons_succ, List.getElem?_cons_zero]; rfl) (by kernel_rfl) (by kernel_rfl) (by kernel_rfl) (by kernel_rfl) (by kernel_rfl) (fun _ _ _ h => h) (Or.inl ⟨by rfl, ?_⟩) (by assumption) ?_
                                rotate_left 1
                                · (intro w' hSw; go_simp; try with_reducible rfl)
                                try simp only [Act.put, List.setIfInBounds_toArray, List.set_cons_zero, List.set_cons_succ]
                                refine wpAnyW_take (i := 7) (v := ?_) (by simp only [List.getElem?_toArray, List.getElem?_cons_succ, List.getElem?_cons_zero]; rfl) (by kernel_rfl) (by kernel_rfl) (by kernel_rfl) (by kernel_rfl) (by kernel_rfl) (fun _ _ _ h => h) (Or.inl ⟨by rfl, ?_⟩) (by assumption) ?_
                                rotate_left 1
                                · (intro w' hSw; go_simp; try with_reducible rfl)
                                try simp only [Act.put, List.setIfInBounds_toArray, List.set_cons_zero, List.set_cons_succ]
                                refine wpAnyW_take (i := 8) (v := ?_) (by simp only [List.getElem?_toArray, List.getElem?_cons_succ, List.getElem?_cons_zero]; rfl) (by kernel_rfl) (by kernel_rfl) (by kernel_rfl) (by kernel_rfl) (by kernel_rfl) (fun _ _ _ h => h) (Or.inl ⟨by rfl, ?_⟩) (by assumption) ?_
                                rotate_left 1
                                · (intro w' hSw; go_simp; try with_reducible rfl)
                                try simp only [Act.put, List.setIfInBounds_toArray, List.set_cons_zero, List.set_cons_succ]
                                refine wpAnyW_take (i := 9) (v := ?_) (by simp only [List.getElem?_toArray, List.getElem?_cons_succ, List.getElem?_cons_zero]; rfl) (by kernel_rfl) (by kernel_rfl) (by kernel_rfl) (by kernel_rfl) (by kernel_rfl) (fun _ _ _ h => h) (Or.inl ⟨by rfl, ?_⟩) (by assumption) ?_
                                rotate_left 1
                                · (intro w' hSw; go_simp; try with_reducible rfl)
                                try simp only [Act.put, List.setIfInBounds_toArray, List.set_cons_zero, List.set_cons_succ]
                                refine wpAnyW_held (i := 12) (by kernel_rfl) (by simp only [List.getElem?_toArray, List.getElem?_cons_succ, List.getElem?_cons_zero]; rfl) (fun K hK => ?_)
                                rw [if_pos (by rfl)]
                                refine wpB (ty := 32) #[.slice A5 Y.length k5] rfl rfl rfl HXa.out infoB rfl (cellsB_one _ _ _) ?_
                                intro y1 ht hg
                                have HS : (fun V => Bx V g5 32 #[.slice A1 Bg.length k1] ∧ Below wy.heap.size wy V) _ := ⟨hHeld.1.kept hg (by omega), below_of_grown1 hHeld.2 hg hHeld.2.size hzga⟩
                                replace HXb := Lib.hid (HXb.out.kept hg (by omega))
                                replace HR5 := Lib.hid (RowP.keptA HR5.out HNga.out hg)
                                replace HXa := Lib.hid ht
                                clear ht hg hHeld
                                refine hK.out _ _ HS (fun hHeld => ?_)
                                clear hK K HS
                                try simp only [Act.put, List.setIfInBounds_toArray, List.set_cons_zero, List.set_cons_succ]
                                refine wpAnyW_held (i := 13) (by kernel_rfl) (by simp only [List.getElem?_toArray, List.getElem?_cons_succ, List.getElem?_cons_zero]; rfl) (fun K hK => ?_)
                                rw [if_pos (by rfl)]
                                refine wpB (ty := 39) (cellsMg mg) rfl rfl rfl HXb.out infoM rfl (cellsMg_one _) ?_
                                intro y2 ht hg
                                have HS : (fun V => Bx V g5 32 #[.slice A1 Bg.length k1] ∧ Below wy.heap.size wy V) _ := ⟨hHeld.1.kept hg (by omega), below_of_grown1 hHeld.2 hg hHeld.2.size hzgb⟩
                                replace HXa := Lib.hid (HXa.out.kept hg (by omega))
                                replace HR5 := Lib.hid (RowP.keptA HR5.out HNgb.out hg)
                                replace HXb := Lib.hid ht
                                clear ht hg hHeld
                                refine hK.out _ _ HS (fun hHeld => ?_)
                                clear hK K HS
                                try simp only [Act.put, List.setIfInBounds_toArray, List.set_cons_zero, List.set_cons_succ]
                                refine wpAnyW_freed (i := 14) (by kernel_rfl) (by kernel_rfl) (by simp only [List.getElem?_toArray, List.getElem?_cons_succ, List.getElem?_cons_zero]; rfl) (fun K hK => ?_)
                                rw [if_pos (by rfl)]
                                go_simp
                                have HE := Lib.hid hHeld
                                refine hK.out _ _ ?_
                                clear hK K hHeld
                                try simp only [Act.put, List.setIfInBounds_toArray, List.set_cons_zero, List.set_cons_succ]
                                refine wpAnyW_done (by kernel_rfl) ?_ _
                                refine NoPanic.normal ?_
                                go_wp2_with fail
                                go_meet
                                exact ⟨_, ga, gb, A5, k5, rfl, rfl, rfl, rfl, Lib.hid ⟨HXa.out, HXb.out, HE.out.1, HR5.out, HF5.out, hzga, hzgb, HE.out.2⟩⟩
                        · as_aux_lemma =>
                            rw [if_pos (by rfl)]
                            obtain ⟨v0, hv0, HXb, HBv0, hsv0⟩ := one_open wy.drew 39 #[.int .u32 0, .bool false, .int .u16 0, .int .u16 0, .int .u32 0, .string ⟨#[]⟩]
                            obtain ⟨gb, hgb⟩ : ∃ g, wy.drew.heap.size = g := ⟨_, rfl⟩
                            rw [hgb] at HXb hsv0
                            have HS : (fun V => Bx V g5 32 #[.slice A1 Bg.length k1] ∧ Below wy.heap.size wy V) _ := ⟨hHeld.1.later HBv0.out, hHeld.2.trans (HBv0.out.mono hHeld.2.size)⟩
                            have hzgb : wy.heap.size ≤ gb := by have := hHeld.2.size; omega
                            clear hHeld HBv0 hsv0
                            go_simp
                            refine hK.out _ _ HS (fun hHeld => ?_)
                            clear hK K HS
                            try simp only [Act.put, List.setIfInBounds_toArray, List.set_cons_zero, List.set_cons_succ]
                            clear hgb
                            refine wpAnyW_two (i := 5) (i2 := 10) (by kernel_rfl) (by simp only [List.getElem?_toArray, List.getElem?_cons_succ, List.getElem?_cons_zero]; rfl) (by simp only [List.getElem?_toArray, List.getElem?_cons_succ, List.getElem?_cons_zero]; rfl) (fun K hK => ?_) (fun K hK => ?_)
                            · as_aux_lemma =>
                                rw [if_pos (by rfl)]
                                go_simp
                                refine (HPU.out _ _ (HRB.out.below hHeld.2)).mono ?_
                                rintro _ u5 ⟨A5, k5, rfl, hr, hf, hb⟩
                                have HS : (fun V => Bx V g5 32 #[.slice A1 Bg.length k1] ∧ Below wy.heap.size wy V) _ := ⟨hHeld.1.later hb, hHeld.2.trans (hb.mono hHeld.2.size)⟩
                                have HR5 := Lib.hid hr
                                have HNgb := Lib.hid (Apart.freshOf hr hf (show gb < _ by have := HXb.out.lt; omega))
                                replace HXb := Lib.hid (HXb.out.later hb)
                                have HF5 := Lib.hid (hf.less (show wy.heap.size ≤ _ from hHeld.2.size))
                                clear hHeld hr hf hb
                                go_wp2_with fail
                                refine hK.out _ _ HS (fun hHeld => ?_)
                                clear hK K HS
                                try simp only [Act.put, List.setIfInBounds_toArray, List.set_cons_zero, List.set_cons_succ]
                                refine wpAnyW_take (i := 6) (v := ?_) (by simp only [List.getElem?_toArray, List.getElem?_cons_succ, List.getElem?_cons_zero]; rfl) (by kernel_rfl) (by kernel_rfl) (by kernel_rfl) (by kernel_rfl) (by kernel_rfl) (fun _ _ _ h => h) (Or.inl ⟨by rfl, ?_⟩) (by assumption) ?_
                                rotate_left 1
                                · (intro w' hSw; go_simp; try with_reducible rfl)
                                try simp only [Act.put, List.setIfInBounds_toArray, List.set_cons_zero, List.set_cons_succ]
                                refine wpAnyW_take (i := 7) (v := ?_) (by simp only [List.getElem?_toArray, List.getElem?_cons_succ, List.getElem?_cons_zero]; rfl) (by kernel_rfl) (by kernel_rfl) (by kernel_rfl) (by kernel_rfl) (by kernel_rfl) (fun _ _ _ h => h) (Or.inl ⟨by rfl, ?_⟩) (by assumption) ?_
                                rotate_left 1
                                · (intro w' hSw; go_simp; try with_reducible rfl)
                                try simp only [Act.put, List.setIfInBounds_toArray, List.set_cons_zero, List.set_cons_succ]
                                refine wpAnyW_take (i := 8) (v := ?_) (by simp only [List.getElem?_toArray, List.getElem?_cons_succ, List.getElem?_cons_zero]; rfl) (by kernel_rfl) (by kernel_rfl) (by kernel_rfl) (by kernel_rfl) (by kernel_rfl) (fun _ _ _ h => h) (Or.inl ⟨by rfl, ?_⟩) (by assumption) ?_
                                rotate_left 1
                                · (intro w' hSw; go_simp; try with_reducible rfl)
                                try simp only [Act.put, List.setIfInBounds_toArray, List.set_cons_zero, List.set_cons_succ]
                                refine wpAnyW_take (i := 9) (v := ?_) (by simp only [List.getElem?_toArray, List.getElem?_cons_succ, List.getElem?_cons_zero]; rfl) (by kernel_rfl) (by kernel_rfl) (by kernel_rfl) (by kernel_rfl) (by kernel_rfl) (fun _ _ _ h => h) (Or.inl ⟨by rfl, ?_⟩) (by assumption) ?_
                                rotate_left 1
                                · (intro w' hSw; go_simp; try with_reducible rfl)
                                try simp only [Act.put, List.setIfInBounds_toArray, List.set_cons_zero, List.set_cons_succ]
                                refine wpAnyW_held (i := 10) (by kernel_rfl) (by simp only [List.getElem?_toArray, List.getElem?_cons_succ, List.getElem?_cons_zero]; rfl) (fun K hK => ?_)
                                rw [if_pos (by rfl)]
                                obtain ⟨v2, hv2, HXa, HBv2, hsv2⟩ := one_open u5 32 #[.slice none 0 0]
                                obtain ⟨ga, hga⟩ : ∃ g, u5.heap.size = g := ⟨_, rfl⟩
                                rw [hga] at HXa hsv2
                                have HS : (fun V => Bx V g5 32 #[.slice A1 Bg.length k1] ∧ Below wy.heap.size wy V) _ := ⟨hHeld.1.later HBv2.out, hHeld.2.trans (HBv2.out.mono hHeld.2.size)⟩
                                have hzga : wy.heap.size ≤ ga := by have := hHeld.2.size; omega
                                have HNga := Lib.hid (Apart.new HR5.out (Nat.le_of_eq hga))
                                replace HR5 := Lib.hid (RowP.below HR5.out HBv2.out)
                                have hneab : gb ≠ ga := by have := HXb.out.lt; omega
                                replace HXb := Lib.hid (HXb.out.later HBv2.out)
                                clear hHeld HBv2 hsv2
                                go_simp
                                refine hK.out _ _ HS (fun hHeld => ?_)
                                clear hK K HS
                                try simp only [Act.put, List.setIfInBounds_toArray, List.set_cons_zero, List.set_cons_succ]
                                clear hga
                                refine wpAnyW_held (i := 12) (by kernel_rfl) (by simp only [List.getElem?_toArray, List.getElem?_cons_succ, List.getElem?_cons_zero]; rfl) (fun K hK => ?_)
                                rw [if_pos (by rfl)]
                                refine wpB (ty := 32) #[.slice A5 Y.length k5] rfl rfl rfl HXa.out infoB rfl (cellsB_one _ _ _) ?_
                                intro y1 ht hg
                                have HS : (fun V => Bx V g5 32 #[.slice A1 Bg.length k1] ∧ Below wy.heap.size wy V) _ := ⟨hHeld.1.kept hg (by omega), below_of_grown1 hHeld.2 hg hHeld.2.size hzga⟩
                                replace HXb := Lib.hid (HXb.out.kept hg (by omega))
                                replace HR5 := Lib.hid (RowP.keptA HR5.out HNga.out hg)
                                replace HXa := Lib.hid ht
                                clear ht hg hHeld
                                refine hK.out _ _ HS (fun hHeld => ?_)
                                clear hK K HS
                                try simp only [Act.put, List.setIfInBounds_toArray, List.set_cons_zero, List.set_cons_succ]
                                refine wpAnyW_held (i := 13) (by kernel_rfl) (by simp only [List.getElem?_toArray, List.getElem?_cons_succ, List.getElem?_cons_zero]; rfl) (fun K hK => ?_)
                                rw [if_pos (by rfl)]
                                refine wpB (ty := 39) (cellsMg mg) rfl rfl rfl HXb.out infoM rfl (cellsMg_one _) ?_
                                intro y2 ht hg
                                have HS : (fun V => Bx V g5 32 #[.slice A1 Bg.length k1] ∧ Below wy.heap.size wy V) _ := ⟨hHeld.1.kept hg (by omega), below_of_grown1 hHeld.2 hg hHeld.2.size hzgb⟩
                                replace HXa := Lib.hid (HXa.out.kept hg (by omega))
                                replace HR5 := Lib.hid (RowP.keptA HR5.out HNgb.out hg)
                                replace HXb := Lib.hid ht
                                clear ht hg hHeld
                                refine hK.out _ _ HS (fun hHeld => ?_)
                                clear hK K HS
                                try simp only [Act.put, List.setIfInBounds_toArray, List.set_cons_zero, List.set_cons_succ]
                                refine wpAnyW_freed (i := 14) (by kernel_rfl) (by kernel_rfl) (by simp only [List.getElem?_toArray, List.getElem?_cons_succ, List.getElem?_cons_zero]; rfl) (fun K hK => ?_)
                                rw [if_pos (by rfl)]
                                go_simp
                                have HE := Lib.hid hHeld
                                refine hK.out _ _ ?_
                                clear hK K hHeld
                                try simp only [Act.put, List.setIfInBounds_toArray, List.set_cons_zero, List.set_cons_succ]
                                refine wpAnyW_done (by kernel_rfl) ?_ _
                                refine NoPanic.normal ?_
                                go_wp2_with fail
                                go_meet
                                exact ⟨_, ga, gb, A5, k5, rfl, rfl, rfl, rfl, Lib.hid ⟨HXa.out, HXb.out, HE.out.1, HR5.out, HF5.out, hzga, hzgb, HE.out.2⟩⟩
                            · as_aux_lemma =>
                                rw [if_pos (by rfl)]
                                obtain ⟨v1, hv1, HXa, HBv1, hsv1⟩ := one_open v0 32 #[.slice none 0 0]
                                obtain ⟨ga, hga⟩ : ∃ g, v0.heap.size = g := ⟨_, rfl⟩
                                rw [hga] at HXa hsv1
                                have HS : (fun V => Bx V g5 32 #[.slice A1 Bg.length k1] ∧ Below wy.heap.size wy V) _ := ⟨hHeld.1.later HBv1.out, hHeld.2.trans (HBv1.out.mono hHeld.2.size)⟩
                                have hzga : wy.heap.size ≤ ga := by have := hHeld.2.size; omega
                                have hneab : gb ≠ ga := by have := HXb.out.lt; omega
                                replace HXb := Lib.hid (HXb.out.later HBv1.out)
                                clear hHeld HBv1 hsv1
                                go_simp
                                refine hK.out _ _ HS (fun hHeld => ?_)
                                clear hK K HS
                                try simp only [Act.put, List.setIfInBounds_toArray, List.set_cons_zero, List.set_cons_succ]
                                clear hga
                                refine wpAnyW_held (i := 5) (by kernel_rfl) (by simp only [List.getElem?_toArray, List.getElem?_cons_succ, List.getElem?_cons_zero]; rfl) (fun K hK => ?_)
                                rw [if_pos (by rfl)]
                                go_simp
                                refine (HPU.out _ _ (HRB.out.below hHeld.2)).mono ?_
                                rintro _ u5 ⟨A5, k5, rfl, hr, hf, hb⟩
                                have HS : (fun V => Bx V g5 32 #[.slice A1 Bg.length k1] ∧ Below wy.heap.size wy V) _ := ⟨hHeld.1.later hb, hHeld.2.trans (hb.mono hHeld.2.size)⟩
                                have HR5 := Lib.hid hr
                                have HNgb := Lib.hid (Apart.freshOf hr hf (show gb < _ by have := HXb.out.lt; omega))
                                replace HXb := Lib.hid (HXb.out.later hb)
                                have HNga := Lib.hid (Apart.freshOf hr hf (show ga < _ by have := HXa.out.lt; omega))
                                replace HXa := Lib.hid (HXa.out.later hb)
                                have HF5 := Lib.hid (hf.less (show wy.heap.size ≤ _ from hHeld.2.size))
                                clear hHeld hr hf hb
                                go_wp2_with fail
                                refine hK.out _ _ HS (fun hHeld => ?_)
                                clear hK K HS
                                try simp only [Act.put, List.setIfInBounds_toArray, List.set_cons_zero, List.set_cons_succ]
                                refine wpAnyW_take (i := 6) (v := ?_) (by simp only [List.getElem?_toArray, List.getElem?_cons_succ, List.getElem?_cons_zero]; rfl) (by kernel_rfl) (by kernel_rfl) (by kernel_rfl) (by kernel_rfl) (by kernel_rfl) (fun _ _ _ h => h) (Or.inl ⟨by rfl, ?_⟩) (by assumption) ?_
                                rotate_left 1
                                · (intro w' hSw; go_simp; try with_reducible rfl)
                                try simp only [Act.put, List.setIfInBounds_toArray, List.set_cons_zero, List.set_cons_succ]
                                refine wpAnyW_take (i := 7) (v := ?_) (by simp only [List.getElem?_toArray, List.getElem?_cons_succ, List.getElem?_cons_zero]; rfl) (by kernel_rfl) (by kernel_rfl) (by kernel_rfl) (by kernel_rfl) (by kernel_rfl) (fun _ _ _ h => h) (Or.inl ⟨by rfl, ?_⟩) (by assumption) ?_
                                rotate_left 1
                                · (intro w' hSw; go_simp; try with_reducible rfl)
                                try simp only [Act.put, List.setIfInBounds_toArray, List.set_cons_zero, List.set_cons_succ]
                                refine wpAnyW_take (i := 8) (v := ?_) (by simp only [List.getElem?_toArray, List.getElem?_cons_succ, List.getElem?_cons_zero]; rfl) (by kernel_rfl) (by kernel_rfl) (by kernel_rfl) (by kernel_rfl) (by kernel_rfl) (fun _ _ _ h => h) (Or.inl ⟨by rfl, ?_⟩) (by assumption) ?_
                                rotate_left 1
                                · (intro w' hSw; go_simp; try with_reducible rfl)
                                try simp only [Act.put, List.setIfInBounds_toArray, List.set_cons_zero, List.set_cons_succ]
                                refine wpAnyW_take (i := 9) (v := ?_) (by simp only [List.getElem?_toArray, List.getElem?_cons_succ, List.getElem?_cons_zero]; rfl) (by kernel_rfl) (by kernel_rfl) (by kernel_rfl) (by kernel_rfl) (by kernel_rfl) (fun _ _ _ h => h) (Or.inl ⟨by rfl, ?_⟩) (by assumption) ?_
                                rotate_left 1
                                · (intro w' hSw; go_simp; try with_reducible rfl)
                                try simp only [Act.put, List.setIfInBounds_toArray, List.set_cons_zero, List.set_cons_succ]
                                refine wpAnyW_held (i := 12) (by kernel_rfl) (by simp only [List.getElem?_toArray, List.getElem?_cons_succ, List.getElem?_cons_zero]; rfl) (fun K hK => ?_)
                                rw [if_pos (by rfl)]
                                refine wpB (ty := 32) #[.slice A5 Y.length k5] rfl rfl rfl HXa.out infoB rfl (cellsB_one _ _ _) ?_
                                intro y1 ht hg
                                have HS : (fun V => Bx V g5 32 #[.slice A1 Bg.length k1] ∧ Below wy.heap.size wy V) _ := ⟨hHeld.1.kept hg (by omega), below_of_grown1 hHeld.2 hg hHeld.2.size hzga⟩
                                replace HXb := Lib.hid (HXb.out.kept hg (by omega))
                                replace HR5 := Lib.hid (RowP.keptA HR5.out HNga.out hg)
                                replace HXa := Lib.hid ht
                                clear ht hg hHeld
                                refine hK.out _ _ HS (fun hHeld => ?_)
                                clear hK K HS
                                try simp only [Act.put, List.setIfInBounds_toArray, List.set_cons_zero, List.set_cons_succ]
                                refine wpAnyW_held (i := 13) (by kernel_rfl) (by simp only [List.getElem?_toArray, List.getElem?_cons_succ, List.getElem?_cons_zero]; rfl) (fun K hK => ?_)
                                rw [if_pos (by rfl)]
                                refine wpB (ty := 39) (cellsMg mg) rfl rfl rfl HXb.out infoM rfl (cellsMg_one _) ?_
                                intro y2 ht hg
                                have HS : (fun V => Bx V g5 32 #[.slice A1 Bg.length k1] ∧ Below wy.heap.size wy V) _ := ⟨hHeld.1.kept hg (by omega), below_of_grown1 hHeld.2 hg hHeld.2.size hzgb⟩
                                replace HXa := Lib.hid (HXa.out.kept hg (by omega))
                                replace HR5 := Lib.hid (RowP.keptA HR5.out HNgb.out hg)
                                replace HXb := Lib.hid ht
                                clear ht hg hHeld
                                refine hK.out _ _ HS (fun hHeld => ?_)
                                clear hK K HS
                                try simp only [Act.put, List.setIfInBounds_toArray, List.set_cons_zero, List.set_cons_succ]
                                refine wpAnyW_freed (i := 14) (by kernel_rfl) (by kernel_rfl) (by simp only [List.getElem?_toArray, List.getElem?_cons_succ, List.getElem?_cons_zero]; rfl) (fun K hK => ?_)
                                rw [if_pos (by rfl)]
                                go_simp
                                have HE := Lib.hid hHeld
                                refine hK.out _ _ ?_
                                clear hK K hHeld
                                try simp only [Act.put, List.setIfInBounds_toArray, List.set_cons_zero, List.set_cons_succ]
                                refine wpAnyW_done (by kernel_rfl) ?_ _
                                refine NoPanic.normal ?_
                                go_wp2_with fail
                                go_meet
                                exact ⟨_, ga, gb, A5, k5, rfl, rfl, rfl, rfl, Lib.hid ⟨HXa.out, HXb.out, HE.out.1, HR5.out, HF5.out, hzga, hzgb, HE.out.2⟩⟩
                    case rest =>
                      obtain ⟨wz, ga, gb, A3, k3, rfl, rfl, rfl, rfl, HH⟩ := hcut
                      obtain ⟨ha, hmb, hq5, hr5, hf5, hga, hgb, hbb⟩ := HH.out
                      have HXA := Lib.hid ha
                      have HMB := Lib.hid hmb
                      replace HQ := Lib.hid hq5
                      have HR5 := Lib.hid hr5
                      have HF5 := Lib.hid hf5
                      replace HRW := Lib.hid (RowP.below HRW.out hbb)
                      replace HOT := Lib.hid (HOT.out.later hbb)
                      replace HB := Lib.hid (HB.out.trans (hbb.mono HB.out.size))
                      clear ha hmb hq5 hr5 hf5 hbb HH HRG HPU HRB hkI hk0
                      go_upto_if 178 with fail
                      go_cut [20] from 143 to 214 (fun v20 wx => ∃ (wv : World) (tl2 : List ByteArray) (A9 : Option Addr) (c9 : Nat), wv = wx ∧ v20 = .slice A9 tl2.length c9 ∧ Hid (tl2.length = ta2.toNat + tb2.toNat ∧ OwnG wv (g5 + 1) 9 1 (.slice A9 tl2.length c9) tl2.length (tl2.map encS) ∧ Bx wv ga 32 #[.slice A3 Y.length k3] ∧ Bx wv g5 32 #[.slice A1 Bg.length k1] ∧ RowP wv (.slice A3 Y.length k3) Y ∧ RowP wv (.slice (some ⟨b, off, none⟩) nl c) rest ∧ Below w.heap.size w wv))
                      case first =>
                        as_aux_lemma =>
                          have hgz : g5 < wz.heap.size := HQ.out.lt
                          rcases HCA.out with ⟨rfl, hct⟩ | ⟨rfl, rfl | rfl, hct⟩
                          · have HCT := Lib.hid hct
                            clear hct
                            go_wp2_with fail
                            go_meet
                            exact ⟨_, tl, At, ct, rfl, by rw [HNT.out], Lib.hid ⟨by rw [HTN.out, HCT.out], by rw [HNT.out]; exact HOT.out, HXA.out, HQ.out, HR5.out, HRW.out, HB.out⟩⟩
                          · have m5 := HMB.out.cell 5 (.string s) rfl
                            have HCT := Lib.hid hct
                            have HL8 : Hid ((tl ++ [s]).length = nt + 1) := Lib.hid (by rw [List.length_append, HNT.out]; rfl)
                            have HP8 : Hid ((tl ++ [s]).map encS = tl.map encS ++ [.string s]) := Lib.hid (by rw [List.map_append]; rfl)
                            clear hct
                            go_wp2_with (at_builtin; (refine wpList_append_fed _ rfl (.tmp 179) (.tmp 182) 23 23 rfl (g5 + 1) 9 iS _ 1 16 Try.underlying23 (.inr ⟨_, Try.underlying23⟩) HIS.out HS0.out HS1.out HS2.out rfl _ (nt) _ rfl (HOT.out.alloc _) _ 1 [.string s] rfl (Fed.block (heap_alloc_new _ _) rfl (one_str _)) (by unfold maxLen; omega) (by omega) (by rw [World.size_alloc]; omega) ?_; intro v8 w8 hown hgr; replace HXA := Lib.hid ((HXA.out.old _).offO (fun q hq => by have := HTL.out q hq; omega) hgr); replace HMB := Lib.hid ((HMB.out.old _).offO (fun q hq => by have := HTL.out q hq; omega) hgr); replace HQ := Lib.hid ((HQ.out.old _).offO (fun q hq => by have := (HOT.out.lt q hq).1; omega) hgr); replace HR5 := Lib.hid ((RowP.below HR5.out ((Below.refl _ _).alloc (Nat.le_refl _) _)).offO (fun q hq => Apart.fresh HF5.out (HTL.out q hq)) hgr); replace HRW := Lib.hid ((RowP.below HRW.out ((Below.refl _ _).alloc (Nat.le_refl _) _)).offO HOF.out hgr); replace HB := Lib.hid ((HB.out.alloc HB.out.size _).grown hgr (by rw [World.size_alloc]; exact Nat.le_succ_of_le HB.out.size) (fun q hq => by have := (HOT.out.lt q hq).1; omega)); obtain ⟨A8, k8, rfl, -, -, -⟩ := id hown.slice; have HO8 := Lib.hid hown; have m3 := HMB.out.cell 3 (.int .u16 0) rfl; have m5 := HMB.out.cell 5 (.string s) rfl; clear hown hgr))
                            go_meet
                            exact ⟨_, tl ++ [s], A8, k8, rfl, by rw [HL8.out], Lib.hid ⟨by rw [HL8.out, HCT.out, ← HTN.out, HNT.out], by rw [HL8.out, HP8.out]; exact HO8.out, HXA.out, HQ.out, HR5.out, HRW.out, HB.out⟩⟩
                          · have m5 := HMB.out.cell 5 (.string t) rfl
                            have HCT := Lib.hid hct
                            have HL8 : Hid ((tl ++ [t]).length = nt + 1) := Lib.hid (by rw [List.length_append, HNT.out]; rfl)
                            have HP8 : Hid ((tl ++ [t]).map encS = tl.map encS ++ [.string t]) := Lib.hid (by rw [List.map_append]; rfl)
                            clear hct
                            go_wp2_with (at_builtin; (refine wpList_append_fed _ rfl (.tmp 179) (.tmp 182) 23 23 rfl (g5 + 1) 9 iS _ 1 16 Try.underlying23 (.inr ⟨_, Try.underlying23⟩) HIS.out HS0.out HS1.out HS2.out rfl _ (nt) _ rfl (HOT.out.alloc _) _ 1 [.string t] rfl (Fed.block (heap_alloc_new _ _) rfl (one_str _)) (by unfold maxLen; omega) (by omega) (by rw [World.size_alloc]; omega) ?_; intro v8 w8 hown hgr; replace HXA := Lib.hid ((HXA.out.old _).offO (fun q hq => by have := HTL.out q hq; omega) hgr); replace HMB := Lib.hid ((HMB.out.old _).offO (fun q hq => by have := HTL.out q hq; omega) hgr); replace HQ := Lib.hid ((HQ.out.old _).offO (fun q hq => by have := (HOT.out.lt q hq).1; omega) hgr); replace HR5 := Lib.hid ((RowP.below HR5.out ((Below.refl _ _).alloc (Nat.le_refl _) _)).offO (fun q hq => Apart.fresh HF5.out (HTL.out q hq)) hgr); replace HRW := Lib.hid ((RowP.below HRW.out ((Below.refl _ _).alloc (Nat.le_refl _) _)).offO HOF.out hgr); replace HB := Lib.hid ((HB.out.alloc HB.out.size _).grown hgr (by rw [World.size_alloc]; exact Nat.le_succ_of_le HB.out.size) (fun q hq => by have := (HOT.out.lt q hq).1; omega)); obtain ⟨A8, k8, rfl, -, -, -⟩ := id hown.slice; have HO8 := Lib.hid hown; have m3 := HMB.out.cell 3 (.int .u16 1) rfl; have m5 := HMB.out.cell 5 (.string t) rfl; clear hown hgr))
                            go_meet
                            exact ⟨_, tl ++ [t], A8, k8, rfl, by rw [HL8.out], Lib.hid ⟨by rw [HL8.out, HCT.out, ← HTN.out, HNT.out], by rw [HL8.out, HP8.out]; exact HO8.out, HXA.out, HQ.out, HR5.out, HRW.out, HB.out⟩⟩
                      case rest =>
                        obtain ⟨wv, tl2, A9, c9, rfl, rfl, HH⟩ := hcut
                        obtain ⟨htn2, hot, hxa, hq5, hr5, hrw, hb⟩ := HH.out
                        obtain ⟨n9, hn9⟩ : ∃ q, tl2.length = q := ⟨_, rfl⟩
                        have HN9 := Lib.hid hn9
                        have HTN2 := Lib.hid htn2
                        rw [hn9] at hot ⊢
                        replace HOT := Lib.hid hot
                        replace HXA := Lib.hid hxa
                        replace HQ := Lib.hid hq5
                        replace HR5 := Lib.hid hr5
                        replace HRW := Lib.hid hrw
                        replace HB := Lib.hid hb
                        clear hot hxa hq5 hr5 hrw hb HH hn9 htn2 HMB hga hgb HCA
                        go_upto_region 33 with (first
                          | ((with_reducible refine gate9 ?_); refine ldB (ty := 32) (cs := #[.slice A3 Y.length k3]) rfl rfl rfl HXA.out Try.underlying32 rfl infoB ?_)
                          | ((with_reducible refine gate9 ?_); refine stB (ty := 32) #[.slice A3 Y.length k3] rfl rfl rfl rfl HQ.out infoB rfl (cellsB_one _ _ _) ?_; intro w31 ht hg; replace HR5 := Lib.hid (RowP.stays HR5.out HF5.out hg hgy); replace HRW := Lib.hid (RowP.keptA HRW.out HAP.out hg); replace HOT := Lib.hid (HOT.out.offB hg); replace HB := Lib.hid (below_of_grown1 HB.out hg HB.out.size hwg0); replace HQ := Lib.hid ht; clear ht hg))
                        have hgv : g5 < w31.heap.size := HQ.out.lt
                        have hr8 := HRW.out
                        rw [← HNL.out] at hr8
                        obtain ⟨b', off', c', e9, hbl', hc1', hc2', hcl'⟩ := hr8.at8 (by omega)
                        rw [HNL.out] at e9 hc1'
                        cases e9
                        have HTL2 := Lib.hid (show ∀ q, (Value.slice A9 n9 c9).ownBlock = some q → q < w31.heap.size from fun q hq => (HOT.out.lt q hq).2)
                        have hcI : (nl : Int) ≤ (c : Int) := by omega
                        have hcJ : (c : Int) ≤ 9223372036854775807 := by unfold maxLen at hc2'; omega
                        have hkc : k ≤ c := by omega
                        obtain ⟨kx, hkx⟩ : ∃ x, k + 1 = x := ⟨_, rfl⟩
                        have HS3 := Lib.hid (RowP.s1 (c := c) hbl' hcl' hkl)
                        have HS4 := Lib.hid (RowP.s2 (kx := kx) hbl' hcl' HNL.out (by omega))
                        have HC1 := Lib.hid (flatP_one (rest.take k))
                        have HC2 := Lib.hid (flatP_one (rest.drop kx))
                        have HNM : Hid (k ≤ 62 ∧ nl ≤ 62) := Lib.hid ⟨by omega, by omega⟩
                        have s9 : IntKind.i64.wrap ((k : Int) + 1) = (kx : Int) := by rw [IntKind.wrap_i64]; omega
                        have s10 : (kx : Int) ≤ (nl : Int) := by omega
                        have hkI : (k : Int) < (nl : Int) := by omega
                        have hk0 : (0 : Int) ≤ (k : Int) := by omega
                        obtain ⟨oo, hoo, HOO⟩ : ∃ oo, (if c = kx then some (⟨b, off, none⟩ : Addr) else some ⟨b, off + kx * 8, none⟩) = some ⟨b, oo, none⟩ ∧ Hid (oo = off + kx * 8 ∨ nl = kx) := by
                          by_cases h : c = kx
                          · exact ⟨off, by rw [if_pos h], Lib.hid (.inr (by omega))⟩
                          · exact ⟨off + kx * 8, by rw [if_neg h], Lib.hid (.inl rfl)⟩
                        have HKX := Lib.hid hkx
                        have HKL := Lib.hid hkl
                        clear hkx hkl hc1 hc2 hc1' hc2' hcl' hr8 hk
                        as_aux_lemma =>
                          have HS : (fun V => Below w31.heap.size w31 V) w31.drew := below_drawn (Below.refl _ _)
                          refine wp_region_noPanic ?_
                          refine wp_region_waits (S := (fun V => Below w31.heap.size w31 V)) [10] (by kernel_rfl) HS (fun hHeld => ?_)
                          clear HS
                          refine wpAnyW_take (i := 1) (v := ?_) (by simp only [List.getElem?_toArray, List.getElem?_cons_succ, List.getElem?_cons_zero]; rfl) (by kernel_rfl) (by kernel_rfl) (by kernel_rfl) (by kernel_rfl) (by kernel_rfl) (fun _ _ _ h => h) (Or.inl ⟨by rfl, ?_⟩) (by assumption) ?_
                          rotate_left 1
                          · (intro w' hSw; go_simp; try with_reducible rfl)
                          try simp only [Act.put, List.setIfInBounds_toArray, List.set_cons_zero, List.set_cons_succ]
                          refine wpAnyW_take (i := 2) (v := ?_) (by simp only [List.getElem?_toArray, List.getElem?_cons_succ, List.getElem?_cons_zero]; rfl) (by kernel_rfl) (by kernel_rfl) (by kernel_rfl) (by kernel_rfl) (by kernel_rfl) (fun _ _ _ h => h) (Or.inl ⟨by rfl, ?_⟩) (by assumption) ?_
                          rotate_left 1
                          · (intro w' hSw; go_simp; try with_reducible rfl)
                          try simp only [Act.put, List.setIfInBounds_toArray, List.set_cons_zero, List.set_cons_succ]
                          refine wpAnyW_take (i := 3) (v := ?_) (by simp only [List.getElem?_toArray, List.getElem?_cons_succ, List.getElem?_cons_zero]; rfl) (by kernel_rfl) (by kernel_rfl) (by kernel_rfl) (by kernel_rfl) (by kernel_rfl) (fun _ _ _ h => h) (Or.inl ⟨by rfl, ?_⟩) (by assumption) ?_
                          rotate_left 1
                          · (intro w' hSw; go_simp; try with_reducible rfl)
                          try simp only [Act.put, List.setIfInBounds_toArray, List.set_cons_zero, List.set_cons_succ]
                          refine wpAnyW_take (i := 5) (v := ?_) (by simp only [List.getElem?_toArray, List.getElem?_cons_succ, List.getElem?_cons_zero]; rfl) (by kernel_rfl) (by kernel_rfl) (by kernel_rfl) (by kernel_rfl) (by kernel_rfl) (fun _ _ _ h => h) (Or.inl ⟨by rfl, ?_⟩) (by assumption) ?_
                          rotate_left 1
                          · (intro w' hSw; go_simp; try with_reducible rfl)
                          try simp only [Act.put, List.setIfInBounds_toArray, List.set_cons_zero, List.set_cons_succ]
                          refine wpAnyW_take (i := 6) (v := ?_) (by simp only [List.getElem?_toArray, List.getElem?_cons_succ, List.getElem?_cons_zero]; rfl) (by kernel_rfl) (by kernel_rfl) (by kernel_rfl) (by kernel_rfl) (by kernel_rfl) (fun _ _ _ h => h) (Or.inl ⟨by rfl, ?_⟩) (by assumption) ?_
                          rotate_left 1
                          · (intro w' hSw; go_simp; try with_reducible rfl)
                          try simp only [Act.put, List.setIfInBounds_toArray, List.set_cons_zero, List.set_cons_succ]
                          refine wpAnyW_take (i := 7) (v := ?_) (by simp only [List.getElem?_toArray, List.getElem?_cons_succ, List.getElem?_cons_zero]; rfl) (by kernel_rfl) (by kernel_rfl) (by kernel_rfl) (by kernel_rfl) (by kernel_rfl) (fun _ _ _ h => h) (Or.inl ⟨by rfl, ?_⟩) (by assumption) ?_
                          rotate_left 1
                          · (intro w' hSw; go_simp; try with_reducible rfl)
                          try simp only [Act.put, List.setIfInBounds_toArray, List.set_cons_zero, List.set_cons_succ]
                          refine wpAnyW_take (i := 8) (v := ?_) (by simp only [List.getElem?_toArray, List.getElem?_cons_succ, List.getElem?_cons_zero]; rfl) (by kernel_rfl) (by kernel_rfl) (by kernel_rfl) (by kernel_rfl) (by kernel_rfl) (fun _ _ _ h => h) (Or.inl ⟨by rfl, ?_⟩) (by assumption) ?_
                          rotate_left 1
                          · (intro w' hSw; go_simp; try with_reducible rfl)
                          try simp only [Act.put, List.setIfInBounds_toArray, List.set_cons_zero, List.set_cons_succ]
                          refine wpAnyW_held (i := 0) (by kernel_rfl) (by simp only [List.getElem?_toArray, List.getElem?_cons_zero]; rfl) (fun K hK => ?_)
                          rw [if_pos (by rfl)]
                          obtain ⟨v33, hv33, HX33, HB33, hs33⟩ := one_open w31.drew 43 #[]
                          have HS : (fun V => Below w31.heap.size w31 V) v33 := hHeld.trans (HB33.out.mono hHeld.size)
                          clear hHeld HB33 hs33
                          go_wp2_with fail
                          refine hK.out _ _ HS (fun hHeld => ?_)
                          clear hK K HS
                          try simp only [Act.put, List.setIfInBounds_toArray, List.set_cons_zero, List.set_cons_succ]
                          refine wpAnyW_held (i := 4) (by kernel_rfl) (by simp only [List.getElem?_toArray, List.getElem?_cons_succ, List.getElem?_cons_zero]; rfl) (fun K hK => ?_)
                          refine step_append_src _ (by rfl) (.tmp 205) (.tmp 208) _ (by rfl) w31 43 i0 _ 8 32 Try.underlying29 HI.out HZ0.out HZ1.out HZ2.out rfl (by omega) _ 0 [] (by rfl) (own_none HX33.out (Nat.le_refl _)) _ k _ (by rfl) (HS3.out _ hHeld) HC1.out (by have := HNM.out; simp only [maxLen]; omega) (by have := HNM.out; omega) hHeld ?_
                          intro v45 w45 hown45 hg45 HS
                          have HO45 := Lib.hid hown45
                          clear hHeld hown45 hg45 HX33 hv33
                          refine hK.out _ _ HS (fun hHeld => ?_)
                          clear hK K HS
                          try simp only [Act.put, List.setIfInBounds_toArray, List.set_cons_zero, List.set_cons_succ]
                          refine wpAnyW_held (i := 9) (by kernel_rfl) (by simp only [List.getElem?_toArray, List.getElem?_cons_succ, List.getElem?_cons_zero]; rfl) (fun K hK => ?_)
                          refine step_append_src _ (by rfl) (.tmp 209) (.tmp 213) _ (by rfl) w31 43 i0 _ 8 32 Try.underlying29 HI.out HZ0.out HZ1.out HZ2.out rfl (by omega) _ (0 + k) ([] ++ flatP (rest.take k)) (by rfl) HO45.out _ (nl - kx) _ (by rfl) (HS4.out _ hHeld _ _ HOO.out) HC2.out (by have := HNM.out; simp only [maxLen]; omega) (by have := HNM.out; omega) hHeld ?_
                          intro v58 w58 hown58 hg58 HS
                          obtain ⟨A8, c8, rfl, -, -, -⟩ := own_slice hown58
                          obtain ⟨n8, hn8⟩ : ∃ x, 0 + k + (nl - kx) = x := ⟨_, rfl⟩
                          have HAP2 := Lib.hid (Apart.fresh (l := rest.take k ++ rest.drop kx) (fresh_own hown58) hgv)
                          have HFT2 := Lib.hid (fresh_own hown58)
                          have HLF2 := Lib.hid (rowP_of_own (l := rest.take k ++ rest.drop kx) (by rw [flatP_append]; exact hown58))
                          rw [hn8] at HLF2 HAP2 HFT2 ⊢
                          have HN8 : Hid (n8 + 1 = nl ∧ k < nl) := Lib.hid ⟨by have := HKX.out; omega, by have := HKX.out; omega⟩
                          clear hHeld hown58 hg58 HO45 hn8
                          refine hK.out _ _ HS (fun hHeld => ?_)
                          clear hK K HS
                          try simp only [Act.put, List.setIfInBounds_toArray, List.set_cons_zero, List.set_cons_succ]
                          refine wpAnyW_freed (i := 10) (by kernel_rfl) (by kernel_rfl) (by simp only [List.getElem?_toArray, List.getElem?_cons_succ, List.getElem?_cons_zero]; rfl) (fun K hK => ?_)
                          rw [if_pos (by rfl)]
                          go_simp
                          have HE := Lib.hid hHeld
                          refine hK.out _ _ ?_
                          clear hK K hHeld
                          try simp only [Act.put, List.setIfInBounds_toArray, List.set_cons_zero, List.set_cons_succ]
                          refine wpAnyW_done (by kernel_rfl) ?_ _
                          refine NoPanic.normal ?_
                          go_wp2_with fail
                          have hE := HE.out
                          have HLE : Hid ((rest.take k ++ rest.drop kx).length = n8) := Lib.hid (by rw [← HKX.out, len_erase HKL.out, HNL.out]; have := HN8.out; omega)
                          replace HMX2 := HMX2
                          rw [HKX.out] at HMX2
                          go_roundw
                          case rel => exact ⟨rest.take k ++ rest.drop kx, Y, tl2, ta2, tb2, A8, A9, c8, c9, i + 1, by rw [HLE.out], by rw [HN9.out], by go_num, Lib.hid (by have := HIL.out; have := HNL.out; have := HN8.out; rw [HLE.out]; omega), HTN2, HMX2, by rw [HLE.out]; exact HLF2, by rw [HLE.out]; exact HAP2, Lib.hid (by rw [HLE.out, HN9.out]; exact fun q hq => Apart.fresh HFT2.out (HTL2.out q hq)), Lib.hid (by rw [HN9.out]; exact HOT.out.later hE), Lib.hid ⟨A3, k3, HQ.out.later hE, RowP.below HR5.out hE⟩, Lib.hid (HB.out.trans (hE.mono HB.out.size))⟩
                          case measure => (show n8 < nl; have := HN8.out; omega)
                · obtain rfl : nl = 0 := by omega
                  have hre : rest = [] := List.eq_nil_of_length_eq_zero HNL.out
                  have hm := HMX.out
                  rw [hre] at hm
                  obtain ⟨d1, d2⟩ := hm.done HTW.out
                  obtain rfl : nt = 2 := by rw [← HNT.out, HTN.out]; exact d1
                  obtain ⟨A1, k1, hbx, hrow⟩ := HBA.out
                  rw [d2] at hbx
                  have z0 := hbx.cell 0 (.slice A1 0 k1) rfl
                  clear hm d1 d2 hbx hrow hre HBA
                  go_wp2_with fail
                  go_ret
                  exact ⟨rfl, HB.out⟩

set_option maxRecDepth 100000 in
theorem lifted (os : Os) (started : os.Started) (H : Type) (enc : TypeId × Value → H) :
    ReturnsInHanded {} Try.checked os 7 .any (Rows.fragMixedSpec.pre6 enc Try.prog Try.f7 Rows.fragMixedRow.domain false) (Rows.fragMixedSpec.post enc Try.prog Try.f7 false true false false) := by
  refine returnsInHanded_of_change_sized (C := Try.checked) own started (by kernel_rfl) Try.func7
    (ChangeSpec.witness6 (enc := enc) (C := Try.checked) false ⟨#[], #[.string ⟨#[]⟩, .string ⟨#[]⟩, .int .i64 0, .int .u32 0, .slice none 0 0], []⟩ 8 (by kernel_rfl) (by kernel_rfl) (by kernel_rfl) (by kernel_rfl)) ?_
  intro W base args ds gs before hval0 hW _ hreach _
  have hval : ∀ (j : Nat) t v, Try.f7.params[j]? = some t → args[j]? = some v → Value.okWide Try.prog W .any base t v := hval0
  obtain ⟨p, q, hA0, _, _, _, _⟩ := id hW
  have hA : DataW.TrodAll enc Try.prog W 0 (fun _ => true) true Try.f7.params.toList args.toList ds p := hA0
  rw [Try.params7] at hA hval
  obtain ⟨v0, vs0, d0, ds0, p0, q0, hargs, rfl, rfl, h0, r0⟩ := trodAll_cons hA
  obtain ⟨v1, vs1, d1, ds1, p1, q1, rfl, rfl, rfl, h1, r1⟩ := trodAll_cons r0
  obtain ⟨v2, vs2, d2, ds2, p2, q2, rfl, rfl, rfl, h2, r2⟩ := trodAll_cons r1
  obtain ⟨v3, vs3, d3, ds3, p3, q3, rfl, rfl, rfl, h3, r3⟩ := trodAll_cons r2
  obtain ⟨v4, vs4, d4, ds4, p4, q4, rfl, rfl, rfl, h4, r4⟩ := trodAll_cons r3
  obtain ⟨rfl, rfl, rfl⟩ := trodAll_nil r4
  obtain rfl : args = #[v0, v1, v2, v3, v4] := by cases args; simp_all
  obtain ⟨a0, rfl, rfl, rfl, w0⟩ := Go.ChangeMaps.open_string Try.underlying9 (hval 0 9 v0 rfl rfl) h0
  obtain ⟨a1, rfl, rfl, rfl, w1⟩ := Go.ChangeMaps.open_string Try.underlying9 (hval 1 9 v1 rfl rfl) h1
  obtain ⟨a2, rfl, rfl, rfl, w2⟩ := open_int Try.underlying3 (hval 2 3 v2 rfl rfl) h2
  obtain ⟨a3, rfl, rfl, rfl, w3⟩ := open_int Try.underlying36 (hval 3 36 v3 rfl rfl) h3
  have b3 := bounds_u32 w3
  obtain ⟨n3, rfl⟩ := num32 (n := a3) (by omega) (by omega)
  obtain ⟨l4, w4, m4⟩ := ints_in (hval 4 56 v4 rfl rfl) h4
  refine (walk a0 a1 a2 n3 l4 v4 W w4 m4 (bounds_i64 w2)).mono fun e W' ⟨he, hg⟩ => ?_
  subst he
  exact ⟨_, rfl, law_post laidOut Try.underlying4 (by kernel_rfl) (by kernel_rfl) rfl hW (by simp [Rows.fragMixedSpec]) hg⟩

theorem proved : Rows.FragMixedSaid :=
  OpenClaim.holds_of_wide 7 Try.f7 rfl rfl rfl rfl rfl rfl rfl ⟨rfl, rfl, rfl, rfl, rfl⟩ rfl rfl rfl rfl rfl (by kernel_rfl) Try.func7 (by kernel_rfl)
    (of_decide_eq_true (by kernel_rfl)) (by unfold Func.isWrapper; first | (rw [if_pos (by decide +kernel)]; kernel_rfl) | (rw [if_neg (by decide +kernel)]; exact ⟨rfl, rfl⟩))
    (fun os started H enc _ => lifted os started H enc)
#print axioms proved
end Go.Proofs.Ytgngdgiipifacaa.fragMixed
