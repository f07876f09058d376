/-
  Whatever happens, pieces stay right; each is done once at most, in the order in which they were sent; what was told is told but once for good; what is under way is no more than was sent and not yet told: any first number, any acts.
-/
import Derived.Test.YtpgdofhnpiefjaaLift
import Derived.Test.YtpgdofhnpiefjaaArgA
import Derived.Test.YtpgdofhnpiefjaaSx
import Derived.Deep.CutBlock
import Derived.Deep.CutRange
namespace Go.Proofs.Ytpgdofhnpiefjaa.sentPlays
open Go.ChangeShapes Go.WideShapes Go.ChangeAt Go.RowKit
set_option linter.unusedVariables false
set_option linter.unusedSimpArgs false
set_option maxRecDepth 100000

theorem RowP.keptNe {w w' : World} {v : Value} {l : List Pc} {g : Nat} (h : RowP w v l) (hne : ∀ a n c, v = Value.slice (some a) n c → a.block ≠ g) (hg : w.grownBy w' (some g)) : RowP w' v l := by
  obtain ⟨A, cap, rfl, hc, hm, h⟩ := h
  refine ⟨A, cap, rfl, hc, hm, fun hl => ?_⟩
  obtain ⟨b, off, rfl, hlt, hcell⟩ := h hl
  have hB : b ≠ g := hne _ _ _ rfl
  have hs := hg.block b hlt (by simp; omega)
  exact ⟨b, off, rfl, Nat.lt_of_lt_of_le hlt hg.size, fun j hj t u hu => by
    have := hcell j hj t u hu
    rw [← this]
    exact World.cell?_of_block (w := w) (a := ⟨b, off + j * 7 + t, none⟩) hs⟩
theorem RowP.ne_new {w : World} {v : Value} {l : List Pc} {g : Nat} (h : RowP w v l) (hl : 0 < l.length) (hg : w.heap.size ≤ g) : ∀ a n c, v = Value.slice (some a) n c → a.block ≠ g := by
  obtain ⟨A, cap, rfl, hc, hm, h⟩ := h
  obtain ⟨b, off, rfl, hlt, hcell⟩ := h hl
  intro a n c e
  cases e
  show b ≠ g
  omega
theorem next_len {c : UInt32} {l m : List Pc} (h : m.length = l.length) : nextL c m = nextL c l := by unfold nextL; rw [h]
theorem next_ack {c : UInt32} {l m : List Pc} {u : Nat} (hu : u ≤ l.length) (h : m.length = l.length - u) : nextL (c + UInt32.ofNat u) m = nextL c l := by
  unfold nextL
  rw [h, UInt32.add_assoc c]
  congr 2
  apply UInt32.toNat_inj.1
  simp only [UInt32.toNat_add, UInt32.toNat_ofNat']
  omega
theorem next_num1 (x : UInt32) : ((x.toNat : Int) + 1) % 4294967296 = ((x + 1).toNat : Int) := by
  have h1 : (1 : UInt32).toNat = 1 := rfl
  simp only [UInt32.toNat_add, h1]; omega
theorem done_step (c : UInt32) (k : Nat) : ((((c + 1 + UInt32.ofNat k).toNat : Nat) : Int) + 1) % 4294967296 = ((c + 1 + UInt32.ofNat (k + 1)).toNat : Int) := by
  rw [next_num1]
  congr 2
  apply UInt32.toNat_inj.1
  have h1 : (1 : UInt32).toNat = 1 := rfl
  simp only [UInt32.toNat_add, UInt32.toNat_ofNat', h1]
  omega
theorem cum_num (c : UInt32) {u : Nat} (hu : u ≤ 100) : ((c.toNat : Int) + (u : Int)) % 4294967296 = ((c + UInt32.ofNat u).toNat : Int) := by
  simp only [UInt32.toNat_add, UInt32.toNat_ofNat']
  omega
theorem done_end (c : UInt32) (u : Nat) : c + 1 + UInt32.ofNat u = c + UInt32.ofNat u + 1 := by
  rw [UInt32.add_assoc, UInt32.add_comm 1, ← UInt32.add_assoc]
set_option maxHeartbeats 8000000 in
theorem walk (first : UInt32) (acts : List Ac) (V : Value) (hwf : ∀ x ∈ acts, WfAc x) (w : World) (h : RowAc w V acts) : Calls Try.prog 3 #[.int .u32 (first.toNat : Int), V] w fun e w' => e = .returned (.bool true) ∧ Below w.heap.size w w' := by
  have HSH := Lib.hid shown_any
  have HNW := Lib.hid (fun W => new_any first W)
  have HV := Lib.hid h
  obtain ⟨Ai, ki, rfl, hk1, hk2, -⟩ := id h
  have hmI : (acts.length : Int) ≤ 9223372036854775807 := by unfold maxLen at hk2; omega
  have HB := Lib.hid (Below.refl w.heap.size w)
  have HWF := Lib.hid hwf
  clear h hk1 hk2 hwf
  by_cases h60 : acts.length ≤ 60
  · have q60 : ¬ (60 : Int) < (acts.length : Int) := by omega
    have hfst : first.toNat = (nextL (first - 1) []).toNat ∧ first.toNat = (first - 1 + 1).toNat := by
      have e : first - 1 + 1 = first := UInt32.sub_add_cancel _ _
      refine ⟨?_, by rw [e]⟩
      unfold nextL
      show first.toNat = (first - 1 + UInt32.ofNat 0 + 1).toNat
      rw [show UInt32.ofNat 0 = (0 : UInt32) from rfl, UInt32.add_zero, e]
    obtain ⟨L, hL⟩ : ∃ L, acts.length = L := ⟨_, rfl⟩
    have HLN := Lib.hid hL
    have HFST := Lib.hid hfst
    rw [hL] at hmI h60
    rw [hL]
    clear hL hfst q60
    have q60 : ¬ (60 : Int) < (L : Int) := by omega
    go_enter Try.func3, Try.ntmps3
    go_wp2_with (go_at_call 4; (with_reducible refine (HSH.out _).mono ?_); rintro e w1 ⟨rfl, hb⟩; replace HB := Lib.hid hb; clear hb)
    refine (HNW.out _).mono ?_
    rintro e w2 ⟨rfl, hb2⟩
    replace HB := Lib.hid (HB.out.trans (hb2.mono HB.out.size))
    have hwg0 := HB.out.size
    clear hb2 HNW
    obtain ⟨W3, hW3, HQ, HB3, hs3⟩ := one_open w2 27 #[.int .u32 0, .slice none 0 0]
    obtain ⟨g6, hg6⟩ : ∃ g, w2.heap.size = g := ⟨_, rfl⟩
    rw [hg6] at HQ
    go_wp2_with ((with_reducible refine gate9 ?_); refine stB (ty := 27) #[.int .u32 ((first - 1).toNat : Int), .slice none 0 0] rfl rfl rfl rfl HQ.out infoS rfl (cellsS_one _ _ _ _) ?_; intro w4 ht hg; replace HB3 := Lib.hid (below_of_grown1 HB3.out hg HB3.out.size (Nat.le_of_eq hg6)); replace HQ := Lib.hid ht; replace HB := Lib.hid (HB.out.trans (HB3.out.mono HB.out.size)); clear ht hg HB3)
    clear hW3 hs3
    have hwg : w.heap.size ≤ g6 := by omega
    have HST := Lib.hid (show PlI (first - 1) [] 0 0 ∧ Bx w4 g6 27 #[.int .u32 ((first - 1).toNat : Int), .slice none ([] : List Pc).length 0] ∧ RowP w4 (.slice none ([] : List Pc).length 0) [] ∧ Below w.heap.size w w4 ∧ g6 < w4.heap.size from ⟨PlI.start _, HQ.out, RowP.nil _, HB.out, HQ.out.lt⟩)
    clear HQ HB
    go_loopw [7, 8, 9, 10] (fun v7 v8 v9 i wr => ∃ (j : Nat) (l : List Pc) (c : UInt32) (all : Int) (A : Option Addr) (k : Nat), j ≤ L ∧ i = .int .i64 j ∧ v7 = .int .u32 ((nextL c l).toNat : Int) ∧ v8 = .int .u32 ((c + 1).toNat : Int) ∧ v9 = .int .i64 all ∧ Hid (PlI c l j all ∧ Bx wr g6 27 #[.int .u32 (c.toNat : Int), .slice A l.length k] ∧ RowP wr (.slice A l.length k) l ∧ Below w.heap.size w wr ∧ g6 < wr.heap.size))
      (fun _ _ _ i _ => L - (intOf i).toNat)
    case atStart => exact ⟨0, [], first - 1, 0, none, 0, Nat.zero_le _, rfl, by rw [← HFST.out.1], by rw [← HFST.out.2], rfl, HST⟩
    case round =>
      clear HST HFST
      obtain ⟨j, l, c, all, A, k, hj, rfl, rfl, rfl, rfl, HRR⟩ := hrel
      obtain ⟨hpl, hbx, hrow, hbl, hgs⟩ := HRR.out
      have HQ := Lib.hid hbx
      have HRS := Lib.hid hrow
      have HB := Lib.hid hbl
      have HPI := Lib.hid hpl
      clear hbx hrow hbl hpl HRR
      by_cases hlt : j < L
      · obtain ⟨b, off, cap, e9, hb, hc1, hc2, hrg⟩ := HV.out.at (show j < acts.length by rw [HLN.out]; exact hlt)
        rw [HLN.out] at e9
        cases e9
        have hwx := HWF.out _ (List.getElem_mem (show j < acts.length by rw [HLN.out]; exact hlt))
        generalize acts[j]'(by rw [HLN.out]; exact hlt) = x at *
        obtain ⟨op, up, fr, to', sz, pa⟩ := x
        have HRG := Lib.hid (range_below hrg hb HB.out)
        have a0 : wr.cell? ⟨b, off + j * 6, none⟩ = some (.int .i64 op) := HRG.out 0 (.int .i64 op) rfl
        have HPK := Lib.hid (fun W => pick_any op 5 hwx.op (by omega) (by omega) W)
        have hpk := pickI_le (c := op) (n := 5) (by omega)
        try dsimp only at HPK
        generalize pickI op 5 = o at *
        have p0 : (0 : Int) ≤ (j : Int) := by omega
        have p1 : (j : Int) < (L : Int) := by omega
        go_upto_block 2 with (go_at_call 6; (with_reducible refine (HPK.out _).mono ?_); rintro e wr ⟨rfl, rfl⟩)
        clear a0
        go_cut [7, 8, 9] from 46 to 266 (fun v7 v8 v9 wx => ∃ (l2 : List Pc) (c2 : UInt32) (all2 : Int) (A2 : Option Addr) (k2 : Nat), v7 = .int .u32 ((nextL c2 l2).toNat : Int) ∧ v8 = .int .u32 ((c2 + 1).toNat : Int) ∧ v9 = .int .i64 all2 ∧ Hid (PlI c2 l2 (j + 1) all2 ∧ Bx wx g6 27 #[.int .u32 (c2.toNat : Int), .slice A2 l2.length k2] ∧ RowP wx (.slice A2 l2.length k2) l2 ∧ Below w.heap.size w wx ∧ g6 < wx.heap.size))
        case first =>
          have ho' : o = 0 ∨ o = 1 ∨ o = 2 ∨ o = 3 ∨ o = 4 := by omega
          rcases ho' with rfl | rfl | rfl | rfl | rfl
          · as_aux_lemma =>
            have hbw := hb
            have hlj := HPI.out.len
            have hlo := HPI.out.lo
            have hhi := HPI.out.hi
            have HPZ := Lib.hid (fun W => pick_any sz 1500 hwx.sz (by omega) (by omega) W)
            have HPP := Lib.hid (fun W => pick_any pa 2 hwx.pa (by omega) (by omega) W)
            have hpz := pickI_le (c := sz) (n := 1500) (by omega)
            have hpp := pickI_le (c := pa) (n := 2) (by omega)
            try dsimp only at HPZ HPP
            generalize pickI sz 1500 = z at *
            generalize pickI pa 2 = q at *
            obtain ⟨n, hn⟩ : ∃ n, 1 + z = n := ⟨_, rfl⟩
            have s1 : IntKind.i64.wrap (1 + z) = n := by rw [IntKind.wrap_i64]; omega
            have h1 : 1 ≤ n := by omega
            have h2 : n ≤ 1500 := by omega
            have hq01 : q = 0 ∨ q = 1 := by omega
            have HPN := Lib.hid (HPI.out.put (show j < 60 by omega) h1 h2 hq01 (now := (j : Int)))
            have HPU := Lib.hid (fun V W h => put_any c l n q (j : Int) h1 h2 (by omega) V W h)
            have HNL := Lib.hid (next_put c l (newPc (nextL c l) n q (j : Int)))
            have s3 := next_num1 (nextL c l)
            have hlen2 : (l ++ [newPc (nextL c l) n q (j : Int)]).length = l.length + 1 := by simp
            generalize l ++ [newPc (nextL c l) n q (j : Int)] = l2 at *
            obtain ⟨all2, hal⟩ : ∃ a, all + n = a := ⟨_, rfl⟩
            obtain ⟨all1, hal1⟩ : ∃ a, all + 1 = a := ⟨_, rfl⟩
            rw [hal] at HPN
            have s6 : IntKind.i64.wrap (all + 1) = all1 := by rw [IntKind.wrap_i64]; omega
            have s7 : IntKind.i64.wrap (all1 + z) = all2 := by rw [IntKind.wrap_i64]; omega
            obtain ⟨nx, hnx⟩ : ∃ x, (nextL c l).toNat = x := ⟨_, rfl⟩
            obtain ⟨nx2, hnx2⟩ : ∃ x, (nextL c l + 1).toNat = x := ⟨_, rfl⟩
            rw [hnx] at HPU s3 ⊢
            rw [hnx2] at s3
            have HN2 : Hid ((nextL c l2).toNat = nx2) := Lib.hid (by rw [HNL.out]; exact hnx2)
            clear hnx hnx2 hal hal1 hn hpz hpp hlj hhi HNL HPK hpk HRG
            go_wp2_with fail
            go_cut [11, 12, 13] from 55 to 266 (fun v11 v12 v13 wx => ∃ (g11 : Nat) (A2 : Option Addr) (k2 : Nat), v11 = .pointer (some ⟨g11, 0, none⟩) ∧ v12 = .int .u32 (nx : Int) ∧ v13 = .int .i64 0 ∧ Hid (Bx wx g11 27 #[.int .u32 (c.toNat : Int), .slice A2 (l.length + 1) k2] ∧ Bx wx g6 27 #[.int .u32 (c.toNat : Int), .slice A l.length k] ∧ RowP wx (.slice A2 (l.length + 1) k2) l2 ∧ Fresh (g6 + 1) (.slice A2 (l.length + 1) k2) ∧ Below wr.heap.size wr wx))
            case first =>
              have HS : (fun V => Bx V g6 27 #[.int .u32 (c.toNat : Int), .slice A l.length k] ∧ Below wr.heap.size wr V) _ := ⟨HQ.out.drew, below_drawn (Below.refl _ _)⟩
              refine wp_region_noPanic ?_
              refine wp_region_waits (S := (fun V => Bx V g6 27 #[.int .u32 (c.toNat : Int), .slice A l.length k] ∧ Below wr.heap.size wr V)) [23] (by kernel_rfl) HS (fun hHeld => ?_)
              clear HS
              refine wpAnyW_take (i := 0) (v := _) (by simp only [List.getElem?_toArray, List.getElem?_cons_zero]; rfl) (by kernel_rfl) (by kernel_rfl) (by kernel_rfl) (by kernel_rfl) (by kernel_rfl) (fun _ _ _ h => h) (yB (ty := 27) (by rfl) rfl rfl (fun V h => h.1) Try.underlying27 rfl infoS) (by assumption) ?_
              try simp only [Act.put, List.setIfInBounds_toArray, List.set_cons_zero, List.set_cons_succ]
              refine wpAnyW_take (i := 1) (v := ?_) (by simp only [List.getElem?_toArray, List.getElem?_cons_succ, List.getElem?_cons_zero]; rfl) (by kernel_rfl) (by kernel_rfl) (by kernel_rfl) (by kernel_rfl) (by kernel_rfl) (fun _ _ _ h => h) (Or.inl ⟨by rfl, ?_⟩) (by assumption) ?_
              rotate_left 1
              · (intro w' hSw; go_simp; try with_reducible rfl)
              try simp only [Act.put, List.setIfInBounds_toArray, List.set_cons_zero, List.set_cons_succ]
              refine wpAnyW_take (i := 2) (v := ?_) (by simp only [List.getElem?_toArray, List.getElem?_cons_succ, List.getElem?_cons_zero]; rfl) (by kernel_rfl) (by kernel_rfl) (by kernel_rfl) (by kernel_rfl) (by kernel_rfl) (fun _ _ _ h => h) (Or.inl ⟨by rfl, ?_⟩) (by assumption) ?_
              rotate_left 1
              · (intro w' hSw; go_simp; try with_reducible rfl)
              try simp only [Act.put, List.setIfInBounds_toArray, List.set_cons_zero, List.set_cons_succ]
              refine wpAnyW_take (i := 3) (v := ?_) (by simp only [List.getElem?_toArray, List.getElem?_cons_succ, List.getElem?_cons_zero]; rfl) (by kernel_rfl) (by kernel_rfl) (by kernel_rfl) (by kernel_rfl) (by kernel_rfl) (fun _ _ _ h => h) (Or.inl ⟨by rfl, ?_⟩) (by assumption) ?_
              rotate_left 1
              · (intro w' hSw; go_simp; try with_reducible rfl)
              try simp only [Act.put, List.setIfInBounds_toArray, List.set_cons_zero, List.set_cons_succ]
              refine wpAnyW_take (i := 4) (v := ?_) (by simp only [List.getElem?_toArray, List.getElem?_cons_succ, List.getElem?_cons_zero]; rfl) (by kernel_rfl) (by kernel_rfl) (by kernel_rfl) (by kernel_rfl) (by kernel_rfl) (fun _ _ _ h => h) (Or.inl ⟨by rfl, ?_⟩) (by assumption) ?_
              rotate_left 1
              · (intro w' hSw; go_simp; try with_reducible rfl)
              try simp only [Act.put, List.setIfInBounds_toArray, List.set_cons_zero, List.set_cons_succ]
              refine wpAnyW_take (i := 5) (v := ?_) (by simp only [List.getElem?_toArray, List.getElem?_cons_succ, List.getElem?_cons_zero]; rfl) (by kernel_rfl) (by kernel_rfl) (by kernel_rfl) (by kernel_rfl) (by kernel_rfl) (fun _ _ _ h => h) (Or.inl ⟨by rfl, ?_⟩) (by assumption) ?_
              rotate_left 1
              · (intro w' hSw; have hq := (range_below hrg hbw (HB.out.trans (hSw.2.mono HB.out.size))) 4 (.int .i64 sz) rfl; go_simp; try with_reducible rfl)
              try simp only [Act.put, List.setIfInBounds_toArray, List.set_cons_zero, List.set_cons_succ]
              refine wpAnyW_take (i := 8) (v := ?_) (by simp only [List.getElem?_toArray, List.getElem?_cons_succ, List.getElem?_cons_zero]; rfl) (by kernel_rfl) (by kernel_rfl) (by kernel_rfl) (by kernel_rfl) (by kernel_rfl) (fun _ _ _ h => h) (Or.inl ⟨by rfl, ?_⟩) (by assumption) ?_
              rotate_left 1
              · (intro w' hSw; go_simp; try with_reducible rfl)
              try simp only [Act.put, List.setIfInBounds_toArray, List.set_cons_zero, List.set_cons_succ]
              refine wpAnyW_take (i := 9) (v := ?_) (by simp only [List.getElem?_toArray, List.getElem?_cons_succ, List.getElem?_cons_zero]; rfl) (by kernel_rfl) (by kernel_rfl) (by kernel_rfl) (by kernel_rfl) (by kernel_rfl) (fun _ _ _ h => h) (Or.inl ⟨by rfl, ?_⟩) (by assumption) ?_
              rotate_left 1
              · (intro w' hSw; go_simp; try with_reducible rfl)
              try simp only [Act.put, List.setIfInBounds_toArray, List.set_cons_zero, List.set_cons_succ]
              refine wpAnyW_take (i := 10) (v := ?_) (by simp only [List.getElem?_toArray, List.getElem?_cons_succ, List.getElem?_cons_zero]; rfl) (by kernel_rfl) (by kernel_rfl) (by kernel_rfl) (by kernel_rfl) (by kernel_rfl) (fun _ _ _ h => h) (Or.inl ⟨by rfl, ?_⟩) (by assumption) ?_
              rotate_left 1
              · (intro w' hSw; go_simp; try with_reducible rfl)
              try simp only [Act.put, List.setIfInBounds_toArray, List.set_cons_zero, List.set_cons_succ]
              refine wpAnyW_take (i := 11) (v := ?_) (by simp only [List.getElem?_toArray, List.getElem?_cons_succ, List.getElem?_cons_zero]; rfl) (by kernel_rfl) (by kernel_rfl) (by kernel_rfl) (by kernel_rfl) (by kernel_rfl) (fun _ _ _ h => h) (Or.inl ⟨by rfl, ?_⟩) (by assumption) ?_
              rotate_left 1
              · (intro w' hSw; go_simp; try with_reducible rfl)
              try simp only [Act.put, List.setIfInBounds_toArray, List.set_cons_zero, List.set_cons_succ]
              refine wpAnyW_take (i := 12) (v := ?_) (by simp only [List.getElem?_toArray, List.getElem?_cons_succ, List.getElem?_cons_zero]; rfl) (by kernel_rfl) (by kernel_rfl) (by kernel_rfl) (by kernel_rfl) (by kernel_rfl) (fun _ _ _ h => h) (Or.inl ⟨by rfl, ?_⟩) (by assumption) ?_
              rotate_left 1
              · (intro w' hSw; have hq := (range_below hrg hbw (HB.out.trans (hSw.2.mono HB.out.size))) 5 (.int .i64 pa) rfl; go_simp; try with_reducible rfl)
              try simp only [Act.put, List.setIfInBounds_toArray, List.set_cons_zero, List.set_cons_succ]
              refine wpAnyW_take (i := 14) (v := ?_) (by simp only [List.getElem?_toArray, List.getElem?_cons_succ, List.getElem?_cons_zero]; rfl) (by kernel_rfl) (by kernel_rfl) (by kernel_rfl) (by kernel_rfl) (by kernel_rfl) (fun _ _ _ h => h) (Or.inl ⟨by rfl, ?_⟩) (by assumption) ?_
              rotate_left 1
              · (intro w' hSw; go_simp; try with_reducible rfl)
              try simp only [Act.put, List.setIfInBounds_toArray, List.set_cons_zero, List.set_cons_succ]
              refine wpAnyW_two (i := 6) (i2 := 20) (by kernel_rfl) (by simp only [List.getElem?_toArray, List.getElem?_cons_succ, List.getElem?_cons_zero]; rfl) (by simp only [List.getElem?_toArray, List.getElem?_cons_succ, List.getElem?_cons_zero]; rfl) (fun K hK => ?_) (fun K hK => ?_)
              · rw [if_pos (by rfl)]
                go_simp
                refine (HPZ.out _).mono ?_
                rintro _ wq ⟨rfl, rfl⟩
                have HS := hHeld
                clear hHeld
                go_wp2_with fail
                refine hK.out _ _ HS (fun hHeld => ?_)
                clear hK K HS
                try simp only [Act.put, List.setIfInBounds_toArray, List.set_cons_zero, List.set_cons_succ]
                refine wpAnyW_take (i := 7) (v := ?_) (by simp only [List.getElem?_toArray, List.getElem?_cons_succ, List.getElem?_cons_zero]; rfl) (by kernel_rfl) (by kernel_rfl) (by kernel_rfl) (by kernel_rfl) (by kernel_rfl) (fun _ _ _ h => h) (Or.inl ⟨by rfl, ?_⟩) (by assumption) ?_
                rotate_left 1
                · (intro w' hSw; go_simp; try with_reducible rfl)
                try simp only [Act.put, List.setIfInBounds_toArray, List.set_cons_zero, List.set_cons_succ]
                refine wpAnyW_two (i := 13) (i2 := 20) (by kernel_rfl) (by simp only [List.getElem?_toArray, List.getElem?_cons_succ, List.getElem?_cons_zero]; rfl) (by simp only [List.getElem?_toArray, List.getElem?_cons_succ, List.getElem?_cons_zero]; rfl) (fun K hK => ?_) (fun K hK => ?_)
                · rw [if_pos (by rfl)]
                  go_simp
                  refine (HPP.out _).mono ?_
                  rintro _ wq ⟨rfl, rfl⟩
                  have HS := hHeld
                  clear hHeld
                  go_wp2_with fail
                  refine hK.out _ _ HS (fun hHeld => ?_)
                  clear hK K HS
                  try simp only [Act.put, List.setIfInBounds_toArray, List.set_cons_zero, List.set_cons_succ]
                  refine wpAnyW_two (i := 15) (i2 := 20) (by kernel_rfl) (by simp only [List.getElem?_toArray, List.getElem?_cons_succ, List.getElem?_cons_zero]; rfl) (by simp only [List.getElem?_toArray, List.getElem?_cons_succ, List.getElem?_cons_zero]; rfl) (fun K hK => ?_) (fun K hK => ?_)
                  · rw [if_pos (by rfl)]
                    go_simp
                    refine (HPU.out _ _ (HRS.out.below hHeld.2)).mono ?_
                    rintro _ u5 ⟨A5, k5, rfl, hr, hf, hb⟩
                    have HS : (fun V => Bx V g6 27 #[.int .u32 (c.toNat : Int), .slice A l.length k] ∧ Below wr.heap.size wr V) _ := ⟨hHeld.1.later hb, hHeld.2.trans (hb.mono hHeld.2.size)⟩
                    have HR5 := Lib.hid hr
                    have HF5 := Lib.hid (hf.less (show g6 + 1 ≤ _ by have := hHeld.2.size; omega))
                    clear hr
                    clear hf
                    clear hHeld hb
                    go_wp2_with fail
                    refine hK.out _ _ HS (fun hHeld => ?_)
                    clear hK K HS
                    try simp only [Act.put, List.setIfInBounds_toArray, List.set_cons_zero, List.set_cons_succ]
                    refine wpAnyW_take (i := 16) (v := ?_) (by simp only [List.getElem?_toArray, List.getElem?_cons_succ, List.getElem?_cons_zero]; rfl) (by kernel_rfl) (by kernel_rfl) (by kernel_rfl) (by kernel_rfl) (by kernel_rfl) (fun _ _ _ h => h) (Or.inl ⟨by rfl, ?_⟩) (by assumption) ?_
                    rotate_left 1
                    · (intro w' hSw; go_simp; try with_reducible rfl)
                    try simp only [Act.put, List.setIfInBounds_toArray, List.set_cons_zero, List.set_cons_succ]
                    refine wpAnyW_take (i := 17) (v := ?_) (by simp only [List.getElem?_toArray, List.getElem?_cons_succ, List.getElem?_cons_zero]; rfl) (by kernel_rfl) (by kernel_rfl) (by kernel_rfl) (by kernel_rfl) (by kernel_rfl) (fun _ _ _ h => h) (Or.inl ⟨by rfl, ?_⟩) (by assumption) ?_
                    rotate_left 1
                    · (intro w' hSw; go_simp; try with_reducible rfl)
                    try simp only [Act.put, List.setIfInBounds_toArray, List.set_cons_zero, List.set_cons_succ]
                    refine wpAnyW_take (i := 18) (v := ?_) (by simp only [List.getElem?_toArray, List.getElem?_cons_succ, List.getElem?_cons_zero]; rfl) (by kernel_rfl) (by kernel_rfl) (by kernel_rfl) (by kernel_rfl) (by kernel_rfl) (fun _ _ _ h => h) (Or.inl ⟨by rfl, ?_⟩) (by assumption) ?_
                    rotate_left 1
                    · (intro w' hSw; go_simp; try with_reducible rfl)
                    try simp only [Act.put, List.setIfInBounds_toArray, List.set_cons_zero, List.set_cons_succ]
                    refine wpAnyW_take (i := 19) (v := ?_) (by simp only [List.getElem?_toArray, List.getElem?_cons_succ, List.getElem?_cons_zero]; rfl) (by kernel_rfl) (by kernel_rfl) (by kernel_rfl) (by kernel_rfl) (by kernel_rfl) (fun _ _ _ h => h) (Or.inl ⟨by rfl, ?_⟩) (by assumption) ?_
                    rotate_left 1
                    · (intro w' hSw; go_simp; try with_reducible rfl)
                    try simp only [Act.put, List.setIfInBounds_toArray, List.set_cons_zero, List.set_cons_succ]
                    refine wpAnyW_held (i := 20) (by kernel_rfl) (by simp only [List.getElem?_toArray, List.getElem?_cons_succ, List.getElem?_cons_zero]; rfl) (fun K hK => ?_)
                    rw [if_pos (by rfl)]
                    obtain ⟨v3, hv3, HX, HBv3, hsv3⟩ := one_open u5 27 #[.int .u32 0, .slice none 0 0]
                    obtain ⟨gx, hgx⟩ : ∃ g, u5.heap.size = g := ⟨_, rfl⟩
                    rw [hgx] at HX hsv3
                    have HS : (fun V => Bx V g6 27 #[.int .u32 (c.toNat : Int), .slice A l.length k] ∧ Below wr.heap.size wr V) _ := ⟨hHeld.1.later HBv3.out, hHeld.2.trans (HBv3.out.mono hHeld.2.size)⟩
                    have hzx : wr.heap.size ≤ gx := by have := hHeld.2.size; omega
                    have HNE := Lib.hid (RowP.ne_new HR5.out (by rw [hlen2]; omega) (Nat.le_of_eq hgx))
                    replace HR5 := Lib.hid (RowP.below HR5.out HBv3.out)
                    clear hHeld HBv3 hsv3
                    go_simp
                    refine hK.out _ _ HS (fun hHeld => ?_)
                    clear hK K HS
                    try simp only [Act.put, List.setIfInBounds_toArray, List.set_cons_zero, List.set_cons_succ]
                    clear hgx
                    refine wpAnyW_held (i := 21) (by kernel_rfl) (by simp only [List.getElem?_toArray, List.getElem?_cons_succ, List.getElem?_cons_zero]; rfl) (fun K hK => ?_)
                    rw [if_pos (by rfl)]
                    refine wpB (ty := 27) #[.int .u32 (c.toNat : Int), .slice A5 (l.length + 1) k5] rfl rfl rfl HX.out infoS rfl (cellsS_one _ _ _ _) ?_
                    intro y1 ht hg
                    have HS : (fun V => Bx V g6 27 #[.int .u32 (c.toNat : Int), .slice A l.length k] ∧ Below wr.heap.size wr V) _ := ⟨hHeld.1.kept hg (by omega), below_of_grown1 hHeld.2 hg hHeld.2.size hzx⟩
                    replace HR5 := Lib.hid (RowP.keptNe HR5.out HNE.out hg)
                    replace HX := Lib.hid ht
                    clear ht hg hHeld
                    refine hK.out _ _ HS (fun hHeld => ?_)
                    clear hK K HS
                    try simp only [Act.put, List.setIfInBounds_toArray, List.set_cons_zero, List.set_cons_succ]
                    refine wpAnyW_held (i := 22) (by kernel_rfl) (by simp only [List.getElem?_toArray, List.getElem?_cons_succ, List.getElem?_cons_zero]; rfl) (fun K hK => ?_)
                    rw [if_pos (by rfl)]
                    go_simp
                    refine hK.out _ _ hHeld (fun hHeld => ?_)
                    clear hK K
                    try simp only [Act.put, List.setIfInBounds_toArray, List.set_cons_zero, List.set_cons_succ]
                    refine wpAnyW_freed (i := 23) (by kernel_rfl) (by kernel_rfl) (by simp only [List.getElem?_toArray, List.getElem?_cons_succ, List.getElem?_cons_zero]; rfl) (fun K hK => ?_)
                    rw [if_pos (by rfl)]
                    go_simp
                    have HE := Lib.hid hHeld
                    refine hK.out _ _ ?_
                    clear hK K hHeld
                    try simp only [Act.put, List.setIfInBounds_toArray, List.set_cons_zero, List.set_cons_succ]
                    refine wpAnyW_done (by kernel_rfl) ?_ _
                    refine NoPanic.normal ?_
                    go_wp2_with fail
                    go_meet
                    exact ⟨gx, A5, k5, rfl, rfl, rfl, Lib.hid ⟨HX.out, HE.out.1, HR5.out, HF5.out, HE.out.2⟩⟩
                  · rw [if_pos (by rfl)]
                    obtain ⟨v2, hv2, HX, HBv2, hsv2⟩ := one_open wr.drew 27 #[.int .u32 0, .slice none 0 0]
                    obtain ⟨gx, hgx⟩ : ∃ g, wr.drew.heap.size = g := ⟨_, rfl⟩
                    rw [hgx] at HX hsv2
                    have HS : (fun V => Bx V g6 27 #[.int .u32 (c.toNat : Int), .slice A l.length k] ∧ Below wr.heap.size wr V) _ := ⟨hHeld.1.later HBv2.out, hHeld.2.trans (HBv2.out.mono hHeld.2.size)⟩
                    have hzx : wr.heap.size ≤ gx := by have := hHeld.2.size; omega
                    clear hHeld HBv2 hsv2
                    go_simp
                    refine hK.out _ _ HS (fun hHeld => ?_)
                    clear hK K HS
                    try simp only [Act.put, List.setIfInBounds_toArray, List.set_cons_zero, List.set_cons_succ]
                    clear hgx
                    refine wpAnyW_held (i := 15) (by kernel_rfl) (by simp only [List.getElem?_toArray, List.getElem?_cons_succ, List.getElem?_cons_zero]; rfl) (fun K hK => ?_)
                    rw [if_pos (by rfl)]
                    go_simp
                    refine (HPU.out _ _ (HRS.out.below hHeld.2)).mono ?_
                    rintro _ u5 ⟨A5, k5, rfl, hr, hf, hb⟩
                    have HS : (fun V => Bx V g6 27 #[.int .u32 (c.toNat : Int), .slice A l.length k] ∧ Below wr.heap.size wr V) _ := ⟨hHeld.1.later hb, hHeld.2.trans (hb.mono hHeld.2.size)⟩
                    have HR5 := Lib.hid hr
                    have HF5 := Lib.hid (hf.less (show g6 + 1 ≤ _ by have := hHeld.2.size; omega))
                    clear hr
                    have HNE : Hid (∀ a n c, Value.slice A5 (l.length + 1) k5 = Value.slice (some a) n c → a.block ≠ gx) := Lib.hid (fun a n c e => by have h1 := hf a n c e; have h2 := HX.out.lt; omega)
                    replace HX := Lib.hid (HX.out.later hb)
                    clear hf
                    clear hHeld hb
                    go_wp2_with fail
                    refine hK.out _ _ HS (fun hHeld => ?_)
                    clear hK K HS
                    try simp only [Act.put, List.setIfInBounds_toArray, List.set_cons_zero, List.set_cons_succ]
                    refine wpAnyW_take (i := 16) (v := ?_) (by simp only [List.getElem?_toArray, List.getElem?_cons_succ, List.getElem?_cons_zero]; rfl) (by kernel_rfl) (by kernel_rfl) (by kernel_rfl) (by kernel_rfl) (by kernel_rfl) (fun _ _ _ h => h) (Or.inl ⟨by rfl, ?_⟩) (by assumption) ?_
                    rotate_left 1
                    · (intro w' hSw; go_simp; try with_reducible rfl)
                    try simp only [Act.put, List.setIfInBounds_toArray, List.set_cons_zero, List.set_cons_succ]
                    refine wpAnyW_take (i := 17) (v := ?_) (by simp only [List.getElem?_toArray, List.getElem?_cons_succ, List.getElem?_cons_zero]; rfl) (by kernel_rfl) (by kernel_rfl) (by kernel_rfl) (by kernel_rfl) (by kernel_rfl) (fun _ _ _ h => h) (Or.inl ⟨by rfl, ?_⟩) (by assumption) ?_
                    rotate_left 1
                    · (intro w' hSw; go_simp; try with_reducible rfl)
                    try simp only [Act.put, List.setIfInBounds_toArray, List.set_cons_zero, List.set_cons_succ]
                    refine wpAnyW_take (i := 18) (v := ?_) (by simp only [List.getElem?_toArray, List.getElem?_cons_succ, List.getElem?_cons_zero]; rfl) (by kernel_rfl) (by kernel_rfl) (by kernel_rfl) (by kernel_rfl) (by kernel_rfl) (fun _ _ _ h => h) (Or.inl ⟨by rfl, ?_⟩) (by assumption) ?_
                    rotate_left 1
                    · (intro w' hSw; go_simp; try with_reducible rfl)
                    try simp only [Act.put, List.setIfInBounds_toArray, List.set_cons_zero, List.set_cons_succ]
                    refine wpAnyW_take (i := 19) (v := ?_) (by simp only [List.getElem?_toArray, List.getElem?_cons_succ, List.getElem?_cons_zero]; rfl) (by kernel_rfl) (by kernel_rfl) (by kernel_rfl) (by kernel_rfl) (by kernel_rfl) (fun _ _ _ h => h) (Or.inl ⟨by rfl, ?_⟩) (by assumption) ?_
                    rotate_left 1
                    · (intro w' hSw; go_simp; try with_reducible rfl)
                    try simp only [Act.put, List.setIfInBounds_toArray, List.set_cons_zero, List.set_cons_succ]
                    refine wpAnyW_held (i := 21) (by kernel_rfl) (by simp only [List.getElem?_toArray, List.getElem?_cons_succ, List.getElem?_cons_zero]; rfl) (fun K hK => ?_)
                    rw [if_pos (by rfl)]
                    refine wpB (ty := 27) #[.int .u32 (c.toNat : Int), .slice A5 (l.length + 1) k5] rfl rfl rfl HX.out infoS rfl (cellsS_one _ _ _ _) ?_
                    intro y1 ht hg
                    have HS : (fun V => Bx V g6 27 #[.int .u32 (c.toNat : Int), .slice A l.length k] ∧ Below wr.heap.size wr V) _ := ⟨hHeld.1.kept hg (by omega), below_of_grown1 hHeld.2 hg hHeld.2.size hzx⟩
                    replace HR5 := Lib.hid (RowP.keptNe HR5.out HNE.out hg)
                    replace HX := Lib.hid ht
                    clear ht hg hHeld
                    refine hK.out _ _ HS (fun hHeld => ?_)
                    clear hK K HS
                    try simp only [Act.put, List.setIfInBounds_toArray, List.set_cons_zero, List.set_cons_succ]
                    refine wpAnyW_held (i := 22) (by kernel_rfl) (by simp only [List.getElem?_toArray, List.getElem?_cons_succ, List.getElem?_cons_zero]; rfl) (fun K hK => ?_)
                    rw [if_pos (by rfl)]
                    go_simp
                    refine hK.out _ _ hHeld (fun hHeld => ?_)
                    clear hK K
                    try simp only [Act.put, List.setIfInBounds_toArray, List.set_cons_zero, List.set_cons_succ]
                    refine wpAnyW_freed (i := 23) (by kernel_rfl) (by kernel_rfl) (by simp only [List.getElem?_toArray, List.getElem?_cons_succ, List.getElem?_cons_zero]; rfl) (fun K hK => ?_)
                    rw [if_pos (by rfl)]
                    go_simp
                    have HE := Lib.hid hHeld
                    refine hK.out _ _ ?_
                    clear hK K hHeld
                    try simp only [Act.put, List.setIfInBounds_toArray, List.set_cons_zero, List.set_cons_succ]
                    refine wpAnyW_done (by kernel_rfl) ?_ _
                    refine NoPanic.normal ?_
                    go_wp2_with fail
                    go_meet
                    exact ⟨gx, A5, k5, rfl, rfl, rfl, Lib.hid ⟨HX.out, HE.out.1, HR5.out, HF5.out, HE.out.2⟩⟩
                · rw [if_pos (by rfl)]
                  obtain ⟨v1, hv1, HX, HBv1, hsv1⟩ := one_open wr.drew 27 #[.int .u32 0, .slice none 0 0]
                  obtain ⟨gx, hgx⟩ : ∃ g, wr.drew.heap.size = g := ⟨_, rfl⟩
                  rw [hgx] at HX hsv1
                  have HS : (fun V => Bx V g6 27 #[.int .u32 (c.toNat : Int), .slice A l.length k] ∧ Below wr.heap.size wr V) _ := ⟨hHeld.1.later HBv1.out, hHeld.2.trans (HBv1.out.mono hHeld.2.size)⟩
                  have hzx : wr.heap.size ≤ gx := by have := hHeld.2.size; omega
                  clear hHeld HBv1 hsv1
                  go_simp
                  refine hK.out _ _ HS (fun hHeld => ?_)
                  clear hK K HS
                  try simp only [Act.put, List.setIfInBounds_toArray, List.set_cons_zero, List.set_cons_succ]
                  clear hgx
                  refine wpAnyW_held (i := 13) (by kernel_rfl) (by simp only [List.getElem?_toArray, List.getElem?_cons_succ, List.getElem?_cons_zero]; rfl) (fun K hK => ?_)
                  rw [if_pos (by rfl)]
                  go_simp
                  refine (HPP.out _).mono ?_
                  rintro _ v1 ⟨rfl, rfl⟩
                  have HS := hHeld
                  clear hHeld
                  go_wp2_with fail
                  refine hK.out _ _ HS (fun hHeld => ?_)
                  clear hK K HS
                  try simp only [Act.put, List.setIfInBounds_toArray, List.set_cons_zero, List.set_cons_succ]
                  refine wpAnyW_held (i := 15) (by kernel_rfl) (by simp only [List.getElem?_toArray, List.getElem?_cons_succ, List.getElem?_cons_zero]; rfl) (fun K hK => ?_)
                  rw [if_pos (by rfl)]
                  go_simp
                  refine (HPU.out _ _ (HRS.out.below hHeld.2)).mono ?_
                  rintro _ u5 ⟨A5, k5, rfl, hr, hf, hb⟩
                  have HS : (fun V => Bx V g6 27 #[.int .u32 (c.toNat : Int), .slice A l.length k] ∧ Below wr.heap.size wr V) _ := ⟨hHeld.1.later hb, hHeld.2.trans (hb.mono hHeld.2.size)⟩
                  have HR5 := Lib.hid hr
                  have HF5 := Lib.hid (hf.less (show g6 + 1 ≤ _ by have := hHeld.2.size; omega))
                  clear hr
                  have HNE : Hid (∀ a n c, Value.slice A5 (l.length + 1) k5 = Value.slice (some a) n c → a.block ≠ gx) := Lib.hid (fun a n c e => by have h1 := hf a n c e; have h2 := HX.out.lt; omega)
                  replace HX := Lib.hid (HX.out.later hb)
                  clear hf
                  clear hHeld hb
                  go_wp2_with fail
                  refine hK.out _ _ HS (fun hHeld => ?_)
                  clear hK K HS
                  try simp only [Act.put, List.setIfInBounds_toArray, List.set_cons_zero, List.set_cons_succ]
                  refine wpAnyW_take (i := 16) (v := ?_) (by simp only [List.getElem?_toArray, List.getElem?_cons_succ, List.getElem?_cons_zero]; rfl) (by kernel_rfl) (by kernel_rfl) (by kernel_rfl) (by kernel_rfl) (by kernel_rfl) (fun _ _ _ h => h) (Or.inl ⟨by rfl, ?_⟩) (by assumption) ?_
                  rotate_left 1
                  · (intro w' hSw; go_simp; try with_reducible rfl)
                  try simp only [Act.put, List.setIfInBounds_toArray, List.set_cons_zero, List.set_cons_succ]
                  refine wpAnyW_take (i := 17) (v := ?_) (by simp only [List.getElem?_toArray, List.getElem?_cons_succ, List.getElem?_cons_zero]; rfl) (by kernel_rfl) (by kernel_rfl) (by kernel_rfl) (by kernel_rfl) (by kernel_rfl) (fun _ _ _ h => h) (Or.inl ⟨by rfl, ?_⟩) (by assumption) ?_
                  rotate_left 1
                  · (intro w' hSw; go_simp; try with_reducible rfl)
                  try simp only [Act.put, List.setIfInBounds_toArray, List.set_cons_zero, List.set_cons_succ]
                  refine wpAnyW_take (i := 18) (v := ?_) (by simp only [List.getElem?_toArray, List.getElem?_cons_succ, List.getElem?_cons_zero]; rfl) (by kernel_rfl) (by kernel_rfl) (by kernel_rfl) (by kernel_rfl) (by kernel_rfl) (fun _ _ _ h => h) (Or.inl ⟨by rfl, ?_⟩) (by assumption) ?_
                  rotate_left 1
                  · (intro w' hSw; go_simp; try with_reducible rfl)
                  try simp only [Act.put, List.setIfInBounds_toArray, List.set_cons_zero, List.set_cons_succ]
                  refine wpAnyW_take (i := 19) (v := ?_) (by simp only [List.getElem?_toArray, List.getElem?_cons_succ, List.getElem?_cons_zero]; rfl) (by kernel_rfl) (by kernel_rfl) (by kernel_rfl) (by kernel_rfl) (by kernel_rfl) (fun _ _ _ h => h) (Or.inl ⟨by rfl, ?_⟩) (by assumption) ?_
                  rotate_left 1
                  · (intro w' hSw; go_simp; try with_reducible rfl)
                  try simp only [Act.put, List.setIfInBounds_toArray, List.set_cons_zero, List.set_cons_succ]
                  refine wpAnyW_held (i := 21) (by kernel_rfl) (by simp only [List.getElem?_toArray, List.getElem?_cons_succ, List.getElem?_cons_zero]; rfl) (fun K hK => ?_)
                  rw [if_pos (by rfl)]
                  refine wpB (ty := 27) #[.int .u32 (c.toNat : Int), .slice A5 (l.length + 1) k5] rfl rfl rfl HX.out infoS rfl (cellsS_one _ _ _ _) ?_
                  intro y1 ht hg
                  have HS : (fun V => Bx V g6 27 #[.int .u32 (c.toNat : Int), .slice A l.length k] ∧ Below wr.heap.size wr V) _ := ⟨hHeld.1.kept hg (by omega), below_of_grown1 hHeld.2 hg hHeld.2.size hzx⟩
                  replace HR5 := Lib.hid (RowP.keptNe HR5.out HNE.out hg)
                  replace HX := Lib.hid ht
                  clear ht hg hHeld
                  refine hK.out _ _ HS (fun hHeld => ?_)
                  clear hK K HS
                  try simp only [Act.put, List.setIfInBounds_toArray, List.set_cons_zero, List.set_cons_succ]
                  refine wpAnyW_held (i := 22) (by kernel_rfl) (by simp only [List.getElem?_toArray, List.getElem?_cons_succ, List.getElem?_cons_zero]; rfl) (fun K hK => ?_)
                  rw [if_pos (by rfl)]
                  go_simp
                  refine hK.out _ _ hHeld (fun hHeld => ?_)
                  clear hK K
                  try simp only [Act.put, List.setIfInBounds_toArray, List.set_cons_zero, List.set_cons_succ]
                  refine wpAnyW_freed (i := 23) (by kernel_rfl) (by kernel_rfl) (by simp only [List.getElem?_toArray, List.getElem?_cons_succ, List.getElem?_cons_zero]; rfl) (fun K hK => ?_)
                  rw [if_pos (by rfl)]
                  go_simp
                  have HE := Lib.hid hHeld
                  refine hK.out _ _ ?_
                  clear hK K hHeld
                  try simp only [Act.put, List.setIfInBounds_toArray, List.set_cons_zero, List.set_cons_succ]
                  refine wpAnyW_done (by kernel_rfl) ?_ _
                  refine NoPanic.normal ?_
                  go_wp2_with fail
                  go_meet
                  exact ⟨gx, A5, k5, rfl, rfl, rfl, Lib.hid ⟨HX.out, HE.out.1, HR5.out, HF5.out, HE.out.2⟩⟩
              · rw [if_pos (by rfl)]
                obtain ⟨v0, hv0, HX, HBv0, hsv0⟩ := one_open wr.drew 27 #[.int .u32 0, .slice none 0 0]
                obtain ⟨gx, hgx⟩ : ∃ g, wr.drew.heap.size = g := ⟨_, rfl⟩
                rw [hgx] at HX hsv0
                have HS : (fun V => Bx V g6 27 #[.int .u32 (c.toNat : Int), .slice A l.length k] ∧ Below wr.heap.size wr V) _ := ⟨hHeld.1.later HBv0.out, hHeld.2.trans (HBv0.out.mono hHeld.2.size)⟩
                have hzx : wr.heap.size ≤ gx := by have := hHeld.2.size; omega
                clear hHeld HBv0 hsv0
                go_simp
                refine hK.out _ _ HS (fun hHeld => ?_)
                clear hK K HS
                try simp only [Act.put, List.setIfInBounds_toArray, List.set_cons_zero, List.set_cons_succ]
                clear hgx
                refine wpAnyW_held (i := 6) (by kernel_rfl) (by simp only [List.getElem?_toArray, List.getElem?_cons_succ, List.getElem?_cons_zero]; rfl) (fun K hK => ?_)
                rw [if_pos (by rfl)]
                go_simp
                refine (HPZ.out _).mono ?_
                rintro _ v0 ⟨rfl, rfl⟩
                have HS := hHeld
                clear hHeld
                go_wp2_with fail
                refine hK.out _ _ HS (fun hHeld => ?_)
                clear hK K HS
                try simp only [Act.put, List.setIfInBounds_toArray, List.set_cons_zero, List.set_cons_succ]
                refine wpAnyW_take (i := 7) (v := ?_) (by simp only [List.getElem?_toArray, List.getElem?_cons_succ, List.getElem?_cons_zero]; rfl) (by kernel_rfl) (by kernel_rfl) (by kernel_rfl) (by kernel_rfl) (by kernel_rfl) (fun _ _ _ h => h) (Or.inl ⟨by rfl, ?_⟩) (by assumption) ?_
                rotate_left 1
                · (intro w' hSw; go_simp; try with_reducible rfl)
                try simp only [Act.put, List.setIfInBounds_toArray, List.set_cons_zero, List.set_cons_succ]
                refine wpAnyW_held (i := 13) (by kernel_rfl) (by simp only [List.getElem?_toArray, List.getElem?_cons_succ, List.getElem?_cons_zero]; rfl) (fun K hK => ?_)
                rw [if_pos (by rfl)]
                go_simp
                refine (HPP.out _).mono ?_
                rintro _ v0 ⟨rfl, rfl⟩
                have HS := hHeld
                clear hHeld
                go_wp2_with fail
                refine hK.out _ _ HS (fun hHeld => ?_)
                clear hK K HS
                try simp only [Act.put, List.setIfInBounds_toArray, List.set_cons_zero, List.set_cons_succ]
                refine wpAnyW_held (i := 15) (by kernel_rfl) (by simp only [List.getElem?_toArray, List.getElem?_cons_succ, List.getElem?_cons_zero]; rfl) (fun K hK => ?_)
                rw [if_pos (by rfl)]
                go_simp
                refine (HPU.out _ _ (HRS.out.below hHeld.2)).mono ?_
                rintro _ u5 ⟨A5, k5, rfl, hr, hf, hb⟩
                have HS : (fun V => Bx V g6 27 #[.int .u32 (c.toNat : Int), .slice A l.length k] ∧ Below wr.heap.size wr V) _ := ⟨hHeld.1.later hb, hHeld.2.trans (hb.mono hHeld.2.size)⟩
                have HR5 := Lib.hid hr
                have HF5 := Lib.hid (hf.less (show g6 + 1 ≤ _ by have := hHeld.2.size; omega))
                clear hr
                have HNE : Hid (∀ a n c, Value.slice A5 (l.length + 1) k5 = Value.slice (some a) n c → a.block ≠ gx) := Lib.hid (fun a n c e => by have h1 := hf a n c e; have h2 := HX.out.lt; omega)
                replace HX := Lib.hid (HX.out.later hb)
                clear hf
                clear hHeld hb
                go_wp2_with fail
                refine hK.out _ _ HS (fun hHeld => ?_)
                clear hK K HS
                try simp only [Act.put, List.setIfInBounds_toArray, List.set_cons_zero, List.set_cons_succ]
                refine wpAnyW_take (i := 16) (v := ?_) (by simp only [List.getElem?_toArray, List.getElem?_cons_succ, List.getElem?_cons_zero]; rfl) (by kernel_rfl) (by kernel_rfl) (by kernel_rfl) (by kernel_rfl) (by kernel_rfl) (fun _ _ _ h => h) (Or.inl ⟨by rfl, ?_⟩) (by assumption) ?_
                rotate_left 1
                · (intro w' hSw; go_simp; try with_reducible rfl)
                try simp only [Act.put, List.setIfInBounds_toArray, List.set_cons_zero, List.set_cons_succ]
                refine wpAnyW_take (i := 17) (v := ?_) (by simp only [List.getElem?_toArray, List.getElem?_cons_succ, List.getElem?_cons_zero]; rfl) (by kernel_rfl) (by kernel_rfl) (by kernel_rfl) (by kernel_rfl) (by kernel_rfl) (fun _ _ _ h => h) (Or.inl ⟨by rfl, ?_⟩) (by assumption) ?_
                rotate_left 1
                · (intro w' hSw; go_simp; try with_reducible rfl)
                try simp only [Act.put, List.setIfInBounds_toArray, List.set_cons_zero, List.set_cons_succ]
                refine wpAnyW_take (i := 18) (v := ?_) (by simp only [List.getElem?_toArray, List.getElem?_cons_succ, List.getElem?_cons_zero]; rfl) (by kernel_rfl) (by kernel_rfl) (by kernel_rfl) (by kernel_rfl) (by kernel_rfl) (fun _ _ _ h => h) (Or.inl ⟨by rfl, ?_⟩) (by assumption) ?_
                rotate_left 1
                · (intro w' hSw; go_simp; try with_reducible rfl)
                try simp only [Act.put, List.setIfInBounds_toArray, List.set_cons_zero, List.set_cons_succ]
                refine wpAnyW_take (i := 19) (v := ?_) (by simp only [List.getElem?_toArray, List.getElem?_cons_succ, List.getElem?_cons_zero]; rfl) (by kernel_rfl) (by kernel_rfl) (by kernel_rfl) (by kernel_rfl) (by kernel_rfl) (fun _ _ _ h => h) (Or.inl ⟨by rfl, ?_⟩) (by assumption) ?_
                rotate_left 1
                · (intro w' hSw; go_simp; try with_reducible rfl)
                try simp only [Act.put, List.setIfInBounds_toArray, List.set_cons_zero, List.set_cons_succ]
                refine wpAnyW_held (i := 21) (by kernel_rfl) (by simp only [List.getElem?_toArray, List.getElem?_cons_succ, List.getElem?_cons_zero]; rfl) (fun K hK => ?_)
                rw [if_pos (by rfl)]
                refine wpB (ty := 27) #[.int .u32 (c.toNat : Int), .slice A5 (l.length + 1) k5] rfl rfl rfl HX.out infoS rfl (cellsS_one _ _ _ _) ?_
                intro y1 ht hg
                have HS : (fun V => Bx V g6 27 #[.int .u32 (c.toNat : Int), .slice A l.length k] ∧ Below wr.heap.size wr V) _ := ⟨hHeld.1.kept hg (by omega), below_of_grown1 hHeld.2 hg hHeld.2.size hzx⟩
                replace HR5 := Lib.hid (RowP.keptNe HR5.out HNE.out hg)
                replace HX := Lib.hid ht
                clear ht hg hHeld
                refine hK.out _ _ HS (fun hHeld => ?_)
                clear hK K HS
                try simp only [Act.put, List.setIfInBounds_toArray, List.set_cons_zero, List.set_cons_succ]
                refine wpAnyW_held (i := 22) (by kernel_rfl) (by simp only [List.getElem?_toArray, List.getElem?_cons_succ, List.getElem?_cons_zero]; rfl) (fun K hK => ?_)
                rw [if_pos (by rfl)]
                go_simp
                refine hK.out _ _ hHeld (fun hHeld => ?_)
                clear hK K
                try simp only [Act.put, List.setIfInBounds_toArray, List.set_cons_zero, List.set_cons_succ]
                refine wpAnyW_freed (i := 23) (by kernel_rfl) (by kernel_rfl) (by simp only [List.getElem?_toArray, List.getElem?_cons_succ, List.getElem?_cons_zero]; rfl) (fun K hK => ?_)
                rw [if_pos (by rfl)]
                go_simp
                have HE := Lib.hid hHeld
                refine hK.out _ _ ?_
                clear hK K hHeld
                try simp only [Act.put, List.setIfInBounds_toArray, List.set_cons_zero, List.set_cons_succ]
                refine wpAnyW_done (by kernel_rfl) ?_ _
                refine NoPanic.normal ?_
                go_wp2_with fail
                go_meet
                exact ⟨gx, A5, k5, rfl, rfl, rfl, Lib.hid ⟨HX.out, HE.out.1, HR5.out, HF5.out, HE.out.2⟩⟩
            case rest =>
              obtain ⟨g11, A2, k2, rfl, rfl, rfl, HH⟩ := hcut
              obtain ⟨hx, hq6, hr, hf, hb⟩ := HH.out
              have HX := Lib.hid hx
              replace HQ := Lib.hid hq6
              have HR5 := Lib.hid hr
              have HF5 := Lib.hid hf
              replace HB := Lib.hid (HB.out.trans (hb.mono HB.out.size))
              have hgb := hb.size
              clear hx hq6 hr hf hb HH HRS
              go_wp2_with (first
                | ((with_reducible refine gate9 ?_); refine ldB (ty := 27) rfl rfl rfl HX.out Try.underlying27 rfl infoS ?_)
                | ((with_reducible refine gate9 ?_); refine stB (ty := 27) #[.int .u32 (c.toNat : Int), .slice A2 (l.length + 1) k2] rfl rfl rfl rfl HQ.out infoS rfl (cellsS_one _ _ _ _) ?_; intro w9 ht hg; replace HR5 := Lib.hid (RowP.stays HR5.out HF5.out hg (by omega)); have HG9 := Lib.hid ht; replace HB := Lib.hid (below_of_grown1 HB.out hg HB.out.size hwg); have hs9 := hg.size; have e4 := (range_below hrg hbw HB.out) 4 (.int .i64 sz) rfl; clear ht hg)
                | (go_at_call 6; (with_reducible refine (HPZ.out _).mono ?_); rintro e w10 ⟨rfl, rfl⟩))
              go_meet
              exact ⟨l2, c, all2, A2, k2, by rw [HN2.out], rfl, rfl, Lib.hid ⟨HPN.out, by rw [hlen2]; exact HG9.out, by rw [hlen2]; exact HR5.out, HB.out, by omega⟩⟩
          · as_aux_lemma =>
            have hbw := hb
            have hlj := HPI.out.len
            have hlo := HPI.out.lo
            have hhi := HPI.out.hi
            have HPZ := Lib.hid (fun W => pick_any sz 1500 hwx.sz (by omega) (by omega) W)
            have HPP := Lib.hid (fun W => pick_any pa 2 hwx.pa (by omega) (by omega) W)
            have hpz := pickI_le (c := sz) (n := 1500) (by omega)
            have hpp := pickI_le (c := pa) (n := 2) (by omega)
            try dsimp only at HPZ HPP
            generalize pickI sz 1500 = z at *
            generalize pickI pa 2 = q at *
            obtain ⟨n, hn⟩ : ∃ n, 1 + z = n := ⟨_, rfl⟩
            have s1 : IntKind.i64.wrap (1 + z) = n := by rw [IntKind.wrap_i64]; omega
            have h1 : 1 ≤ n := by omega
            have h2 : n ≤ 1500 := by omega
            have hq01 : q = 0 ∨ q = 1 := by omega
            have HPN := Lib.hid (HPI.out.put (show j < 60 by omega) h1 h2 hq01 (now := (j : Int)))
            have HPU := Lib.hid (fun V W h => put_any c l n q (j : Int) h1 h2 (by omega) V W h)
            have HNL := Lib.hid (next_put c l (newPc (nextL c l) n q (j : Int)))
            have s3 := next_num1 (nextL c l)
            have hlen2 : (l ++ [newPc (nextL c l) n q (j : Int)]).length = l.length + 1 := by simp
            generalize l ++ [newPc (nextL c l) n q (j : Int)] = l2 at *
            obtain ⟨all2, hal⟩ : ∃ a, all + n = a := ⟨_, rfl⟩
            obtain ⟨all1, hal1⟩ : ∃ a, all + 1 = a := ⟨_, rfl⟩
            rw [hal] at HPN
            have s6 : IntKind.i64.wrap (all + 1) = all1 := by rw [IntKind.wrap_i64]; omega
            have s7 : IntKind.i64.wrap (all1 + z) = all2 := by rw [IntKind.wrap_i64]; omega
            obtain ⟨nx, hnx⟩ : ∃ x, (nextL c l).toNat = x := ⟨_, rfl⟩
            obtain ⟨nx2, hnx2⟩ : ∃ x, (nextL c l + 1).toNat = x := ⟨_, rfl⟩
            rw [hnx] at HPU s3 ⊢
            rw [hnx2] at s3
            have HN2 : Hid ((nextL c l2).toNat = nx2) := Lib.hid (by rw [HNL.out]; exact hnx2)
            clear hnx hnx2 hal hal1 hn hpz hpp hlj hhi HNL HPK hpk HRG
            go_wp2_with fail
            go_cut [11, 12, 13] from 55 to 266 (fun v11 v12 v13 wx => ∃ (g11 : Nat) (A2 : Option Addr) (k2 : Nat), v11 = .pointer (some ⟨g11, 0, none⟩) ∧ v12 = .int .u32 (nx : Int) ∧ v13 = .int .i64 0 ∧ Hid (Bx wx g11 27 #[.int .u32 (c.toNat : Int), .slice A2 (l.length + 1) k2] ∧ Bx wx g6 27 #[.int .u32 (c.toNat : Int), .slice A l.length k] ∧ RowP wx (.slice A2 (l.length + 1) k2) l2 ∧ Fresh (g6 + 1) (.slice A2 (l.length + 1) k2) ∧ Below wr.heap.size wr wx))
            case first =>
              have HS : (fun V => Bx V g6 27 #[.int .u32 (c.toNat : Int), .slice A l.length k] ∧ Below wr.heap.size wr V) _ := ⟨HQ.out.drew, below_drawn (Below.refl _ _)⟩
              refine wp_region_noPanic ?_
              refine wp_region_waits (S := (fun V => Bx V g6 27 #[.int .u32 (c.toNat : Int), .slice A l.length k] ∧ Below wr.heap.size wr V)) [23] (by kernel_rfl) HS (fun hHeld => ?_)
              clear HS
              refine wpAnyW_take (i := 0) (v := _) (by simp only [List.getElem?_toArray, List.getElem?_cons_zero]; rfl) (by kernel_rfl) (by kernel_rfl) (by kernel_rfl) (by kernel_rfl) (by kernel_rfl) (fun _ _ _ h => h) (yB (ty := 27) (by rfl) rfl rfl (fun V h => h.1) Try.underlying27 rfl infoS) (by assumption) ?_
              try simp only [Act.put, List.setIfInBounds_toArray, List.set_cons_zero, List.set_cons_succ]
              refine wpAnyW_take (i := 1) (v := ?_) (by simp only [List.getElem?_toArray, List.getElem?_cons_succ, List.getElem?_cons_zero]; rfl) (by kernel_rfl) (by kernel_rfl) (by kernel_rfl) (by kernel_rfl) (by kernel_rfl) (fun _ _ _ h => h) (Or.inl ⟨by rfl, ?_⟩) (by assumption) ?_
              rotate_left 1
              · (intro w' hSw; go_simp; try with_reducible rfl)
              try simp only [Act.put, List.setIfInBounds_toArray, List.set_cons_zero, List.set_cons_succ]
              refine wpAnyW_take (i := 2) (v := ?_) (by simp only [List.getElem?_toArray, List.getElem?_cons_succ, List.getElem?_cons_zero]; rfl) (by kernel_rfl) (by kernel_rfl) (by kernel_rfl) (by kernel_rfl) (by kernel_rfl) (fun _ _ _ h => h) (Or.inl ⟨by rfl, ?_⟩) (by assumption) ?_
              rotate_left 1
              · (intro w' hSw; go_simp; try with_reducible rfl)
              try simp only [Act.put, List.setIfInBounds_toArray, List.set_cons_zero, List.set_cons_succ]
              refine wpAnyW_take (i := 3) (v := ?_) (by simp only [List.getElem?_toArray, List.getElem?_cons_succ, List.getElem?_cons_zero]; rfl) (by kernel_rfl) (by kernel_rfl) (by kernel_rfl) (by kernel_rfl) (by kernel_rfl) (fun _ _ _ h => h) (Or.inl ⟨by rfl, ?_⟩) (by assumption) ?_
              rotate_left 1
              · (intro w' hSw; go_simp; try with_reducible rfl)
              try simp only [Act.put, List.setIfInBounds_toArray, List.set_cons_zero, List.set_cons_succ]
              refine wpAnyW_take (i := 4) (v := ?_) (by simp only [List.getElem?_toArray, List.getElem?_cons_succ, List.getElem?_cons_zero]; rfl) (by kernel_rfl) (by kernel_rfl) (by kernel_rfl) (by kernel_rfl) (by kernel_rfl) (fun _ _ _ h => h) (Or.inl ⟨by rfl, ?_⟩) (by assumption) ?_
              rotate_left 1
              · (intro w' hSw; go_simp; try with_reducible rfl)
              try simp only [Act.put, List.setIfInBounds_toArray, List.set_cons_zero, List.set_cons_succ]
              refine wpAnyW_take (i := 5) (v := ?_) (by simp only [List.getElem?_toArray, List.getElem?_cons_succ, List.getElem?_cons_zero]; rfl) (by kernel_rfl) (by kernel_rfl) (by kernel_rfl) (by kernel_rfl) (by kernel_rfl) (fun _ _ _ h => h) (Or.inl ⟨by rfl, ?_⟩) (by assumption) ?_
              rotate_left 1
              · (intro w' hSw; have hq := (range_below hrg hbw (HB.out.trans (hSw.2.mono HB.out.size))) 4 (.int .i64 sz) rfl; go_simp; try with_reducible rfl)
              try simp only [Act.put, List.setIfInBounds_toArray, List.set_cons_zero, List.set_cons_succ]
              refine wpAnyW_take (i := 8) (v := ?_) (by simp only [List.getElem?_toArray, List.getElem?_cons_succ, List.getElem?_cons_zero]; rfl) (by kernel_rfl) (by kernel_rfl) (by kernel_rfl) (by kernel_rfl) (by kernel_rfl) (fun _ _ _ h => h) (Or.inl ⟨by rfl, ?_⟩) (by assumption) ?_
              rotate_left 1
              · (intro w' hSw; go_simp; try with_reducible rfl)
              try simp only [Act.put, List.setIfInBounds_toArray, List.set_cons_zero, List.set_cons_succ]
              refine wpAnyW_take (i := 9) (v := ?_) (by simp only [List.getElem?_toArray, List.getElem?_cons_succ, List.getElem?_cons_zero]; rfl) (by kernel_rfl) (by kernel_rfl) (by kernel_rfl) (by kernel_rfl) (by kernel_rfl) (fun _ _ _ h => h) (Or.inl ⟨by rfl, ?_⟩) (by assumption) ?_
              rotate_left 1
              · (intro w' hSw; go_simp; try with_reducible rfl)
              try simp only [Act.put, List.setIfInBounds_toArray, List.set_cons_zero, List.set_cons_succ]
              refine wpAnyW_take (i := 10) (v := ?_) (by simp only [List.getElem?_toArray, List.getElem?_cons_succ, List.getElem?_cons_zero]; rfl) (by kernel_rfl) (by kernel_rfl) (by kernel_rfl) (by kernel_rfl) (by kernel_rfl) (fun _ _ _ h => h) (Or.inl ⟨by rfl, ?_⟩) (by assumption) ?_
              rotate_left 1
              · (intro w' hSw; go_simp; try with_reducible rfl)
              try simp only [Act.put, List.setIfInBounds_toArray, List.set_cons_zero, List.set_cons_succ]
              refine wpAnyW_take (i := 11) (v := ?_) (by simp only [List.getElem?_toArray, List.getElem?_cons_succ, List.getElem?_cons_zero]; rfl) (by kernel_rfl) (by kernel_rfl) (by kernel_rfl) (by kernel_rfl) (by kernel_rfl) (fun _ _ _ h => h) (Or.inl ⟨by rfl, ?_⟩) (by assumption) ?_
              rotate_left 1
              · (intro w' hSw; go_simp; try with_reducible rfl)
              try simp only [Act.put, List.setIfInBounds_toArray, List.set_cons_zero, List.set_cons_succ]
              refine wpAnyW_take (i := 12) (v := ?_) (by simp only [List.getElem?_toArray, List.getElem?_cons_succ, List.getElem?_cons_zero]; rfl) (by kernel_rfl) (by kernel_rfl) (by kernel_rfl) (by kernel_rfl) (by kernel_rfl) (fun _ _ _ h => h) (Or.inl ⟨by rfl, ?_⟩) (by assumption) ?_
              rotate_left 1
              · (intro w' hSw; have hq := (range_below hrg hbw (HB.out.trans (hSw.2.mono HB.out.size))) 5 (.int .i64 pa) rfl; go_simp; try with_reducible rfl)
              try simp only [Act.put, List.setIfInBounds_toArray, List.set_cons_zero, List.set_cons_succ]
              refine wpAnyW_take (i := 14) (v := ?_) (by simp only [List.getElem?_toArray, List.getElem?_cons_succ, List.getElem?_cons_zero]; rfl) (by kernel_rfl) (by kernel_rfl) (by kernel_rfl) (by kernel_rfl) (by kernel_rfl) (fun _ _ _ h => h) (Or.inl ⟨by rfl, ?_⟩) (by assumption) ?_
              rotate_left 1
              · (intro w' hSw; go_simp; try with_reducible rfl)
              try simp only [Act.put, List.setIfInBounds_toArray, List.set_cons_zero, List.set_cons_succ]
              refine wpAnyW_two (i := 6) (i2 := 20) (by kernel_rfl) (by simp only [List.getElem?_toArray, List.getElem?_cons_succ, List.getElem?_cons_zero]; rfl) (by simp only [List.getElem?_toArray, List.getElem?_cons_succ, List.getElem?_cons_zero]; rfl) (fun K hK => ?_) (fun K hK => ?_)
              · rw [if_pos (by rfl)]
                go_simp
                refine (HPZ.out _).mono ?_
                rintro _ wq ⟨rfl, rfl⟩
                have HS := hHeld
                clear hHeld
                go_wp2_with fail
                refine hK.out _ _ HS (fun hHeld => ?_)
                clear hK K HS
                try simp only [Act.put, List.setIfInBounds_toArray, List.set_cons_zero, List.set_cons_succ]
                refine wpAnyW_take (i := 7) (v := ?_) (by simp only [List.getElem?_toArray, List.getElem?_cons_succ, List.getElem?_cons_zero]; rfl) (by kernel_rfl) (by kernel_rfl) (by kernel_rfl) (by kernel_rfl) (by kernel_rfl) (fun _ _ _ h => h) (Or.inl ⟨by rfl, ?_⟩) (by assumption) ?_
                rotate_left 1
                · (intro w' hSw; go_simp; try with_reducible rfl)
                try simp only [Act.put, List.setIfInBounds_toArray, List.set_cons_zero, List.set_cons_succ]
                refine wpAnyW_two (i := 13) (i2 := 20) (by kernel_rfl) (by simp only [List.getElem?_toArray, List.getElem?_cons_succ, List.getElem?_cons_zero]; rfl) (by simp only [List.getElem?_toArray, List.getElem?_cons_succ, List.getElem?_cons_zero]; rfl) (fun K hK => ?_) (fun K hK => ?_)
                · rw [if_pos (by rfl)]
                  go_simp
                  refine (HPP.out _).mono ?_
                  rintro _ wq ⟨rfl, rfl⟩
                  have HS := hHeld
                  clear hHeld
                  go_wp2_with fail
                  refine hK.out _ _ HS (fun hHeld => ?_)
                  clear hK K HS
                  try simp only [Act.put, List.setIfInBounds_toArray, List.set_cons_zero, List.set_cons_succ]
                  refine wpAnyW_two (i := 15) (i2 := 20) (by kernel_rfl) (by simp only [List.getElem?_toArray, List.getElem?_cons_succ, List.getElem?_cons_zero]; rfl) (by simp only [List.getElem?_toArray, List.getElem?_cons_succ, List.getElem?_cons_zero]; rfl) (fun K hK => ?_) (fun K hK => ?_)
                  · rw [if_pos (by rfl)]
                    go_simp
                    refine (HPU.out _ _ (HRS.out.below hHeld.2)).mono ?_
                    rintro _ u5 ⟨A5, k5, rfl, hr, hf, hb⟩
                    have HS : (fun V => Bx V g6 27 #[.int .u32 (c.toNat : Int), .slice A l.length k] ∧ Below wr.heap.size wr V) _ := ⟨hHeld.1.later hb, hHeld.2.trans (hb.mono hHeld.2.size)⟩
                    have HR5 := Lib.hid hr
                    have HF5 := Lib.hid (hf.less (show g6 + 1 ≤ _ by have := hHeld.2.size; omega))
                    clear hr
                    clear hf
                    clear hHeld hb
                    go_wp2_with fail
                    refine hK.out _ _ HS (fun hHeld => ?_)
                    clear hK K HS
                    try simp only [Act.put, List.setIfInBounds_toArray, List.set_cons_zero, List.set_cons_succ]
                    refine wpAnyW_take (i := 16) (v := ?_) (by simp only [List.getElem?_toArray, List.getElem?_cons_succ, List.getElem?_cons_zero]; rfl) (by kernel_rfl) (by kernel_rfl) (by kernel_rfl) (by kernel_rfl) (by kernel_rfl) (fun _ _ _ h => h) (Or.inl ⟨by rfl, ?_⟩) (by assumption) ?_
                    rotate_left 1
                    · (intro w' hSw; go_simp; try with_reducible rfl)
                    try simp only [Act.put, List.setIfInBounds_toArray, List.set_cons_zero, List.set_cons_succ]
                    refine wpAnyW_take (i := 17) (v := ?_) (by simp only [List.getElem?_toArray, List.getElem?_cons_succ, List.getElem?_cons_zero]; rfl) (by kernel_rfl) (by kernel_rfl) (by kernel_rfl) (by kernel_rfl) (by kernel_rfl) (fun _ _ _ h => h) (Or.inl ⟨by rfl, ?_⟩) (by assumption) ?_
                    rotate_left 1
                    · (intro w' hSw; go_simp; try with_reducible rfl)
                    try simp only [Act.put, List.setIfInBounds_toArray, List.set_cons_zero, List.set_cons_succ]
                    refine wpAnyW_take (i := 18) (v := ?_) (by simp only [List.getElem?_toArray, List.getElem?_cons_succ, List.getElem?_cons_zero]; rfl) (by kernel_rfl) (by kernel_rfl) (by kernel_rfl) (by kernel_rfl) (by kernel_rfl) (fun _ _ _ h => h) (Or.inl ⟨by rfl, ?_⟩) (by assumption) ?_
                    rotate_left 1
                    · (intro w' hSw; go_simp; try with_reducible rfl)
                    try simp only [Act.put, List.setIfInBounds_toArray, List.set_cons_zero, List.set_cons_succ]
                    refine wpAnyW_take (i := 19) (v := ?_) (by simp only [List.getElem?_toArray, List.getElem?_cons_succ, List.getElem?_cons_zero]; rfl) (by kernel_rfl) (by kernel_rfl) (by kernel_rfl) (by kernel_rfl) (by kernel_rfl) (fun _ _ _ h => h) (Or.inl ⟨by rfl, ?_⟩) (by assumption) ?_
                    rotate_left 1
                    · (intro w' hSw; go_simp; try with_reducible rfl)
                    try simp only [Act.put, List.setIfInBounds_toArray, List.set_cons_zero, List.set_cons_succ]
                    refine wpAnyW_held (i := 20) (by kernel_rfl) (by simp only [List.getElem?_toArray, List.getElem?_cons_succ, List.getElem?_cons_zero]; rfl) (fun K hK => ?_)
                    rw [if_pos (by rfl)]
                    obtain ⟨v3, hv3, HX, HBv3, hsv3⟩ := one_open u5 27 #[.int .u32 0, .slice none 0 0]
                    obtain ⟨gx, hgx⟩ : ∃ g, u5.heap.size = g := ⟨_, rfl⟩
                    rw [hgx] at HX hsv3
                    have HS : (fun V => Bx V g6 27 #[.int .u32 (c.toNat : Int), .slice A l.length k] ∧ Below wr.heap.size wr V) _ := ⟨hHeld.1.later HBv3.out, hHeld.2.trans (HBv3.out.mono hHeld.2.size)⟩
                    have hzx : wr.heap.size ≤ gx := by have := hHeld.2.size; omega
                    have HNE := Lib.hid (RowP.ne_new HR5.out (by rw [hlen2]; omega) (Nat.le_of_eq hgx))
                    replace HR5 := Lib.hid (RowP.below HR5.out HBv3.out)
                    clear hHeld HBv3 hsv3
                    go_simp
                    refine hK.out _ _ HS (fun hHeld => ?_)
                    clear hK K HS
                    try simp only [Act.put, List.setIfInBounds_toArray, List.set_cons_zero, List.set_cons_succ]
                    clear hgx
                    refine wpAnyW_held (i := 21) (by kernel_rfl) (by simp only [List.getElem?_toArray, List.getElem?_cons_succ, List.getElem?_cons_zero]; rfl) (fun K hK => ?_)
                    rw [if_pos (by rfl)]
                    refine wpB (ty := 27) #[.int .u32 (c.toNat : Int), .slice A5 (l.length + 1) k5] rfl rfl rfl HX.out infoS rfl (cellsS_one _ _ _ _) ?_
                    intro y1 ht hg
                    have HS : (fun V => Bx V g6 27 #[.int .u32 (c.toNat : Int), .slice A l.length k] ∧ Below wr.heap.size wr V) _ := ⟨hHeld.1.kept hg (by omega), below_of_grown1 hHeld.2 hg hHeld.2.size hzx⟩
                    replace HR5 := Lib.hid (RowP.keptNe HR5.out HNE.out hg)
                    replace HX := Lib.hid ht
                    clear ht hg hHeld
                    refine hK.out _ _ HS (fun hHeld => ?_)
                    clear hK K HS
                    try simp only [Act.put, List.setIfInBounds_toArray, List.set_cons_zero, List.set_cons_succ]
                    refine wpAnyW_held (i := 22) (by kernel_rfl) (by simp only [List.getElem?_toArray, List.getElem?_cons_succ, List.getElem?_cons_zero]; rfl) (fun K hK => ?_)
                    rw [if_pos (by rfl)]
                    go_simp
                    refine hK.out _ _ hHeld (fun hHeld => ?_)
                    clear hK K
                    try simp only [Act.put, List.setIfInBounds_toArray, List.set_cons_zero, List.set_cons_succ]
                    refine wpAnyW_freed (i := 23) (by kernel_rfl) (by kernel_rfl) (by simp only [List.getElem?_toArray, List.getElem?_cons_succ, List.getElem?_cons_zero]; rfl) (fun K hK => ?_)
                    rw [if_pos (by rfl)]
                    go_simp
                    have HE := Lib.hid hHeld
                    refine hK.out _ _ ?_
                    clear hK K hHeld
                    try simp only [Act.put, List.setIfInBounds_toArray, List.set_cons_zero, List.set_cons_succ]
                    refine wpAnyW_done (by kernel_rfl) ?_ _
                    refine NoPanic.normal ?_
                    go_wp2_with fail
                    go_meet
                    exact ⟨gx, A5, k5, rfl, rfl, rfl, Lib.hid ⟨HX.out, HE.out.1, HR5.out, HF5.out, HE.out.2⟩⟩
                  · rw [if_pos (by rfl)]
                    obtain ⟨v2, hv2, HX, HBv2, hsv2⟩ := one_open wr.drew 27 #[.int .u32 0, .slice none 0 0]
                    obtain ⟨gx, hgx⟩ : ∃ g, wr.drew.heap.size = g := ⟨_, rfl⟩
                    rw [hgx] at HX hsv2
                    have HS : (fun V => Bx V g6 27 #[.int .u32 (c.toNat : Int), .slice A l.length k] ∧ Below wr.heap.size wr V) _ := ⟨hHeld.1.later HBv2.out, hHeld.2.trans (HBv2.out.mono hHeld.2.size)⟩
                    have hzx : wr.heap.size ≤ gx := by have := hHeld.2.size; omega
                    clear hHeld HBv2 hsv2
                    go_simp
                    refine hK.out _ _ HS (fun hHeld => ?_)
                    clear hK K HS
                    try simp only [Act.put, List.setIfInBounds_toArray, List.set_cons_zero, List.set_cons_succ]
                    clear hgx
                    refine wpAnyW_held (i := 15) (by kernel_rfl) (by simp only [List.getElem?_toArray, List.getElem?_cons_succ, List.getElem?_cons_zero]; rfl) (fun K hK => ?_)
                    rw [if_pos (by rfl)]
                    go_simp
                    refine (HPU.out _ _ (HRS.out.below hHeld.2)).mono ?_
                    rintro _ u5 ⟨A5, k5, rfl, hr, hf, hb⟩
                    have HS : (fun V => Bx V g6 27 #[.int .u32 (c.toNat : Int), .slice A l.length k] ∧ Below wr.heap.size wr V) _ := ⟨hHeld.1.later hb, hHeld.2.trans (hb.mono hHeld.2.size)⟩
                    have HR5 := Lib.hid hr
                    have HF5 := Lib.hid (hf.less (show g6 + 1 ≤ _ by have := hHeld.2.size; omega))
                    clear hr
                    have HNE : Hid (∀ a n c, Value.slice A5 (l.length + 1) k5 = Value.slice (some a) n c → a.block ≠ gx) := Lib.hid (fun a n c e => by have h1 := hf a n c e; have h2 := HX.out.lt; omega)
                    replace HX := Lib.hid (HX.out.later hb)
                    clear hf
                    clear hHeld hb
                    go_wp2_with fail
                    refine hK.out _ _ HS (fun hHeld => ?_)
                    clear hK K HS
                    try simp only [Act.put, List.setIfInBounds_toArray, List.set_cons_zero, List.set_cons_succ]
                    refine wpAnyW_take (i := 16) (v := ?_) (by simp only [List.getElem?_toArray, List.getElem?_cons_succ, List.getElem?_cons_zero]; rfl) (by kernel_rfl) (by kernel_rfl) (by kernel_rfl) (by kernel_rfl) (by kernel_rfl) (fun _ _ _ h => h) (Or.inl ⟨by rfl, ?_⟩) (by assumption) ?_
                    rotate_left 1
                    · (intro w' hSw; go_simp; try with_reducible rfl)
                    try simp only [Act.put, List.setIfInBounds_toArray, List.set_cons_zero, List.set_cons_succ]
                    refine wpAnyW_take (i := 17) (v := ?_) (by simp only [List.getElem?_toArray, List.getElem?_cons_succ, List.getElem?_cons_zero]; rfl) (by kernel_rfl) (by kernel_rfl) (by kernel_rfl) (by kernel_rfl) (by kernel_rfl) (fun _ _ _ h => h) (Or.inl ⟨by rfl, ?_⟩) (by assumption) ?_
                    rotate_left 1
                    · (intro w' hSw; go_simp; try with_reducible rfl)
                    try simp only [Act.put, List.setIfInBounds_toArray, List.set_cons_zero, List.set_cons_succ]
                    refine wpAnyW_take (i := 18) (v := ?_) (by simp only [List.getElem?_toArray, List.getElem?_cons_succ, List.getElem?_cons_zero]; rfl) (by kernel_rfl) (by kernel_rfl) (by kernel_rfl) (by kernel_rfl) (by kernel_rfl) (fun _ _ _ h => h) (Or.inl ⟨by rfl, ?_⟩) (by assumption) ?_
                    rotate_left 1
                    · (intro w' hSw; go_simp; try with_reducible rfl)
                    try simp only [Act.put, List.setIfInBounds_toArray, List.set_cons_zero, List.set_cons_succ]
                    refine wpAnyW_take (i := 19) (v := ?_) (by simp only [List.getElem?_toArray, List.getElem?_cons_succ, List.getElem?_cons_zero]; rfl) (by kernel_rfl) (by kernel_rfl) (by kernel_rfl) (by kernel_rfl) (by kernel_rfl) (fun _ _ _ h => h) (Or.inl ⟨by rfl, ?_⟩) (by assumption) ?_
                    rotate_left 1
                    · (intro w' hSw; go_simp; try with_reducible rfl)
                    try simp only [Act.put, List.setIfInBounds_toArray, List.set_cons_zero, List.set_cons_succ]
                    refine wpAnyW_held (i := 21) (by kernel_rfl) (by simp only [List.getElem?_toArray, List.getElem?_cons_succ, List.getElem?_cons_zero]; rfl) (fun K hK => ?_)
                    rw [if_pos (by rfl)]
                    refine wpB (ty := 27) #[.int .u32 (c.toNat : Int), .slice A5 (l.length + 1) k5] rfl rfl rfl HX.out infoS rfl (cellsS_one _ _ _ _) ?_
                    intro y1 ht hg
                    have HS : (fun V => Bx V g6 27 #[.int .u32 (c.toNat : Int), .slice A l.length k] ∧ Below wr.heap.size wr V) _ := ⟨hHeld.1.kept hg (by omega), below_of_grown1 hHeld.2 hg hHeld.2.size hzx⟩
                    replace HR5 := Lib.hid (RowP.keptNe HR5.out HNE.out hg)
                    replace HX := Lib.hid ht
                    clear ht hg hHeld
                    refine hK.out _ _ HS (fun hHeld => ?_)
                    clear hK K HS
                    try simp only [Act.put, List.setIfInBounds_toArray, List.set_cons_zero, List.set_cons_succ]
                    refine wpAnyW_held (i := 22) (by kernel_rfl) (by simp only [List.getElem?_toArray, List.getElem?_cons_succ, List.getElem?_cons_zero]; rfl) (fun K hK => ?_)
                    rw [if_pos (by rfl)]
                    go_simp
                    refine hK.out _ _ hHeld (fun hHeld => ?_)
                    clear hK K
                    try simp only [Act.put, List.setIfInBounds_toArray, List.set_cons_zero, List.set_cons_succ]
                    refine wpAnyW_freed (i := 23) (by kernel_rfl) (by kernel_rfl) (by simp only [List.getElem?_toArray, List.getElem?_cons_succ, List.getElem?_cons_zero]; rfl) (fun K hK => ?_)
                    rw [if_pos (by rfl)]
                    go_simp
                    have HE := Lib.hid hHeld
                    refine hK.out _ _ ?_
                    clear hK K hHeld
                    try simp only [Act.put, List.setIfInBounds_toArray, List.set_cons_zero, List.set_cons_succ]
                    refine wpAnyW_done (by kernel_rfl) ?_ _
                    refine NoPanic.normal ?_
                    go_wp2_with fail
                    go_meet
                    exact ⟨gx, A5, k5, rfl, rfl, rfl, Lib.hid ⟨HX.out, HE.out.1, HR5.out, HF5.out, HE.out.2⟩⟩
                · rw [if_pos (by rfl)]
                  obtain ⟨v1, hv1, HX, HBv1, hsv1⟩ := one_open wr.drew 27 #[.int .u32 0, .slice none 0 0]
                  obtain ⟨gx, hgx⟩ : ∃ g, wr.drew.heap.size = g := ⟨_, rfl⟩
                  rw [hgx] at HX hsv1
                  have HS : (fun V => Bx V g6 27 #[.int .u32 (c.toNat : Int), .slice A l.length k] ∧ Below wr.heap.size wr V) _ := ⟨hHeld.1.later HBv1.out, hHeld.2.trans (HBv1.out.mono hHeld.2.size)⟩
                  have hzx : wr.heap.size ≤ gx := by have := hHeld.2.size; omega
                  clear hHeld HBv1 hsv1
                  go_simp
                  refine hK.out _ _ HS (fun hHeld => ?_)
                  clear hK K HS
                  try simp only [Act.put, List.setIfInBounds_toArray, List.set_cons_zero, List.set_cons_succ]
                  clear hgx
                  refine wpAnyW_held (i := 13) (by kernel_rfl) (by simp only [List.getElem?_toArray, List.getElem?_cons_succ, List.getElem?_cons_zero]; rfl) (fun K hK => ?_)
                  rw [if_pos (by rfl)]
                  go_simp
                  refine (HPP.out _).mono ?_
                  rintro _ v1 ⟨rfl, rfl⟩
                  have HS := hHeld
                  clear hHeld
                  go_wp2_with fail
                  refine hK.out _ _ HS (fun hHeld => ?_)
                  clear hK K HS
                  try simp only [Act.put, List.setIfInBounds_toArray, List.set_cons_zero, List.set_cons_succ]
                  refine wpAnyW_held (i := 15) (by kernel_rfl) (by simp only [List.getElem?_toArray, List.getElem?_cons_succ, List.getElem?_cons_zero]; rfl) (fun K hK => ?_)
                  rw [if_pos (by rfl)]
                  go_simp
                  refine (HPU.out _ _ (HRS.out.below hHeld.2)).mono ?_
                  rintro _ u5 ⟨A5, k5, rfl, hr, hf, hb⟩
                  have HS : (fun V => Bx V g6 27 #[.int .u32 (c.toNat : Int), .slice A l.length k] ∧ Below wr.heap.size wr V) _ := ⟨hHeld.1.later hb, hHeld.2.trans (hb.mono hHeld.2.size)⟩
                  have HR5 := Lib.hid hr
                  have HF5 := Lib.hid (hf.less (show g6 + 1 ≤ _ by have := hHeld.2.size; omega))
                  clear hr
                  have HNE : Hid (∀ a n c, Value.slice A5 (l.length + 1) k5 = Value.slice (some a) n c → a.block ≠ gx) := Lib.hid (fun a n c e => by have h1 := hf a n c e; have h2 := HX.out.lt; omega)
                  replace HX := Lib.hid (HX.out.later hb)
                  clear hf
                  clear hHeld hb
                  go_wp2_with fail
                  refine hK.out _ _ HS (fun hHeld => ?_)
                  clear hK K HS
                  try simp only [Act.put, List.setIfInBounds_toArray, List.set_cons_zero, List.set_cons_succ]
                  refine wpAnyW_take (i := 16) (v := ?_) (by simp only [List.getElem?_toArray, List.getElem?_cons_succ, List.getElem?_cons_zero]; rfl) (by kernel_rfl) (by kernel_rfl) (by kernel_rfl) (by kernel_rfl) (by kernel_rfl) (fun _ _ _ h => h) (Or.inl ⟨by rfl, ?_⟩) (by assumption) ?_
                  rotate_left 1
                  · (intro w' hSw; go_simp; try with_reducible rfl)
                  try simp only [Act.put, List.setIfInBounds_toArray, List.set_cons_zero, List.set_cons_succ]
                  refine wpAnyW_take (i := 17) (v := ?_) (by simp only [List.getElem?_toArray, List.getElem?_cons_succ, List.getElem?_cons_zero]; rfl) (by kernel_rfl) (by kernel_rfl) (by kernel_rfl) (by kernel_rfl) (by kernel_rfl) (fun _ _ _ h => h) (Or.inl ⟨by rfl, ?_⟩) (by assumption) ?_
                  rotate_left 1
                  · (intro w' hSw; go_simp; try with_reducible rfl)
                  try simp only [Act.put, List.setIfInBounds_toArray, List.set_cons_zero, List.set_cons_succ]
                  refine wpAnyW_take (i := 18) (v := ?_) (by simp only [List.getElem?_toArray, List.getElem?_cons_succ, List.getElem?_cons_zero]; rfl) (by kernel_rfl) (by kernel_rfl) (by kernel_rfl) (by kernel_rfl) (by kernel_rfl) (fun _ _ _ h => h) (Or.inl ⟨by rfl, ?_⟩) (by assumption) ?_
                  rotate_left 1
                  · (intro w' hSw; go_simp; try with_reducible rfl)
                  try simp only [Act.put, List.setIfInBounds_toArray, List.set_cons_zero, List.set_cons_succ]
                  refine wpAnyW_take (i := 19) (v := ?_) (by simp only [List.getElem?_toArray, List.getElem?_cons_succ, List.getElem?_cons_zero]; rfl) (by kernel_rfl) (by kernel_rfl) (by kernel_rfl) (by kernel_rfl) (by kernel_rfl) (fun _ _ _ h => h) (Or.inl ⟨by rfl, ?_⟩) (by assumption) ?_
                  rotate_left 1
                  · (intro w' hSw; go_simp; try with_reducible rfl)
                  try simp only [Act.put, List.setIfInBounds_toArray, List.set_cons_zero, List.set_cons_succ]
                  refine wpAnyW_held (i := 21) (by kernel_rfl) (by simp only [List.getElem?_toArray, List.getElem?_cons_succ, List.getElem?_cons_zero]; rfl) (fun K hK => ?_)
                  rw [if_pos (by rfl)]
                  refine wpB (ty := 27) #[.int .u32 (c.toNat : Int), .slice A5 (l.length + 1) k5] rfl rfl rfl HX.out infoS rfl (cellsS_one _ _ _ _) ?_
                  intro y1 ht hg
                  have HS : (fun V => Bx V g6 27 #[.int .u32 (c.toNat : Int), .slice A l.length k] ∧ Below wr.heap.size wr V) _ := ⟨hHeld.1.kept hg (by omega), below_of_grown1 hHeld.2 hg hHeld.2.size hzx⟩
                  replace HR5 := Lib.hid (RowP.keptNe HR5.out HNE.out hg)
                  replace HX := Lib.hid ht
                  clear ht hg hHeld
                  refine hK.out _ _ HS (fun hHeld => ?_)
                  clear hK K HS
                  try simp only [Act.put, List.setIfInBounds_toArray, List.set_cons_zero, List.set_cons_succ]
                  refine wpAnyW_held (i := 22) (by kernel_rfl) (by simp only [List.getElem?_toArray, List.getElem?_cons_succ, List.getElem?_cons_zero]; rfl) (fun K hK => ?_)
                  rw [if_pos (by rfl)]
                  go_simp
                  refine hK.out _ _ hHeld (fun hHeld => ?_)
                  clear hK K
                  try simp only [Act.put, List.setIfInBounds_toArray, List.set_cons_zero, List.set_cons_succ]
                  refine wpAnyW_freed (i := 23) (by kernel_rfl) (by kernel_rfl) (by simp only [List.getElem?_toArray, List.getElem?_cons_succ, List.getElem?_cons_zero]; rfl) (fun K hK => ?_)
                  rw [if_pos (by rfl)]
                  go_simp
                  have HE := Lib.hid hHeld
                  refine hK.out _ _ ?_
                  clear hK K hHeld
                  try simp only [Act.put, List.setIfInBounds_toArray, List.set_cons_zero, List.set_cons_succ]
                  refine wpAnyW_done (by kernel_rfl) ?_ _
                  refine NoPanic.normal ?_
                  go_wp2_with fail
                  go_meet
                  exact ⟨gx, A5, k5, rfl, rfl, rfl, Lib.hid ⟨HX.out, HE.out.1, HR5.out, HF5.out, HE.out.2⟩⟩
              · rw [if_pos (by rfl)]
                obtain ⟨v0, hv0, HX, HBv0, hsv0⟩ := one_open wr.drew 27 #[.int .u32 0, .slice none 0 0]
                obtain ⟨gx, hgx⟩ : ∃ g, wr.drew.heap.size = g := ⟨_, rfl⟩
                rw [hgx] at HX hsv0
                have HS : (fun V => Bx V g6 27 #[.int .u32 (c.toNat : Int), .slice A l.length k] ∧ Below wr.heap.size wr V) _ := ⟨hHeld.1.later HBv0.out, hHeld.2.trans (HBv0.out.mono hHeld.2.size)⟩
                have hzx : wr.heap.size ≤ gx := by have := hHeld.2.size; omega
                clear hHeld HBv0 hsv0
                go_simp
                refine hK.out _ _ HS (fun hHeld => ?_)
                clear hK K HS
                try simp only [Act.put, List.setIfInBounds_toArray, List.set_cons_zero, List.set_cons_succ]
                clear hgx
                refine wpAnyW_held (i := 6) (by kernel_rfl) (by simp only [List.getElem?_toArray, List.getElem?_cons_succ, List.getElem?_cons_zero]; rfl) (fun K hK => ?_)
                rw [if_pos (by rfl)]
                go_simp
                refine (HPZ.out _).mono ?_
                rintro _ v0 ⟨rfl, rfl⟩
                have HS := hHeld
                clear hHeld
                go_wp2_with fail
                refine hK.out _ _ HS (fun hHeld => ?_)
                clear hK K HS
                try simp only [Act.put, List.setIfInBounds_toArray, List.set_cons_zero, List.set_cons_succ]
                refine wpAnyW_take (i := 7) (v := ?_) (by simp only [List.getElem?_toArray, List.getElem?_cons_succ, List.getElem?_cons_zero]; rfl) (by kernel_rfl) (by kernel_rfl) (by kernel_rfl) (by kernel_rfl) (by kernel_rfl) (fun _ _ _ h => h) (Or.inl ⟨by rfl, ?_⟩) (by assumption) ?_
                rotate_left 1
                · (intro w' hSw; go_simp; try with_reducible rfl)
                try simp only [Act.put, List.setIfInBounds_toArray, List.set_cons_zero, List.set_cons_succ]
                refine wpAnyW_held (i := 13) (by kernel_rfl) (by simp only [List.getElem?_toArray, List.getElem?_cons_succ, List.getElem?_cons_zero]; rfl) (fun K hK => ?_)
                rw [if_pos (by rfl)]
                go_simp
                refine (HPP.out _).mono ?_
                rintro _ v0 ⟨rfl, rfl⟩
                have HS := hHeld
                clear hHeld
                go_wp2_with fail
                refine hK.out _ _ HS (fun hHeld => ?_)
                clear hK K HS
                try simp only [Act.put, List.setIfInBounds_toArray, List.set_cons_zero, List.set_cons_succ]
                refine wpAnyW_held (i := 15) (by kernel_rfl) (by simp only [List.getElem?_toArray, List.getElem?_cons_succ, List.getElem?_cons_zero]; rfl) (fun K hK => ?_)
                rw [if_pos (by rfl)]
                go_simp
                refine (HPU.out _ _ (HRS.out.below hHeld.2)).mono ?_
                rintro _ u5 ⟨A5, k5, rfl, hr, hf, hb⟩
                have HS : (fun V => Bx V g6 27 #[.int .u32 (c.toNat : Int), .slice A l.length k] ∧ Below wr.heap.size wr V) _ := ⟨hHeld.1.later hb, hHeld.2.trans (hb.mono hHeld.2.size)⟩
                have HR5 := Lib.hid hr
                have HF5 := Lib.hid (hf.less (show g6 + 1 ≤ _ by have := hHeld.2.size; omega))
                clear hr
                have HNE : Hid (∀ a n c, Value.slice A5 (l.length + 1) k5 = Value.slice (some a) n c → a.block ≠ gx) := Lib.hid (fun a n c e => by have h1 := hf a n c e; have h2 := HX.out.lt; omega)
                replace HX := Lib.hid (HX.out.later hb)
                clear hf
                clear hHeld hb
                go_wp2_with fail
                refine hK.out _ _ HS (fun hHeld => ?_)
                clear hK K HS
                try simp only [Act.put, List.setIfInBounds_toArray, List.set_cons_zero, List.set_cons_succ]
                refine wpAnyW_take (i := 16) (v := ?_) (by simp only [List.getElem?_toArray, List.getElem?_cons_succ, List.getElem?_cons_zero]; rfl) (by kernel_rfl) (by kernel_rfl) (by kernel_rfl) (by kernel_rfl) (by kernel_rfl) (fun _ _ _ h => h) (Or.inl ⟨by rfl, ?_⟩) (by assumption) ?_
                rotate_left 1
                · (intro w' hSw; go_simp; try with_reducible rfl)
                try simp only [Act.put, List.setIfInBounds_toArray, List.set_cons_zero, List.set_cons_succ]
                refine wpAnyW_take (i := 17) (v := ?_) (by simp only [List.getElem?_toArray, List.getElem?_cons_succ, List.getElem?_cons_zero]; rfl) (by kernel_rfl) (by kernel_rfl) (by kernel_rfl) (by kernel_rfl) (by kernel_rfl) (fun _ _ _ h => h) (Or.inl ⟨by rfl, ?_⟩) (by assumption) ?_
                rotate_left 1
                · (intro w' hSw; go_simp; try with_reducible rfl)
                try simp only [Act.put, List.setIfInBounds_toArray, List.set_cons_zero, List.set_cons_succ]
                refine wpAnyW_take (i := 18) (v := ?_) (by simp only [List.getElem?_toArray, List.getElem?_cons_succ, List.getElem?_cons_zero]; rfl) (by kernel_rfl) (by kernel_rfl) (by kernel_rfl) (by kernel_rfl) (by kernel_rfl) (fun _ _ _ h => h) (Or.inl ⟨by rfl, ?_⟩) (by assumption) ?_
                rotate_left 1
                · (intro w' hSw; go_simp; try with_reducible rfl)
                try simp only [Act.put, List.setIfInBounds_toArray, List.set_cons_zero, List.set_cons_succ]
                refine wpAnyW_take (i := 19) (v := ?_) (by simp only [List.getElem?_toArray, List.getElem?_cons_succ, List.getElem?_cons_zero]; rfl) (by kernel_rfl) (by kernel_rfl) (by kernel_rfl) (by kernel_rfl) (by kernel_rfl) (fun _ _ _ h => h) (Or.inl ⟨by rfl, ?_⟩) (by assumption) ?_
                rotate_left 1
                · (intro w' hSw; go_simp; try with_reducible rfl)
                try simp only [Act.put, List.setIfInBounds_toArray, List.set_cons_zero, List.set_cons_succ]
                refine wpAnyW_held (i := 21) (by kernel_rfl) (by simp only [List.getElem?_toArray, List.getElem?_cons_succ, List.getElem?_cons_zero]; rfl) (fun K hK => ?_)
                rw [if_pos (by rfl)]
                refine wpB (ty := 27) #[.int .u32 (c.toNat : Int), .slice A5 (l.length + 1) k5] rfl rfl rfl HX.out infoS rfl (cellsS_one _ _ _ _) ?_
                intro y1 ht hg
                have HS : (fun V => Bx V g6 27 #[.int .u32 (c.toNat : Int), .slice A l.length k] ∧ Below wr.heap.size wr V) _ := ⟨hHeld.1.kept hg (by omega), below_of_grown1 hHeld.2 hg hHeld.2.size hzx⟩
                replace HR5 := Lib.hid (RowP.keptNe HR5.out HNE.out hg)
                replace HX := Lib.hid ht
                clear ht hg hHeld
                refine hK.out _ _ HS (fun hHeld => ?_)
                clear hK K HS
                try simp only [Act.put, List.setIfInBounds_toArray, List.set_cons_zero, List.set_cons_succ]
                refine wpAnyW_held (i := 22) (by kernel_rfl) (by simp only [List.getElem?_toArray, List.getElem?_cons_succ, List.getElem?_cons_zero]; rfl) (fun K hK => ?_)
                rw [if_pos (by rfl)]
                go_simp
                refine hK.out _ _ hHeld (fun hHeld => ?_)
                clear hK K
                try simp only [Act.put, List.setIfInBounds_toArray, List.set_cons_zero, List.set_cons_succ]
                refine wpAnyW_freed (i := 23) (by kernel_rfl) (by kernel_rfl) (by simp only [List.getElem?_toArray, List.getElem?_cons_succ, List.getElem?_cons_zero]; rfl) (fun K hK => ?_)
                rw [if_pos (by rfl)]
                go_simp
                have HE := Lib.hid hHeld
                refine hK.out _ _ ?_
                clear hK K hHeld
                try simp only [Act.put, List.setIfInBounds_toArray, List.set_cons_zero, List.set_cons_succ]
                refine wpAnyW_done (by kernel_rfl) ?_ _
                refine NoPanic.normal ?_
                go_wp2_with fail
                go_meet
                exact ⟨gx, A5, k5, rfl, rfl, rfl, Lib.hid ⟨HX.out, HE.out.1, HR5.out, HF5.out, HE.out.2⟩⟩
            case rest =>
              obtain ⟨g11, A2, k2, rfl, rfl, rfl, HH⟩ := hcut
              obtain ⟨hx, hq6, hr, hf, hb⟩ := HH.out
              have HX := Lib.hid hx
              replace HQ := Lib.hid hq6
              have HR5 := Lib.hid hr
              have HF5 := Lib.hid hf
              replace HB := Lib.hid (HB.out.trans (hb.mono HB.out.size))
              have hgb := hb.size
              clear hx hq6 hr hf hb HH HRS
              go_wp2_with (first
                | ((with_reducible refine gate9 ?_); refine ldB (ty := 27) rfl rfl rfl HX.out Try.underlying27 rfl infoS ?_)
                | ((with_reducible refine gate9 ?_); refine stB (ty := 27) #[.int .u32 (c.toNat : Int), .slice A2 (l.length + 1) k2] rfl rfl rfl rfl HQ.out infoS rfl (cellsS_one _ _ _ _) ?_; intro w9 ht hg; replace HR5 := Lib.hid (RowP.stays HR5.out HF5.out hg (by omega)); have HG9 := Lib.hid ht; replace HB := Lib.hid (below_of_grown1 HB.out hg HB.out.size hwg); have hs9 := hg.size; have e4 := (range_below hrg hbw HB.out) 4 (.int .i64 sz) rfl; clear ht hg)
                | (go_at_call 6; (with_reducible refine (HPZ.out _).mono ?_); rintro e w10 ⟨rfl, rfl⟩))
              go_meet
              exact ⟨l2, c, all2, A2, k2, by rw [HN2.out], rfl, rfl, Lib.hid ⟨HPN.out, by rw [hlen2]; exact HG9.out, by rw [hlen2]; exact HR5.out, HB.out, by omega⟩⟩
          · as_aux_lemma =>
            have hbw := hb
            have hlj := HPI.out.len
            have h64 := HPI.out.ok.len
            have hlo := HPI.out.lo
            have hu0 := pickI_le (c := up) (n := (l.length : Int) + 1) (by omega)
            have HUP := Lib.hid (fun W => pick_any up ((l.length : Int) + 1) hwx.up (by omega) (by omega) W)
            have HFR := Lib.hid (fun n (h0 : 0 < n) (h1 : n ≤ 10000) W => pick_any fr n hwx.fr h0 h1 W)
            have HTO := Lib.hid (fun n (h0 : 0 < n) (h1 : n ≤ 10000) W => pick_any to' n hwx.to h0 h1 W)
            try dsimp only at HUP HFR HTO
            obtain ⟨u, hu⟩ : ∃ u : Nat, pickI up ((l.length : Int) + 1) = (u : Int) := ⟨(pickI up ((l.length : Int) + 1)).toNat, by omega⟩
            rw [hu] at HUP hu0
            clear hu
            have huL : u ≤ l.length := by omega
            have hd : dist c (c + UInt32.ofNat u) = u := dist_add c (by omega)
            have s3 := cum_num c (show u ≤ 100 by omega)
            have HDE := Lib.hid (done_end c u)
            obtain ⟨cx, hcx⟩ : ∃ x, (c + 1).toNat = x := ⟨_, rfl⟩
            have s9 : ((c.toNat : Int) + 1) % 4294967296 = (cx : Int) := by rw [← hcx]; exact next_num1 c
            have HD0 : Hid ((cx : Int) = ((c + 1 + UInt32.ofNat 0).toNat : Int)) := Lib.hid (by rw [show UInt32.ofNat 0 = (0 : UInt32) from rfl, UInt32.add_zero, hcx])
            clear hcx
            have HDS := Lib.hid (done_step c)
            have HNA := Lib.hid (fun (m : List Pc) (h : m.length = l.length - u) => next_ack (c := c) huL h)
            have HUN := Lib.hid (fun V W h => under_any c l (-1) (by omega) HPI.out.ok.ok V W h)
            have HPA := Lib.hid (fun (gs : List (Nat × Nat)) => HPI.out.ack (cum := c + UInt32.ofNat u) gs (j : Int) (by rw [hd]; exact huL))
            have HAK := Lib.hid (fun (gs : List (Nat × Nat)) (hgl : gs.length ≤ 1000) hsm hmay V vg W h hv => ack_yes c (c + UInt32.ofNat u) l gs (j : Int) h64 hgl hsm HPI.out.ok.ok V vg W h hv hmay)
            have HDL : Hid (((l.take u).map (·.ts)).length = u) := Lib.hid (by rw [List.length_map, List.length_take]; omega)
            have HDN : Hid (∀ i, i < u → enc32 ((l.take u).map (·.ts))[i]! = .int .u32 ((c + 1 + UInt32.ofNat i).toNat : Int)) := Lib.hid (fun i hi => by
              rw [getElem!_pos _ i (by rw [List.length_map, List.length_take]; omega), List.getElem_map, List.getElem_take, HPI.out.ok.ts i (by omega)]
              rfl)
            have HM0 : Hid (mayB c l (c + UInt32.ofNat u) [] = true) := Lib.hid (by unfold mayB; rw [hd]; simp [huL])
            have HM1 : Hid (∀ a b, 1 ≤ a → a ≤ b → b ≤ l.length - u → mayB c l (c + UInt32.ofNat u) [(a, b)] = true) := Lib.hid (fun a b h1 h2 h3 => by
              unfold mayB
              rw [hd]
              simp [huL, badG]
              omega)
            rw [hd] at HPA HAK
            generalize c + UInt32.ofNat u = cum at *
            obtain ⟨r, hr⟩ : ∃ r, l.length - u = r := ⟨_, rfl⟩
            have s0 : IntKind.i64.wrap ((l.length : Int) + 1) = (l.length : Int) + 1 := by rw [IntKind.wrap_i64]; omega
            have s2 : IntKind.i64.wrap ((l.length : Int) - (u : Int)) = (r : Int) := by rw [IntKind.wrap_i64]; omega
            have c5 : (u : Int) % 4294967296 = (u : Int) := by omega
            have hlI : (l.length : Int) ≤ 64 := by omega
            have hlI0 : (0 : Int) ≤ (l.length : Int) := by omega
            have HRL := Lib.hid hgs
            clear hd HPK hpk HRG
            go_wp2_with fail
            have HS : (fun V => Bx V g6 27 #[.int .u32 (c.toNat : Int), .slice A l.length k] ∧ Below wr.heap.size wr V) _ := ⟨HQ.out.drew, below_drawn (Below.refl _ _)⟩
            refine wp_region_noPanic ?_
            refine wp_region_waits (S := (fun V => Bx V g6 27 #[.int .u32 (c.toNat : Int), .slice A l.length k] ∧ Below wr.heap.size wr V)) [10] (by kernel_rfl) HS (fun hHeld => ?_)
            clear HS
            refine wpAnyW_take (i := 0) (v := ?_) (by simp only [List.getElem?_toArray, List.getElem?_cons_zero]; rfl) (by kernel_rfl) (by kernel_rfl) (by kernel_rfl) (by kernel_rfl) (by kernel_rfl) (fun _ _ _ h => h) (Or.inl ⟨by rfl, ?_⟩) (by assumption) ?_
            rotate_left 1
            · (intro w' hSw; go_simp; try with_reducible rfl)
            try simp only [Act.put, List.setIfInBounds_toArray, List.set_cons_zero, List.set_cons_succ]
            refine wpAnyW_take (i := 1) (v := ?_) (by simp only [List.getElem?_toArray, List.getElem?_cons_succ, List.getElem?_cons_zero]; rfl) (by kernel_rfl) (by kernel_rfl) (by kernel_rfl) (by kernel_rfl) (by kernel_rfl) (fun _ _ _ h => h) (Or.inl ⟨by rfl, ?_⟩) (by assumption) ?_
            rotate_left 1
            · (intro w' hSw; go_simp; try with_reducible rfl)
            try simp only [Act.put, List.setIfInBounds_toArray, List.set_cons_zero, List.set_cons_succ]
            refine wpAnyW_take (i := 2) (v := ?_) (by simp only [List.getElem?_toArray, List.getElem?_cons_succ, List.getElem?_cons_zero]; rfl) (by kernel_rfl) (by kernel_rfl) (by kernel_rfl) (by kernel_rfl) (by kernel_rfl) (fun _ _ _ h => h) (Or.inl ⟨by rfl, ?_⟩) (by assumption) ?_
            rotate_left 1
            · (intro w' hSw; go_simp; try with_reducible rfl)
            try simp only [Act.put, List.setIfInBounds_toArray, List.set_cons_zero, List.set_cons_succ]
            refine wpAnyW_take (i := 3) (v := ?_) (by simp only [List.getElem?_toArray, List.getElem?_cons_succ, List.getElem?_cons_zero]; rfl) (by kernel_rfl) (by kernel_rfl) (by kernel_rfl) (by kernel_rfl) (by kernel_rfl) (fun _ _ _ h => h) (Or.inl ⟨by rfl, ?_⟩) (by assumption) ?_
            rotate_left 1
            · (intro w' hSw; go_simp; try with_reducible rfl)
            try simp only [Act.put, List.setIfInBounds_toArray, List.set_cons_zero, List.set_cons_succ]
            refine wpAnyW_take (i := 4) (v := ?_) (by simp only [List.getElem?_toArray, List.getElem?_cons_succ, List.getElem?_cons_zero]; rfl) (by kernel_rfl) (by kernel_rfl) (by kernel_rfl) (by kernel_rfl) (by kernel_rfl) (fun _ _ _ h => h) (Or.inl ⟨by rfl, ?_⟩) (by assumption) ?_
            rotate_left 1
            · (intro w' hSw; have hq := (range_below hrg hbw (HB.out.trans (hSw.2.mono HB.out.size))) 1 (.int .i64 up) rfl; go_simp; try with_reducible rfl)
            try simp only [Act.put, List.setIfInBounds_toArray, List.set_cons_zero, List.set_cons_succ]
            refine wpAnyW_take (i := 5) (v := ?_) (by simp only [List.getElem?_toArray, List.getElem?_cons_succ, List.getElem?_cons_zero]; rfl) (by kernel_rfl) (by kernel_rfl) (by kernel_rfl) (by kernel_rfl) (by kernel_rfl) (fun _ _ _ h => h) (Or.inl ⟨by rfl, ?_⟩) (by assumption) ?_
            rotate_left 1
            · (intro w' hSw; go_simp; try with_reducible rfl)
            try simp only [Act.put, List.setIfInBounds_toArray, List.set_cons_zero, List.set_cons_succ]
            refine wpAnyW_take (i := 6) (v := ?_) (by simp only [List.getElem?_toArray, List.getElem?_cons_succ, List.getElem?_cons_zero]; rfl) (by kernel_rfl) (by kernel_rfl) (by kernel_rfl) (by kernel_rfl) (by kernel_rfl) (fun _ _ _ h => h) (Or.inl ⟨by rfl, ?_⟩) (by assumption) ?_
            rotate_left 1
            · (intro w' hSw; have hq := hSw.1.cell 1 (.slice A l.length k) rfl; go_simp; try with_reducible rfl)
            try simp only [Act.put, List.setIfInBounds_toArray, List.set_cons_zero, List.set_cons_succ]
            refine wpAnyW_take (i := 7) (v := ?_) (by simp only [List.getElem?_toArray, List.getElem?_cons_succ, List.getElem?_cons_zero]; rfl) (by kernel_rfl) (by kernel_rfl) (by kernel_rfl) (by kernel_rfl) (by kernel_rfl) (fun _ _ _ h => h) (Or.inl ⟨by rfl, ?_⟩) (by assumption) ?_
            rotate_left 1
            · (intro w' hSw; go_simp; try with_reducible rfl)
            try simp only [Act.put, List.setIfInBounds_toArray, List.set_cons_zero, List.set_cons_succ]
            refine wpAnyW_take (i := 8) (v := ?_) (by simp only [List.getElem?_toArray, List.getElem?_cons_succ, List.getElem?_cons_zero]; rfl) (by kernel_rfl) (by kernel_rfl) (by kernel_rfl) (by kernel_rfl) (by kernel_rfl) (fun _ _ _ h => h) (Or.inl ⟨by rfl, ?_⟩) (by assumption) ?_
            rotate_left 1
            · (intro w' hSw; go_simp; try with_reducible rfl)
            try simp only [Act.put, List.setIfInBounds_toArray, List.set_cons_zero, List.set_cons_succ]
            refine wpAnyW_held (i := 9) (by kernel_rfl) (by simp only [List.getElem?_toArray, List.getElem?_cons_succ, List.getElem?_cons_zero]; rfl) (fun K hK => ?_)
            rw [if_pos (by rfl)]
            go_simp
            refine (HUP.out _).mono ?_
            rintro _ wq ⟨rfl, rfl⟩
            have HS := hHeld
            clear hHeld
            go_wp2_with fail
            refine hK.out _ _ HS (fun hHeld => ?_)
            clear hK K HS
            try simp only [Act.put, List.setIfInBounds_toArray, List.set_cons_zero, List.set_cons_succ]
            refine wpAnyW_freed (i := 10) (by kernel_rfl) (by kernel_rfl) (by simp only [List.getElem?_toArray, List.getElem?_cons_succ, List.getElem?_cons_zero]; rfl) (fun K hK => ?_)
            rw [if_pos (by rfl)]
            go_simp
            have HE := Lib.hid hHeld
            refine hK.out _ _ ?_
            clear hK K hHeld
            try simp only [Act.put, List.setIfInBounds_toArray, List.set_cons_zero, List.set_cons_succ]
            refine wpAnyW_done (by kernel_rfl) ?_ _
            refine NoPanic.normal ?_
            obtain ⟨wd, hwd⟩ : ∃ W, wr.drew = W := ⟨_, rfl⟩
            rw [hwd] at HE ⊢
            replace HQ := Lib.hid HE.out.1
            replace HRS := Lib.hid (HRS.out.below HE.out.2)
            replace HB := Lib.hid (HB.out.trans (HE.out.2.mono HB.out.size))
            replace HRL := Lib.hid HQ.out.lt
            clear hwd HE hgs
            have e2 := (range_below hrg hbw HB.out) 2 (.int .i64 fr) rfl
            have e3 := (range_below hrg hbw HB.out) 3 (.int .i64 to') rfl
            have e6 := HQ.out.cell 1 (.slice A l.length k) rfl
            by_cases hr0 : 0 < r
            · have qr : (0 : Int) < (r : Int) := by omega
              have hx1 := pickI_le (c := fr) (n := (r : Int)) qr
              have HFQ := Lib.hid (fun W => HFR.out (r : Int) qr (by omega) W)
              generalize pickI fr (r : Int) = x1 at *
              obtain ⟨a, ha⟩ : ∃ a : Nat, 1 + x1 = (a : Int) := ⟨(1 + x1).toNat, by omega⟩
              obtain ⟨m1, hm1⟩ : ∃ m, (r : Int) - (a : Int) = m := ⟨_, rfl⟩
              obtain ⟨m2, hm2⟩ : ∃ m, m1 + 1 = m := ⟨_, rfl⟩
              have hx2 := pickI_le (c := to') (n := m2) (by omega)
              have HTQ := Lib.hid (fun W => HTO.out m2 (by omega) (by omega) W)
              generalize pickI to' m2 = x2 at *
              obtain ⟨b2, hb2⟩ : ∃ b : Nat, (a : Int) + x2 = (b : Int) := ⟨((a : Int) + x2).toNat, by omega⟩
              have sA : IntKind.i64.wrap (1 + x1) = (a : Int) := by rw [IntKind.wrap_i64]; omega
              have sM : IntKind.i64.wrap ((r : Int) - (a : Int)) = m1 := by rw [IntKind.wrap_i64]; omega
              have sM2 : IntKind.i64.wrap (m1 + 1) = m2 := by rw [IntKind.wrap_i64]; omega
              have sB : IntKind.i64.wrap ((a : Int) + x2) = (b2 : Int) := by rw [IntKind.wrap_i64]; omega
              have cA : (a : Int) % 65536 = (a : Int) := by omega
              have cB : (b2 : Int) % 65536 = (b2 : Int) := by omega
              have HM2 := Lib.hid (HM1.out a b2 (by omega) (by omega) (by omega))
              have HSM : Hid (SmallG [(a, b2)]) := Lib.hid (fun g hg => by rw [List.mem_singleton.1 hg]; exact ⟨by show a < 65536; omega, by show b2 < 65536; omega⟩)
              clear ha hm1 hm2 hx1 hx2 hb2 hr HM1 HM0 HFR HTO
              obtain ⟨W6, hW6, HG6, HB6, hs6⟩ := one_open wd 37 #[.int .u16 a, .int .u16 b2]
              obtain ⟨gp6, hg6⟩ : ∃ g, wd.heap.size = g := ⟨_, rfl⟩
              rw [hg6] at HG6 hs6
              have HGP : Hid (RowGp W6 (.slice (some ⟨gp6, 0, none⟩) 1 1) [(a, b2)]) := Lib.hid ⟨_, 1, rfl, Nat.le_refl _, by decide, fun _ => ⟨gp6, 0, rfl, HG6.out.lt, fun j hj => by
                have : j = 0 := by have : j < 1 := hj; omega
                subst this
                intro i u hu
                rw [HG6.out.at]
                have hi : i < 2 := by have := (List.getElem?_eq_some_iff.1 hu).1; rw [lenGp] at this; exact this
                rcases (by omega : i = 0 ∨ i = 1) with rfl | rfl <;> simpa [cellsGp] using hu⟩⟩
              have hb := HB6.out
              replace HQ := Lib.hid (HQ.out.later hb)
              replace HRS := Lib.hid (HRS.out.below hb)
              have HB2 := Lib.hid (HB.out.trans (hb.mono HB.out.size))
              clear hb HB6 HG6
              go_wp2_with (first
                | (go_at_call 6; (with_reducible refine (HFQ.out _).mono ?_); rintro e wd ⟨rfl, rfl⟩)
                | (go_at_call 6; (with_reducible refine (HTQ.out _).mono ?_); rintro e wd ⟨rfl, rfl⟩)
                | ((with_reducible refine gate9 ?_); refine ldB (ty := 27) rfl rfl rfl HQ.out Try.underlying27 rfl infoS ?_))
              replace HB := HB2
              clear e2 e3 e6 HB2 hW6 hs6 HFQ HTQ
              obtain ⟨hpn, hln, hby, hdn, hout, hmo⟩ := HPA.out [(a, b2)]
              have HPN := Lib.hid hpn
              have HACK := Lib.hid (fun V W h hv => HAK.out [(a, b2)] (by simp) HSM.out HM2.out V (.slice (some ⟨gp6, 0, none⟩) 1 1) W h hv)
              generalize (ackF (j : Int) l [(a, b2)] u).length = nf at *
              generalize ackL2 (j : Int) l [(a, b2)] u = t at *
              generalize ackM (j : Int) l [(a, b2)] u = M at *
              obtain ⟨b9, hb9⟩ : ∃ b, M.r.by' = b := ⟨_, rfl⟩
              obtain ⟨o9, ho9⟩ : ∃ b, M.r.out = b := ⟨_, rfl⟩
              obtain ⟨m9, hm9⟩ : ∃ b, M.r.mo = b := ⟨_, rfl⟩
              rw [hb9] at hby HACK
              rw [ho9] at hout HACK
              rw [hm9] at hmo HACK
              rw [← hout] at HUN
              generalize M.r.fr = f9 at *
              generalize M.r.tk.length = n9 at *
              rw [hdn] at HACK
              rw [← hln] at HACK
              have HNX := Lib.hid (HNA.out t hln)
              have q9 : ¬ all < b9 := by omega
              have qm : decide ((0 : Int) < (u : Int)) = m9 := by rw [hmo]; congr 1; exact propext (by omega)
              have qm2 : decide (0 < u) = m9 := hmo.symm
              have huI : (u : Int) ≤ 64 := by omega
              have hu0 : (0 : Int) ≤ (u : Int) := by omega
              clear hpn hdn hb9 ho9 hm9 hmo hout hby hln
              go_wp2_with (first
                | ((with_reducible refine gate9 ?_); refine ldB (ty := 27) rfl rfl rfl HQ.out Try.underlying27 rfl infoS ?_)
                | (go_at_call 8; (with_reducible refine (HUN.out _ _ HRS.out).mono ?_); rintro e w7 ⟨rfl, hb⟩; replace HQ := Lib.hid (HQ.out.later hb); replace HRS := Lib.hid (HRS.out.below hb); replace HB := Lib.hid (HB.out.trans (hb.mono HB.out.size)); replace HGP := Lib.hid (HGP.out.below hb); have c0 := HQ.out.cell 0 (.int .u32 (c.toNat : Int)) rfl; clear hb)
                | (go_at_call 9; go_loud ((with_reducible refine (HACK.out _ _ HRS.out HGP.out).mono ?_); rintro e w8 ⟨A5, k5, A6, k6, A7, k7, A8, k8, rfl, hr, hf, hd9, hf2, hb⟩; have HR5 := Lib.hid hr; have HF5 := Lib.hid (hf.less (show g6 + 1 ≤ w7.heap.size by have := HQ.out.lt; omega)); obtain ⟨Ad, kd, ed, hd1, hd2, hdc⟩ := hd9; rw [HDL.out] at ed hd1 hdc; have eA := (Value.slice.inj ed).1; have ek := (Value.slice.inj ed).2.2; subst eA ek; have HDC := Lib.hid hdc; replace HQ := Lib.hid (HQ.out.later hb); replace HRS := Lib.hid (HRS.out.below hb); replace HB := Lib.hid (HB.out.trans (hb.mono HB.out.size)); clear c0 hr hf hf2 hb ed hdc; obtain ⟨W9, hW9, HT, HR, HB9, hs9⟩ := two_open w8 27 42 #[.int .u32 0, .slice none 0 0] #[.int .i64 0, .int .i64 0, .bool false, .bool false, .slice none 0 0, .slice none 0 0, .slice none 0 0]; obtain ⟨g20, hg20⟩ : ∃ g, w8.heap.size = g := ⟨_, rfl⟩; rw [hg20] at HT HR hs9))
                | ((with_reducible refine gate9 ?_); refine stB (ty := 27) #[.int .u32 (cum.toNat : Int), .slice A5 t.length k5] rfl rfl rfl rfl HT.out infoS rfl (cellsS_one _ _ _ _) ?_; go_loud (intro w10 ht hg; replace HB9 := Lib.hid (below_of_grown1 HB9.out hg HB9.out.size (by omega)); replace HR := Lib.hid (HR.out.kept hg (by omega)); replace HT := Lib.hid ht; clear ht hg))
                | ((with_reducible refine gate9 ?_); refine stB (ty := 42) #[.int .i64 b9, .int .i64 o9, .bool m9, .bool f9, .slice A6 u k6, .slice A7 nf k7, .slice A8 n9 k8] rfl rfl rfl rfl HR.out infoR rfl (cellsR_one _ _ _ _ _ _ _ _ _ _ _ _ _) ?_; go_loud (intro w11 ht hg; replace HB9 := Lib.hid (below_of_grown1 HB9.out hg HB9.out.size (by omega)); replace HT := Lib.hid (HT.out.kept hg (by omega)); replace HR := Lib.hid ht; clear ht hg; have hb := HB9.out; replace HQ := Lib.hid (HQ.out.later hb); replace HRS := Lib.hid (HRS.out.below hb); replace HB := Lib.hid (HB.out.trans (hb.mono HB.out.size)); replace HR5 := Lib.hid (RowP.below HR5.out hb); have HDB := Lib.hid hb; clear hb; have r0 := HR.out.cell 0 (.int .i64 b9) rfl; have r1 := HR.out.cell 1 (.int .i64 o9) rfl; have r2 := HR.out.cell 2 (.bool m9) rfl; have r4 := HR.out.cell 4 (.slice A6 u k6) rfl)))
              clear r0 r1 r2 hW9 hs9 HUN HACK
              go_loopw [8, 23] (fun v8 i wx => ∃ q : Nat, q ≤ u ∧ v8 = .int .u32 ((c + 1 + UInt32.ofNat q).toNat : Int) ∧ i = .int .i64 q ∧ Hid (Below w11.heap.size w11 wx))
                (fun _ i _ => u - (intOf i).toNat)
              case atStart => exact ⟨0, Nat.zero_le _, by rw [HD0.out], rfl, Lib.hid (Below.refl _ _)⟩
              case round =>
                obtain ⟨q, hq, rfl, rfl, HW⟩ := hrel
                have r4 := (HR.out.later HW.out).cell 4 (.slice A6 u k6) rfl
                by_cases hlt : q < u
                · obtain ⟨bd, od, rfl, hbd, hcd⟩ := HDC.out (by omega)
                  have hcd2 := hcd q hlt
                  rw [HDN.out q hlt] at hcd2
                  have e1 := (HDB.out.trans (HW.out.mono HDB.out.size)).cell (p := ⟨bd, od + q, none⟩) hbd |>.trans hcd2
                  have s8 := HDS.out q
                  generalize (c + 1 + UInt32.ofNat q).toNat = dq at *
                  clear hcd hcd2
                  have q0 : (0 : Int) ≤ (q : Int) := by omega
                  have q1 : (q : Int) < (u : Int) := by omega
                  go_wp2_with fail
                  go_roundw
                  case rel => exact ⟨q + 1, by omega, by rw [s8], by go_num, HW⟩
                  case measure => simp [intOf]; omega
                · obtain rfl : q = u := by omega
                  have hb := HW.out
                  replace HQ := Lib.hid (HQ.out.later hb); replace HRS := Lib.hid (HRS.out.below hb); replace HB := Lib.hid (HB.out.trans (hb.mono HB.out.size)); 
                  replace HR5 := Lib.hid (RowP.below HR5.out hb)
                  replace HT := Lib.hid (HT.out.later hb)
                  have hgs9 := hb.size
                  clear hb HW
                  go_wp2_with (first
                    | ((with_reducible refine gate9 ?_); refine ldB (ty := 27) (cs := #[.int .u32 (cum.toNat : Int), .slice A5 t.length k5]) rfl rfl rfl HT.out Try.underlying27 rfl infoS ?_)
                    | ((with_reducible refine gate9 ?_); refine stB (ty := 27) #[.int .u32 (cum.toNat : Int), .slice A5 t.length k5] rfl rfl rfl rfl HQ.out infoS rfl (cellsS_one _ _ _ _) ?_; intro w9 ht hg; replace HR5 := Lib.hid (RowP.stays HR5.out HF5.out hg (by omega)); have HG9 := Lib.hid ht; replace HB := Lib.hid (below_of_grown1 HB.out hg HB.out.size hwg); have hs9 := hg.size; clear ht hg))
                  go_meet
                  exact ⟨t, cum, all, A5, k5, by rw [HNX.out], by rw [HDE.out], rfl, Lib.hid ⟨HPN.out, HG9.out, HR5.out, HB.out, by have := HQ.out.lt; omega⟩⟩
            · have qr : ¬ (0 : Int) < (r : Int) := by omega
              have HGP : Hid (RowGp wd (.slice none 0 0) []) := Lib.hid (RowGp.nil _)
              clear HM1 HFR HTO e2 e3 hr
              go_wp2_with ((with_reducible refine gate9 ?_); refine ldB (ty := 27) rfl rfl rfl HQ.out Try.underlying27 rfl infoS ?_)
              clear e6
              obtain ⟨hpn, hln, hby, hdn, hout, hmo⟩ := HPA.out ([] : List (Nat × Nat))
              have HPN := Lib.hid hpn
              have HACK := Lib.hid (fun V W h hv => HAK.out ([] : List (Nat × Nat)) (by simp) (fun g hg => by cases hg) HM0.out V (.slice none 0 0) W h hv)
              generalize (ackF (j : Int) l ([] : List (Nat × Nat)) u).length = nf at *
              generalize ackL2 (j : Int) l ([] : List (Nat × Nat)) u = t at *
              generalize ackM (j : Int) l ([] : List (Nat × Nat)) u = M at *
              obtain ⟨b9, hb9⟩ : ∃ b, M.r.by' = b := ⟨_, rfl⟩
              obtain ⟨o9, ho9⟩ : ∃ b, M.r.out = b := ⟨_, rfl⟩
              obtain ⟨m9, hm9⟩ : ∃ b, M.r.mo = b := ⟨_, rfl⟩
              rw [hb9] at hby HACK
              rw [ho9] at hout HACK
              rw [hm9] at hmo HACK
              rw [← hout] at HUN
              generalize M.r.fr = f9 at *
              generalize M.r.tk.length = n9 at *
              rw [hdn] at HACK
              rw [← hln] at HACK
              have HNX := Lib.hid (HNA.out t hln)
              have q9 : ¬ all < b9 := by omega
              have qm : decide ((0 : Int) < (u : Int)) = m9 := by rw [hmo]; congr 1; exact propext (by omega)
              have qm2 : decide (0 < u) = m9 := hmo.symm
              have huI : (u : Int) ≤ 64 := by omega
              have hu0 : (0 : Int) ≤ (u : Int) := by omega
              clear hpn hdn hb9 ho9 hm9 hmo hout hby hln
              go_wp2_with (first
                | ((with_reducible refine gate9 ?_); refine ldB (ty := 27) rfl rfl rfl HQ.out Try.underlying27 rfl infoS ?_)
                | (go_at_call 8; (with_reducible refine (HUN.out _ _ HRS.out).mono ?_); rintro e w7 ⟨rfl, hb⟩; replace HQ := Lib.hid (HQ.out.later hb); replace HRS := Lib.hid (HRS.out.below hb); replace HB := Lib.hid (HB.out.trans (hb.mono HB.out.size)); replace HGP := Lib.hid (HGP.out.below hb); have c0 := HQ.out.cell 0 (.int .u32 (c.toNat : Int)) rfl; clear hb)
                | (go_at_call 9; go_loud ((with_reducible refine (HACK.out _ _ HRS.out HGP.out).mono ?_); rintro e w8 ⟨A5, k5, A6, k6, A7, k7, A8, k8, rfl, hr, hf, hd9, hf2, hb⟩; have HR5 := Lib.hid hr; have HF5 := Lib.hid (hf.less (show g6 + 1 ≤ w7.heap.size by have := HQ.out.lt; omega)); obtain ⟨Ad, kd, ed, hd1, hd2, hdc⟩ := hd9; rw [HDL.out] at ed hd1 hdc; have eA := (Value.slice.inj ed).1; have ek := (Value.slice.inj ed).2.2; subst eA ek; have HDC := Lib.hid hdc; replace HQ := Lib.hid (HQ.out.later hb); replace HRS := Lib.hid (HRS.out.below hb); replace HB := Lib.hid (HB.out.trans (hb.mono HB.out.size)); clear c0 hr hf hf2 hb ed hdc; obtain ⟨W9, hW9, HT, HR, HB9, hs9⟩ := two_open w8 27 42 #[.int .u32 0, .slice none 0 0] #[.int .i64 0, .int .i64 0, .bool false, .bool false, .slice none 0 0, .slice none 0 0, .slice none 0 0]; obtain ⟨g20, hg20⟩ : ∃ g, w8.heap.size = g := ⟨_, rfl⟩; rw [hg20] at HT HR hs9))
                | ((with_reducible refine gate9 ?_); refine stB (ty := 27) #[.int .u32 (cum.toNat : Int), .slice A5 t.length k5] rfl rfl rfl rfl HT.out infoS rfl (cellsS_one _ _ _ _) ?_; go_loud (intro w10 ht hg; replace HB9 := Lib.hid (below_of_grown1 HB9.out hg HB9.out.size (by omega)); replace HR := Lib.hid (HR.out.kept hg (by omega)); replace HT := Lib.hid ht; clear ht hg))
                | ((with_reducible refine gate9 ?_); refine stB (ty := 42) #[.int .i64 b9, .int .i64 o9, .bool m9, .bool f9, .slice A6 u k6, .slice A7 nf k7, .slice A8 n9 k8] rfl rfl rfl rfl HR.out infoR rfl (cellsR_one _ _ _ _ _ _ _ _ _ _ _ _ _) ?_; go_loud (intro w11 ht hg; replace HB9 := Lib.hid (below_of_grown1 HB9.out hg HB9.out.size (by omega)); replace HT := Lib.hid (HT.out.kept hg (by omega)); replace HR := Lib.hid ht; clear ht hg; have hb := HB9.out; replace HQ := Lib.hid (HQ.out.later hb); replace HRS := Lib.hid (HRS.out.below hb); replace HB := Lib.hid (HB.out.trans (hb.mono HB.out.size)); replace HR5 := Lib.hid (RowP.below HR5.out hb); have HDB := Lib.hid hb; clear hb; have r0 := HR.out.cell 0 (.int .i64 b9) rfl; have r1 := HR.out.cell 1 (.int .i64 o9) rfl; have r2 := HR.out.cell 2 (.bool m9) rfl; have r4 := HR.out.cell 4 (.slice A6 u k6) rfl)))
              clear r0 r1 r2 hW9 hs9 HUN HACK
              go_loopw [8, 23] (fun v8 i wx => ∃ q : Nat, q ≤ u ∧ v8 = .int .u32 ((c + 1 + UInt32.ofNat q).toNat : Int) ∧ i = .int .i64 q ∧ Hid (Below w11.heap.size w11 wx))
                (fun _ i _ => u - (intOf i).toNat)
              case atStart => exact ⟨0, Nat.zero_le _, by rw [HD0.out], rfl, Lib.hid (Below.refl _ _)⟩
              case round =>
                obtain ⟨q, hq, rfl, rfl, HW⟩ := hrel
                have r4 := (HR.out.later HW.out).cell 4 (.slice A6 u k6) rfl
                by_cases hlt : q < u
                · obtain ⟨bd, od, rfl, hbd, hcd⟩ := HDC.out (by omega)
                  have hcd2 := hcd q hlt
                  rw [HDN.out q hlt] at hcd2
                  have e1 := (HDB.out.trans (HW.out.mono HDB.out.size)).cell (p := ⟨bd, od + q, none⟩) hbd |>.trans hcd2
                  have s8 := HDS.out q
                  generalize (c + 1 + UInt32.ofNat q).toNat = dq at *
                  clear hcd hcd2
                  have q0 : (0 : Int) ≤ (q : Int) := by omega
                  have q1 : (q : Int) < (u : Int) := by omega
                  go_wp2_with fail
                  go_roundw
                  case rel => exact ⟨q + 1, by omega, by rw [s8], by go_num, HW⟩
                  case measure => simp [intOf]; omega
                · obtain rfl : q = u := by omega
                  have hb := HW.out
                  replace HQ := Lib.hid (HQ.out.later hb); replace HRS := Lib.hid (HRS.out.below hb); replace HB := Lib.hid (HB.out.trans (hb.mono HB.out.size)); 
                  replace HR5 := Lib.hid (RowP.below HR5.out hb)
                  replace HT := Lib.hid (HT.out.later hb)
                  have hgs9 := hb.size
                  clear hb HW
                  go_wp2_with (first
                    | ((with_reducible refine gate9 ?_); refine ldB (ty := 27) (cs := #[.int .u32 (cum.toNat : Int), .slice A5 t.length k5]) rfl rfl rfl HT.out Try.underlying27 rfl infoS ?_)
                    | ((with_reducible refine gate9 ?_); refine stB (ty := 27) #[.int .u32 (cum.toNat : Int), .slice A5 t.length k5] rfl rfl rfl rfl HQ.out infoS rfl (cellsS_one _ _ _ _) ?_; intro w9 ht hg; replace HR5 := Lib.hid (RowP.stays HR5.out HF5.out hg (by omega)); have HG9 := Lib.hid ht; replace HB := Lib.hid (below_of_grown1 HB.out hg HB.out.size hwg); have hs9 := hg.size; clear ht hg))
                  go_meet
                  exact ⟨t, cum, all, A5, k5, by rw [HNX.out], by rw [HDE.out], rfl, Lib.hid ⟨HPN.out, HG9.out, HR5.out, HB.out, by have := HQ.out.lt; omega⟩⟩
          · as_aux_lemma =>
            have hbw := hb
            have hlj := HPI.out.len
            have HPP := Lib.hid (fun W => pick_any pa 3 hwx.pa (by omega) (by omega) W)
            have hpp := pickI_le (c := pa) (n := 3) (by omega)
            try dsimp only at HPP
            generalize pickI pa 3 = q at *
            obtain ⟨pv, hpv⟩ : ∃ x, q - 1 = x := ⟨_, rfl⟩
            have s1 : IntKind.i64.wrap (q - 1) = pv := by rw [IntKind.wrap_i64]; omega
            have HDR := Lib.hid (fun V W h => drop_any c l pv (by omega) V W h)
            have hlen2 : (dropL pv l).length = l.length := by unfold dropL; rw [List.length_map]
            clear hpv hpp hlj HPK hpk HRG
            go_wp2_with fail
            have HS : (fun V => Bx V g6 27 #[.int .u32 (c.toNat : Int), .slice A l.length k] ∧ Below wr.heap.size wr V) _ := ⟨HQ.out.drew, below_drawn (Below.refl _ _)⟩
            refine wp_region_noPanic ?_
            refine wp_region_waits (S := (fun V => Bx V g6 27 #[.int .u32 (c.toNat : Int), .slice A l.length k] ∧ Below wr.heap.size wr V)) [12] (by kernel_rfl) HS (fun hHeld => ?_)
            clear HS
            refine wpAnyW_take (i := 0) (v := _) (by simp only [List.getElem?_toArray, List.getElem?_cons_zero]; rfl) (by kernel_rfl) (by kernel_rfl) (by kernel_rfl) (by kernel_rfl) (by kernel_rfl) (fun _ _ _ h => h) (yB (ty := 27) (by rfl) rfl rfl (fun V h => h.1) Try.underlying27 rfl infoS) (by assumption) ?_
            try simp only [Act.put, List.setIfInBounds_toArray, List.set_cons_zero, List.set_cons_succ]
            refine wpAnyW_take (i := 1) (v := ?_) (by simp only [List.getElem?_toArray, List.getElem?_cons_succ, List.getElem?_cons_zero]; rfl) (by kernel_rfl) (by kernel_rfl) (by kernel_rfl) (by kernel_rfl) (by kernel_rfl) (fun _ _ _ h => h) (Or.inl ⟨by rfl, ?_⟩) (by assumption) ?_
            rotate_left 1
            · (intro w' hSw; go_simp; try with_reducible rfl)
            try simp only [Act.put, List.setIfInBounds_toArray, List.set_cons_zero, List.set_cons_succ]
            refine wpAnyW_take (i := 2) (v := ?_) (by simp only [List.getElem?_toArray, List.getElem?_cons_succ, List.getElem?_cons_zero]; rfl) (by kernel_rfl) (by kernel_rfl) (by kernel_rfl) (by kernel_rfl) (by kernel_rfl) (fun _ _ _ h => h) (Or.inl ⟨by rfl, ?_⟩) (by assumption) ?_
            rotate_left 1
            · (intro w' hSw; go_simp; try with_reducible rfl)
            try simp only [Act.put, List.setIfInBounds_toArray, List.set_cons_zero, List.set_cons_succ]
            refine wpAnyW_take (i := 3) (v := ?_) (by simp only [List.getElem?_toArray, List.getElem?_cons_succ, List.getElem?_cons_zero]; rfl) (by kernel_rfl) (by kernel_rfl) (by kernel_rfl) (by kernel_rfl) (by kernel_rfl) (fun _ _ _ h => h) (Or.inl ⟨by rfl, ?_⟩) (by assumption) ?_
            rotate_left 1
            · (intro w' hSw; go_simp; try with_reducible rfl)
            try simp only [Act.put, List.setIfInBounds_toArray, List.set_cons_zero, List.set_cons_succ]
            refine wpAnyW_take (i := 4) (v := ?_) (by simp only [List.getElem?_toArray, List.getElem?_cons_succ, List.getElem?_cons_zero]; rfl) (by kernel_rfl) (by kernel_rfl) (by kernel_rfl) (by kernel_rfl) (by kernel_rfl) (fun _ _ _ h => h) (Or.inl ⟨by rfl, ?_⟩) (by assumption) ?_
            rotate_left 1
            · (intro w' hSw; go_simp; try with_reducible rfl)
            try simp only [Act.put, List.setIfInBounds_toArray, List.set_cons_zero, List.set_cons_succ]
            refine wpAnyW_take (i := 5) (v := ?_) (by simp only [List.getElem?_toArray, List.getElem?_cons_succ, List.getElem?_cons_zero]; rfl) (by kernel_rfl) (by kernel_rfl) (by kernel_rfl) (by kernel_rfl) (by kernel_rfl) (fun _ _ _ h => h) (Or.inl ⟨by rfl, ?_⟩) (by assumption) ?_
            rotate_left 1
            · (intro w' hSw; have hq := (range_below hrg hbw (HB.out.trans (hSw.2.mono HB.out.size))) 5 (.int .i64 pa) rfl; go_simp; try with_reducible rfl)
            try simp only [Act.put, List.setIfInBounds_toArray, List.set_cons_zero, List.set_cons_succ]
            refine wpAnyW_held (i := 6) (by kernel_rfl) (by simp only [List.getElem?_toArray, List.getElem?_cons_succ, List.getElem?_cons_zero]; rfl) (fun K hK => ?_)
            rw [if_pos (by rfl)]
            go_simp
            refine (HPP.out _).mono ?_
            rintro _ wq ⟨rfl, rfl⟩
            have HS := hHeld
            clear hHeld
            go_wp2_with fail
            refine hK.out _ _ HS (fun hHeld => ?_)
            clear hK K HS
            try simp only [Act.put, List.setIfInBounds_toArray, List.set_cons_zero, List.set_cons_succ]
            refine wpAnyW_take (i := 7) (v := ?_) (by simp only [List.getElem?_toArray, List.getElem?_cons_succ, List.getElem?_cons_zero]; rfl) (by kernel_rfl) (by kernel_rfl) (by kernel_rfl) (by kernel_rfl) (by kernel_rfl) (fun _ _ _ h => h) (Or.inl ⟨by rfl, ?_⟩) (by assumption) ?_
            rotate_left 1
            · (intro w' hSw; go_simp; try with_reducible rfl)
            try simp only [Act.put, List.setIfInBounds_toArray, List.set_cons_zero, List.set_cons_succ]
            refine wpAnyW_held (i := 8) (by kernel_rfl) (by simp only [List.getElem?_toArray, List.getElem?_cons_succ, List.getElem?_cons_zero]; rfl) (fun K hK => ?_)
            rw [if_pos (by rfl)]
            go_simp
            refine (HDR.out _ _ (HRS.out.below hHeld.2)).mono ?_
            rintro _ u5 ⟨A5, k5, A6, k6, rfl, hr, hf, hre, hf2, hb⟩
            have HS : (fun V => Bx V g6 27 #[.int .u32 (c.toNat : Int), .slice A l.length k] ∧ Below wr.heap.size wr V) _ := ⟨hHeld.1.later hb, hHeld.2.trans (hb.mono hHeld.2.size)⟩
            have HR5 := Lib.hid hr
            have HF5 := Lib.hid (hf.less (show g6 + 1 ≤ _ by have := hHeld.2.size; omega))
            clear hr hf hre hf2
            clear hHeld hb
            go_wp2_with fail
            refine hK.out _ _ HS (fun hHeld => ?_)
            clear hK K HS
            try simp only [Act.put, List.setIfInBounds_toArray, List.set_cons_zero, List.set_cons_succ]
            refine wpAnyW_take (i := 9) (v := ?_) (by simp only [List.getElem?_toArray, List.getElem?_cons_succ, List.getElem?_cons_zero]; rfl) (by kernel_rfl) (by kernel_rfl) (by kernel_rfl) (by kernel_rfl) (by kernel_rfl) (fun _ _ _ h => h) (Or.inl ⟨by rfl, ?_⟩) (by assumption) ?_
            rotate_left 1
            · (intro w' hSw; go_simp; try with_reducible rfl)
            try simp only [Act.put, List.setIfInBounds_toArray, List.set_cons_zero, List.set_cons_succ]
            refine wpAnyW_take (i := 10) (v := ?_) (by simp only [List.getElem?_toArray, List.getElem?_cons_succ, List.getElem?_cons_zero]; rfl) (by kernel_rfl) (by kernel_rfl) (by kernel_rfl) (by kernel_rfl) (by kernel_rfl) (fun _ _ _ h => h) (Or.inl ⟨by rfl, ?_⟩) (by assumption) ?_
            rotate_left 1
            · (intro w' hSw; go_simp; try with_reducible rfl)
            try simp only [Act.put, List.setIfInBounds_toArray, List.set_cons_zero, List.set_cons_succ]
            refine wpAnyW_takeY (i := 11) (v := ?_) (by simp only [List.getElem?_toArray, List.getElem?_cons_succ, List.getElem?_cons_zero]; rfl) (by kernel_rfl) (by kernel_rfl) (by kernel_rfl) (by kernel_rfl) (fun _ _ _ h => h) (Or.inl ⟨by rfl, ?_⟩) (fun _ => by assumption) ?_
            rotate_left 1
            · (intro w' hSw; go_simp; try with_reducible rfl)
            try simp only [Act.put, List.setIfInBounds_toArray, List.set_cons_zero, List.set_cons_succ]
            refine wpAnyW_freed (i := 12) (by kernel_rfl) (by kernel_rfl) (by simp only [List.getElem?_toArray, List.getElem?_cons_succ, List.getElem?_cons_zero]; rfl) (fun K hK => ?_)
            rw [if_pos (by rfl)]
            refine wpB (ty := 27) #[.int .u32 (c.toNat : Int), .slice A5 l.length k5] rfl rfl rfl hHeld.1 infoS rfl (cellsS_one _ _ _ _) ?_
            intro y1 ht hg
            have HG9 := Lib.hid ht
            replace HR5 := Lib.hid (RowP.stays HR5.out HF5.out hg (by omega))
            have HE := Lib.hid (below_of_grown1 (HB.out.trans (hHeld.2.mono HB.out.size)) hg (HB.out.trans (hHeld.2.mono HB.out.size)).size hwg)
            have hs9 := hg.size
            have hs8 := hHeld.2.size
            clear ht hg
            refine hK.out _ _ ?_
            clear hK K hHeld
            try simp only [Act.put, List.setIfInBounds_toArray, List.set_cons_zero, List.set_cons_succ]
            refine wpAnyW_done (by kernel_rfl) ?_ _
            refine NoPanic.normal ?_
            go_wp2_with fail
            go_meet
            exact ⟨dropL pv l, c, all, A5, k5, by rw [next_len hlen2], rfl, rfl, Lib.hid ⟨HPI.out.drop pv, by rw [hlen2]; exact HG9.out, by rw [hlen2]; exact HR5.out, HE.out, by omega⟩⟩
          · as_aux_lemma =>
            have hbw := hb
            have hlj := HPI.out.len
            have HLO := Lib.hid (fun V W h => losses_any c l (by omega) V W h)
            cases hk : lossL l with
            | nil =>
              rw [hk] at HLO
              clear HPK hpk HRG
              go_wp2_with (first
                | ((with_reducible refine gate9 ?_); refine ldB (ty := 27) rfl rfl rfl HQ.out Try.underlying27 rfl infoS ?_)
                | (go_at_call 11; (with_reducible refine (HLO.out _ _ HRS.out).mono ?_); rintro e wr ⟨A6, k6, rfl, ho, hb⟩; replace HQ := Lib.hid (HQ.out.later hb); replace HRS := Lib.hid (HRS.out.below hb); replace HB := Lib.hid (HB.out.trans (hb.mono HB.out.size)); clear ho; clear hb))
              go_meet
              exact ⟨l, c, all, A, k, rfl, rfl, rfl, Lib.hid ⟨HPI.out.skip, HQ.out, HRS.out, HB.out, HQ.out.lt⟩⟩
            | cons t r =>
              have hex : ∃ i, ∃ h : i < l.length, l[i].ts = t ∧ l[i].st = 3 := by
                have hm : t ∈ lossL l := by rw [hk]; exact List.mem_cons_self ..
                unfold lossL at hm
                obtain ⟨x, hx, e⟩ := List.mem_map.1 hm
                obtain ⟨hx1, hx2⟩ := List.mem_filter.1 hx
                obtain ⟨i, hi, rfl⟩ := List.getElem_of_mem hx1
                exact ⟨i, hi, e, by simpa using hx2⟩
              obtain ⟨i0, hi0, ht0, hs0⟩ := hex
              have HPP := Lib.hid (fun W => pick_any pa 2 hwx.pa (by omega) (by omega) W)
              have hpp := pickI_le (c := pa) (n := 2) (by omega)
              try dsimp only at HPP
              generalize pickI pa 2 = q at *
              have HAG := Lib.hid (fun V W h => again_any c l t q (j : Int) (by omega) V W h)
              obtain ⟨hpn, hlen2⟩ := HPI.out.again t (show q = 0 ∨ q = 1 by omega) (j : Int)
              have HPN := Lib.hid hpn
              have he := again_hit HPI.out.ok hi0 ht0 hs0 q (j : Int)
              have he2 : (againL t q (j : Int) l).2 = true := by rw [he]
              rw [he2] at HAG
              generalize (againL t q (j : Int) l).1 = l2 at *
              have hl0 : 0 < l.length := by omega
              rw [hk] at HLO
              have qn : (0 : Int) < (r.length : Int) + 1 := by omega
              clear hpn he he2 hk ht0 hs0 HPK hpk HRG hpp
              go_wp2_with (first
                | ((with_reducible refine gate9 ?_); refine ldB (ty := 27) rfl rfl rfl HQ.out Try.underlying27 rfl infoS ?_)
                | (go_at_call 11; (with_reducible refine (HLO.out _ _ HRS.out).mono ?_); rintro e wr ⟨A6, k6, rfl, ho, hb⟩; replace HQ := Lib.hid (HQ.out.later hb); replace HRS := Lib.hid (HRS.out.below hb); replace HB := Lib.hid (HB.out.trans (hb.mono HB.out.size)); obtain ⟨A', cap', e9, hc1, hc2, hg0⟩ := ho.slice; cases e9; obtain ⟨gl, rfl, hgl1, hgl2⟩ := hg0 (by simp); have HC6 := Lib.hid (fun V (hV : Below wr.heap.size wr V) => (hV.cell (p := ⟨gl, 0, none⟩) hgl2).trans (ho.cells 0 (.int .u32 (t.toNat : Int)) rfl)); clear ho hg0; clear hb))
              have hgs := HQ.out.lt
              go_cut [25, 26] from 216 to 266 (fun v25 v26 wx => ∃ (g25 : Nat) (A2 : Option Addr) (k2 : Nat), v25 = .pointer (some ⟨g25, 0, none⟩) ∧ v26 = .bool true ∧ Hid (Bx wx g25 27 #[.int .u32 (c.toNat : Int), .slice A2 l.length k2] ∧ Bx wx g6 27 #[.int .u32 (c.toNat : Int), .slice A l.length k] ∧ RowP wx (.slice A2 l.length k2) l2 ∧ Fresh (g6 + 1) (.slice A2 l.length k2) ∧ Below wr.heap.size wr wx))
              case first =>
                have HS : (fun V => Bx V g6 27 #[.int .u32 (c.toNat : Int), .slice A l.length k] ∧ Below wr.heap.size wr V) _ := ⟨HQ.out.drew, below_drawn (Below.refl _ _)⟩
                refine wp_region_noPanic ?_
                refine wp_region_waits (S := (fun V => Bx V g6 27 #[.int .u32 (c.toNat : Int), .slice A l.length k] ∧ Below wr.heap.size wr V)) [17] (by kernel_rfl) HS (fun hHeld => ?_)
                clear HS
                refine wpAnyW_take (i := 0) (v := _) (by simp only [List.getElem?_toArray, List.getElem?_cons_zero]; rfl) (by kernel_rfl) (by kernel_rfl) (by kernel_rfl) (by kernel_rfl) (by kernel_rfl) (fun _ _ _ h => h) (yB (ty := 27) (by rfl) rfl rfl (fun V h => h.1) Try.underlying27 rfl infoS) (by assumption) ?_
                try simp only [Act.put, List.setIfInBounds_toArray, List.set_cons_zero, List.set_cons_succ]
                refine wpAnyW_take (i := 1) (v := ?_) (by simp only [List.getElem?_toArray, List.getElem?_cons_succ, List.getElem?_cons_zero]; rfl) (by kernel_rfl) (by kernel_rfl) (by kernel_rfl) (by kernel_rfl) (by kernel_rfl) (fun _ _ _ h => h) (Or.inl ⟨by rfl, ?_⟩) (by assumption) ?_
                rotate_left 1
                · (intro w' hSw; go_simp; try with_reducible rfl)
                try simp only [Act.put, List.setIfInBounds_toArray, List.set_cons_zero, List.set_cons_succ]
                refine wpAnyW_take (i := 2) (v := ?_) (by simp only [List.getElem?_toArray, List.getElem?_cons_succ, List.getElem?_cons_zero]; rfl) (by kernel_rfl) (by kernel_rfl) (by kernel_rfl) (by kernel_rfl) (by kernel_rfl) (fun _ _ _ h => h) (Or.inl ⟨by rfl, ?_⟩) (by assumption) ?_
                rotate_left 1
                · (intro w' hSw; go_simp; try with_reducible rfl)
                try simp only [Act.put, List.setIfInBounds_toArray, List.set_cons_zero, List.set_cons_succ]
                refine wpAnyW_take (i := 3) (v := ?_) (by simp only [List.getElem?_toArray, List.getElem?_cons_succ, List.getElem?_cons_zero]; rfl) (by kernel_rfl) (by kernel_rfl) (by kernel_rfl) (by kernel_rfl) (by kernel_rfl) (fun _ _ _ h => h) (Or.inl ⟨by rfl, ?_⟩) (by assumption) ?_
                rotate_left 1
                · (intro w' hSw; have hq := HC6.out _ hSw.2; go_simp; try with_reducible rfl)
                try simp only [Act.put, List.setIfInBounds_toArray, List.set_cons_zero, List.set_cons_succ]
                refine wpAnyW_take (i := 4) (v := ?_) (by simp only [List.getElem?_toArray, List.getElem?_cons_succ, List.getElem?_cons_zero]; rfl) (by kernel_rfl) (by kernel_rfl) (by kernel_rfl) (by kernel_rfl) (by kernel_rfl) (fun _ _ _ h => h) (Or.inl ⟨by rfl, ?_⟩) (by assumption) ?_
                rotate_left 1
                · (intro w' hSw; go_simp; try with_reducible rfl)
                try simp only [Act.put, List.setIfInBounds_toArray, List.set_cons_zero, List.set_cons_succ]
                refine wpAnyW_take (i := 5) (v := ?_) (by simp only [List.getElem?_toArray, List.getElem?_cons_succ, List.getElem?_cons_zero]; rfl) (by kernel_rfl) (by kernel_rfl) (by kernel_rfl) (by kernel_rfl) (by kernel_rfl) (fun _ _ _ h => h) (Or.inl ⟨by rfl, ?_⟩) (by assumption) ?_
                rotate_left 1
                · (intro w' hSw; go_simp; try with_reducible rfl)
                try simp only [Act.put, List.setIfInBounds_toArray, List.set_cons_zero, List.set_cons_succ]
                refine wpAnyW_take (i := 6) (v := ?_) (by simp only [List.getElem?_toArray, List.getElem?_cons_succ, List.getElem?_cons_zero]; rfl) (by kernel_rfl) (by kernel_rfl) (by kernel_rfl) (by kernel_rfl) (by kernel_rfl) (fun _ _ _ h => h) (Or.inl ⟨by rfl, ?_⟩) (by assumption) ?_
                rotate_left 1
                · (intro w' hSw; go_simp; try with_reducible rfl)
                try simp only [Act.put, List.setIfInBounds_toArray, List.set_cons_zero, List.set_cons_succ]
                refine wpAnyW_take (i := 7) (v := ?_) (by simp only [List.getElem?_toArray, List.getElem?_cons_succ, List.getElem?_cons_zero]; rfl) (by kernel_rfl) (by kernel_rfl) (by kernel_rfl) (by kernel_rfl) (by kernel_rfl) (fun _ _ _ h => h) (Or.inl ⟨by rfl, ?_⟩) (by assumption) ?_
                rotate_left 1
                · (intro w' hSw; go_simp; try with_reducible rfl)
                try simp only [Act.put, List.setIfInBounds_toArray, List.set_cons_zero, List.set_cons_succ]
                refine wpAnyW_take (i := 8) (v := ?_) (by simp only [List.getElem?_toArray, List.getElem?_cons_succ, List.getElem?_cons_zero]; rfl) (by kernel_rfl) (by kernel_rfl) (by kernel_rfl) (by kernel_rfl) (by kernel_rfl) (fun _ _ _ h => h) (Or.inl ⟨by rfl, ?_⟩) (by assumption) ?_
                rotate_left 1
                · (intro w' hSw; have hq := (range_below hrg hbw (HB.out.trans (hSw.2.mono HB.out.size))) 5 (.int .i64 pa) rfl; go_simp; try with_reducible rfl)
                try simp only [Act.put, List.setIfInBounds_toArray, List.set_cons_zero, List.set_cons_succ]
                refine wpAnyW_take (i := 10) (v := ?_) (by simp only [List.getElem?_toArray, List.getElem?_cons_succ, List.getElem?_cons_zero]; rfl) (by kernel_rfl) (by kernel_rfl) (by kernel_rfl) (by kernel_rfl) (by kernel_rfl) (fun _ _ _ h => h) (Or.inl ⟨by rfl, ?_⟩) (by assumption) ?_
                rotate_left 1
                · (intro w' hSw; go_simp; try with_reducible rfl)
                try simp only [Act.put, List.setIfInBounds_toArray, List.set_cons_zero, List.set_cons_succ]
                refine wpAnyW_two (i := 9) (i2 := 15) (by kernel_rfl) (by simp only [List.getElem?_toArray, List.getElem?_cons_succ, List.getElem?_cons_zero]; rfl) (by simp only [List.getElem?_toArray, List.getElem?_cons_succ, List.getElem?_cons_zero]; rfl) (fun K hK => ?_) (fun K hK => ?_)
                · rw [if_pos (by rfl)]
                  go_simp
                  refine (HPP.out _).mono ?_
                  rintro _ wq ⟨rfl, rfl⟩
                  have HS := hHeld
                  clear hHeld
                  go_wp2_with fail
                  refine hK.out _ _ HS (fun hHeld => ?_)
                  clear hK K HS
                  try simp only [Act.put, List.setIfInBounds_toArray, List.set_cons_zero, List.set_cons_succ]
                  refine wpAnyW_two (i := 11) (i2 := 15) (by kernel_rfl) (by simp only [List.getElem?_toArray, List.getElem?_cons_succ, List.getElem?_cons_zero]; rfl) (by simp only [List.getElem?_toArray, List.getElem?_cons_succ, List.getElem?_cons_zero]; rfl) (fun K hK => ?_) (fun K hK => ?_)
                  · rw [if_pos (by rfl)]
                    go_simp
                    refine (HAG.out _ _ (HRS.out.below hHeld.2)).mono ?_
                    rintro _ u5 ⟨A5, k5, rfl, hr, hf, hb⟩
                    have HS : (fun V => Bx V g6 27 #[.int .u32 (c.toNat : Int), .slice A l.length k] ∧ Below wr.heap.size wr V) _ := ⟨hHeld.1.later hb, hHeld.2.trans (hb.mono hHeld.2.size)⟩
                    have HR5 := Lib.hid hr
                    have HF5 := Lib.hid (hf.less (show g6 + 1 ≤ _ by have := hHeld.2.size; omega))
                    clear hr
                    clear hf
                    clear hHeld hb
                    go_wp2_with fail
                    refine hK.out _ _ HS (fun hHeld => ?_)
                    clear hK K HS
                    try simp only [Act.put, List.setIfInBounds_toArray, List.set_cons_zero, List.set_cons_succ]
                    refine wpAnyW_take (i := 12) (v := ?_) (by simp only [List.getElem?_toArray, List.getElem?_cons_succ, List.getElem?_cons_zero]; rfl) (by kernel_rfl) (by kernel_rfl) (by kernel_rfl) (by kernel_rfl) (by kernel_rfl) (fun _ _ _ h => h) (Or.inl ⟨by rfl, ?_⟩) (by assumption) ?_
                    rotate_left 1
                    · (intro w' hSw; go_simp; try with_reducible rfl)
                    try simp only [Act.put, List.setIfInBounds_toArray, List.set_cons_zero, List.set_cons_succ]
                    refine wpAnyW_take (i := 13) (v := ?_) (by simp only [List.getElem?_toArray, List.getElem?_cons_succ, List.getElem?_cons_zero]; rfl) (by kernel_rfl) (by kernel_rfl) (by kernel_rfl) (by kernel_rfl) (by kernel_rfl) (fun _ _ _ h => h) (Or.inl ⟨by rfl, ?_⟩) (by assumption) ?_
                    rotate_left 1
                    · (intro w' hSw; go_simp; try with_reducible rfl)
                    try simp only [Act.put, List.setIfInBounds_toArray, List.set_cons_zero, List.set_cons_succ]
                    refine wpAnyW_take (i := 14) (v := ?_) (by simp only [List.getElem?_toArray, List.getElem?_cons_succ, List.getElem?_cons_zero]; rfl) (by kernel_rfl) (by kernel_rfl) (by kernel_rfl) (by kernel_rfl) (by kernel_rfl) (fun _ _ _ h => h) (Or.inl ⟨by rfl, ?_⟩) (by assumption) ?_
                    rotate_left 1
                    · (intro w' hSw; go_simp; try with_reducible rfl)
                    try simp only [Act.put, List.setIfInBounds_toArray, List.set_cons_zero, List.set_cons_succ]
                    refine wpAnyW_held (i := 15) (by kernel_rfl) (by simp only [List.getElem?_toArray, List.getElem?_cons_succ, List.getElem?_cons_zero]; rfl) (fun K hK => ?_)
                    rw [if_pos (by rfl)]
                    obtain ⟨v2, hv2, HX, HBv2, hsv2⟩ := one_open u5 27 #[.int .u32 0, .slice none 0 0]
                    obtain ⟨gx, hgx⟩ : ∃ g, u5.heap.size = g := ⟨_, rfl⟩
                    rw [hgx] at HX hsv2
                    have HS : (fun V => Bx V g6 27 #[.int .u32 (c.toNat : Int), .slice A l.length k] ∧ Below wr.heap.size wr V) _ := ⟨hHeld.1.later HBv2.out, hHeld.2.trans (HBv2.out.mono hHeld.2.size)⟩
                    have hzx : wr.heap.size ≤ gx := by have := hHeld.2.size; omega
                    have HNE := Lib.hid (RowP.ne_new HR5.out (by rw [hlen2]; omega) (Nat.le_of_eq hgx))
                    replace HR5 := Lib.hid (RowP.below HR5.out HBv2.out)
                    clear hHeld HBv2 hsv2
                    go_simp
                    refine hK.out _ _ HS (fun hHeld => ?_)
                    clear hK K HS
                    try simp only [Act.put, List.setIfInBounds_toArray, List.set_cons_zero, List.set_cons_succ]
                    clear hgx
                    refine wpAnyW_held (i := 16) (by kernel_rfl) (by simp only [List.getElem?_toArray, List.getElem?_cons_succ, List.getElem?_cons_zero]; rfl) (fun K hK => ?_)
                    rw [if_pos (by rfl)]
                    refine wpB (ty := 27) #[.int .u32 (c.toNat : Int), .slice A5 l.length k5] rfl rfl rfl HX.out infoS rfl (cellsS_one _ _ _ _) ?_
                    intro y1 ht hg
                    have HS : (fun V => Bx V g6 27 #[.int .u32 (c.toNat : Int), .slice A l.length k] ∧ Below wr.heap.size wr V) _ := ⟨hHeld.1.kept hg (by omega), below_of_grown1 hHeld.2 hg hHeld.2.size hzx⟩
                    replace HR5 := Lib.hid (RowP.keptNe HR5.out HNE.out hg)
                    replace HX := Lib.hid ht
                    clear ht hg hHeld
                    refine hK.out _ _ HS (fun hHeld => ?_)
                    clear hK K HS
                    try simp only [Act.put, List.setIfInBounds_toArray, List.set_cons_zero, List.set_cons_succ]
                    refine wpAnyW_freed (i := 17) (by kernel_rfl) (by kernel_rfl) (by simp only [List.getElem?_toArray, List.getElem?_cons_succ, List.getElem?_cons_zero]; rfl) (fun K hK => ?_)
                    rw [if_pos (by rfl)]
                    go_simp
                    have HE := Lib.hid hHeld
                    refine hK.out _ _ ?_
                    clear hK K hHeld
                    try simp only [Act.put, List.setIfInBounds_toArray, List.set_cons_zero, List.set_cons_succ]
                    refine wpAnyW_done (by kernel_rfl) ?_ _
                    refine NoPanic.normal ?_
                    go_wp2_with fail
                    go_meet
                    exact ⟨gx, A5, k5, rfl, rfl, Lib.hid ⟨HX.out, HE.out.1, HR5.out, HF5.out, HE.out.2⟩⟩
                  · rw [if_pos (by rfl)]
                    obtain ⟨v1, hv1, HX, HBv1, hsv1⟩ := one_open wr.drew 27 #[.int .u32 0, .slice none 0 0]
                    obtain ⟨gx, hgx⟩ : ∃ g, wr.drew.heap.size = g := ⟨_, rfl⟩
                    rw [hgx] at HX hsv1
                    have HS : (fun V => Bx V g6 27 #[.int .u32 (c.toNat : Int), .slice A l.length k] ∧ Below wr.heap.size wr V) _ := ⟨hHeld.1.later HBv1.out, hHeld.2.trans (HBv1.out.mono hHeld.2.size)⟩
                    have hzx : wr.heap.size ≤ gx := by have := hHeld.2.size; omega
                    clear hHeld HBv1 hsv1
                    go_simp
                    refine hK.out _ _ HS (fun hHeld => ?_)
                    clear hK K HS
                    try simp only [Act.put, List.setIfInBounds_toArray, List.set_cons_zero, List.set_cons_succ]
                    clear hgx
                    refine wpAnyW_held (i := 11) (by kernel_rfl) (by simp only [List.getElem?_toArray, List.getElem?_cons_succ, List.getElem?_cons_zero]; rfl) (fun K hK => ?_)
                    rw [if_pos (by rfl)]
                    go_simp
                    refine (HAG.out _ _ (HRS.out.below hHeld.2)).mono ?_
                    rintro _ u5 ⟨A5, k5, rfl, hr, hf, hb⟩
                    have HS : (fun V => Bx V g6 27 #[.int .u32 (c.toNat : Int), .slice A l.length k] ∧ Below wr.heap.size wr V) _ := ⟨hHeld.1.later hb, hHeld.2.trans (hb.mono hHeld.2.size)⟩
                    have HR5 := Lib.hid hr
                    have HF5 := Lib.hid (hf.less (show g6 + 1 ≤ _ by have := hHeld.2.size; omega))
                    clear hr
                    have HNE : Hid (∀ a n c, Value.slice A5 l.length k5 = Value.slice (some a) n c → a.block ≠ gx) := Lib.hid (fun a n c e => by have h1 := hf a n c e; have h2 := HX.out.lt; omega)
                    replace HX := Lib.hid (HX.out.later hb)
                    clear hf
                    clear hHeld hb
                    go_wp2_with fail
                    refine hK.out _ _ HS (fun hHeld => ?_)
                    clear hK K HS
                    try simp only [Act.put, List.setIfInBounds_toArray, List.set_cons_zero, List.set_cons_succ]
                    refine wpAnyW_take (i := 12) (v := ?_) (by simp only [List.getElem?_toArray, List.getElem?_cons_succ, List.getElem?_cons_zero]; rfl) (by kernel_rfl) (by kernel_rfl) (by kernel_rfl) (by kernel_rfl) (by kernel_rfl) (fun _ _ _ h => h) (Or.inl ⟨by rfl, ?_⟩) (by assumption) ?_
                    rotate_left 1
                    · (intro w' hSw; go_simp; try with_reducible rfl)
                    try simp only [Act.put, List.setIfInBounds_toArray, List.set_cons_zero, List.set_cons_succ]
                    refine wpAnyW_take (i := 13) (v := ?_) (by simp only [List.getElem?_toArray, List.getElem?_cons_succ, List.getElem?_cons_zero]; rfl) (by kernel_rfl) (by kernel_rfl) (by kernel_rfl) (by kernel_rfl) (by kernel_rfl) (fun _ _ _ h => h) (Or.inl ⟨by rfl, ?_⟩) (by assumption) ?_
                    rotate_left 1
                    · (intro w' hSw; go_simp; try with_reducible rfl)
                    try simp only [Act.put, List.setIfInBounds_toArray, List.set_cons_zero, List.set_cons_succ]
                    refine wpAnyW_take (i := 14) (v := ?_) (by simp only [List.getElem?_toArray, List.getElem?_cons_succ, List.getElem?_cons_zero]; rfl) (by kernel_rfl) (by kernel_rfl) (by kernel_rfl) (by kernel_rfl) (by kernel_rfl) (fun _ _ _ h => h) (Or.inl ⟨by rfl, ?_⟩) (by assumption) ?_
                    rotate_left 1
                    · (intro w' hSw; go_simp; try with_reducible rfl)
                    try simp only [Act.put, List.setIfInBounds_toArray, List.set_cons_zero, List.set_cons_succ]
                    refine wpAnyW_held (i := 16) (by kernel_rfl) (by simp only [List.getElem?_toArray, List.getElem?_cons_succ, List.getElem?_cons_zero]; rfl) (fun K hK => ?_)
                    rw [if_pos (by rfl)]
                    refine wpB (ty := 27) #[.int .u32 (c.toNat : Int), .slice A5 l.length k5] rfl rfl rfl HX.out infoS rfl (cellsS_one _ _ _ _) ?_
                    intro y1 ht hg
                    have HS : (fun V => Bx V g6 27 #[.int .u32 (c.toNat : Int), .slice A l.length k] ∧ Below wr.heap.size wr V) _ := ⟨hHeld.1.kept hg (by omega), below_of_grown1 hHeld.2 hg hHeld.2.size hzx⟩
                    replace HR5 := Lib.hid (RowP.keptNe HR5.out HNE.out hg)
                    replace HX := Lib.hid ht
                    clear ht hg hHeld
                    refine hK.out _ _ HS (fun hHeld => ?_)
                    clear hK K HS
                    try simp only [Act.put, List.setIfInBounds_toArray, List.set_cons_zero, List.set_cons_succ]
                    refine wpAnyW_freed (i := 17) (by kernel_rfl) (by kernel_rfl) (by simp only [List.getElem?_toArray, List.getElem?_cons_succ, List.getElem?_cons_zero]; rfl) (fun K hK => ?_)
                    rw [if_pos (by rfl)]
                    go_simp
                    have HE := Lib.hid hHeld
                    refine hK.out _ _ ?_
                    clear hK K hHeld
                    try simp only [Act.put, List.setIfInBounds_toArray, List.set_cons_zero, List.set_cons_succ]
                    refine wpAnyW_done (by kernel_rfl) ?_ _
                    refine NoPanic.normal ?_
                    go_wp2_with fail
                    go_meet
                    exact ⟨gx, A5, k5, rfl, rfl, Lib.hid ⟨HX.out, HE.out.1, HR5.out, HF5.out, HE.out.2⟩⟩
                · rw [if_pos (by rfl)]
                  obtain ⟨v0, hv0, HX, HBv0, hsv0⟩ := one_open wr.drew 27 #[.int .u32 0, .slice none 0 0]
                  obtain ⟨gx, hgx⟩ : ∃ g, wr.drew.heap.size = g := ⟨_, rfl⟩
                  rw [hgx] at HX hsv0
                  have HS : (fun V => Bx V g6 27 #[.int .u32 (c.toNat : Int), .slice A l.length k] ∧ Below wr.heap.size wr V) _ := ⟨hHeld.1.later HBv0.out, hHeld.2.trans (HBv0.out.mono hHeld.2.size)⟩
                  have hzx : wr.heap.size ≤ gx := by have := hHeld.2.size; omega
                  clear hHeld HBv0 hsv0
                  go_simp
                  refine hK.out _ _ HS (fun hHeld => ?_)
                  clear hK K HS
                  try simp only [Act.put, List.setIfInBounds_toArray, List.set_cons_zero, List.set_cons_succ]
                  clear hgx
                  refine wpAnyW_held (i := 9) (by kernel_rfl) (by simp only [List.getElem?_toArray, List.getElem?_cons_succ, List.getElem?_cons_zero]; rfl) (fun K hK => ?_)
                  rw [if_pos (by rfl)]
                  go_simp
                  refine (HPP.out _).mono ?_
                  rintro _ v0 ⟨rfl, rfl⟩
                  have HS := hHeld
                  clear hHeld
                  go_wp2_with fail
                  refine hK.out _ _ HS (fun hHeld => ?_)
                  clear hK K HS
                  try simp only [Act.put, List.setIfInBounds_toArray, List.set_cons_zero, List.set_cons_succ]
                  refine wpAnyW_held (i := 11) (by kernel_rfl) (by simp only [List.getElem?_toArray, List.getElem?_cons_succ, List.getElem?_cons_zero]; rfl) (fun K hK => ?_)
                  rw [if_pos (by rfl)]
                  go_simp
                  refine (HAG.out _ _ (HRS.out.below hHeld.2)).mono ?_
                  rintro _ u5 ⟨A5, k5, rfl, hr, hf, hb⟩
                  have HS : (fun V => Bx V g6 27 #[.int .u32 (c.toNat : Int), .slice A l.length k] ∧ Below wr.heap.size wr V) _ := ⟨hHeld.1.later hb, hHeld.2.trans (hb.mono hHeld.2.size)⟩
                  have HR5 := Lib.hid hr
                  have HF5 := Lib.hid (hf.less (show g6 + 1 ≤ _ by have := hHeld.2.size; omega))
                  clear hr
                  have HNE : Hid (∀ a n c, Value.slice A5 l.length k5 = Value.slice (some a) n c → a.block ≠ gx) := Lib.hid (fun a n c e => by have h1 := hf a n c e; have h2 := HX.out.lt; omega)
                  replace HX := Lib.hid (HX.out.later hb)
                  clear hf
                  clear hHeld hb
                  go_wp2_with fail
                  refine hK.out _ _ HS (fun hHeld => ?_)
                  clear hK K HS
                  try simp only [Act.put, List.setIfInBounds_toArray, List.set_cons_zero, List.set_cons_succ]
                  refine wpAnyW_take (i := 12) (v := ?_) (by simp only [List.getElem?_toArray, List.getElem?_cons_succ, List.getElem?_cons_zero]; rfl) (by kernel_rfl) (by kernel_rfl) (by kernel_rfl) (by kernel_rfl) (by kernel_rfl) (fun _ _ _ h => h) (Or.inl ⟨by rfl, ?_⟩) (by assumption) ?_
                  rotate_left 1
                  · (intro w' hSw; go_simp; try with_reducible rfl)
                  try simp only [Act.put, List.setIfInBounds_toArray, List.set_cons_zero, List.set_cons_succ]
                  refine wpAnyW_take (i := 13) (v := ?_) (by simp only [List.getElem?_toArray, List.getElem?_cons_succ, List.getElem?_cons_zero]; rfl) (by kernel_rfl) (by kernel_rfl) (by kernel_rfl) (by kernel_rfl) (by kernel_rfl) (fun _ _ _ h => h) (Or.inl ⟨by rfl, ?_⟩) (by assumption) ?_
                  rotate_left 1
                  · (intro w' hSw; go_simp; try with_reducible rfl)
                  try simp only [Act.put, List.setIfInBounds_toArray, List.set_cons_zero, List.set_cons_succ]
                  refine wpAnyW_take (i := 14) (v := ?_) (by simp only [List.getElem?_toArray, List.getElem?_cons_succ, List.getElem?_cons_zero]; rfl) (by kernel_rfl) (by kernel_rfl) (by kernel_rfl) (by kernel_rfl) (by kernel_rfl) (fun _ _ _ h => h) (Or.inl ⟨by rfl, ?_⟩) (by assumption) ?_
                  rotate_left 1
                  · (intro w' hSw; go_simp; try with_reducible rfl)
                  try simp only [Act.put, List.setIfInBounds_toArray, List.set_cons_zero, List.set_cons_succ]
                  refine wpAnyW_held (i := 16) (by kernel_rfl) (by simp only [List.getElem?_toArray, List.getElem?_cons_succ, List.getElem?_cons_zero]; rfl) (fun K hK => ?_)
                  rw [if_pos (by rfl)]
                  refine wpB (ty := 27) #[.int .u32 (c.toNat : Int), .slice A5 l.length k5] rfl rfl rfl HX.out infoS rfl (cellsS_one _ _ _ _) ?_
                  intro y1 ht hg
                  have HS : (fun V => Bx V g6 27 #[.int .u32 (c.toNat : Int), .slice A l.length k] ∧ Below wr.heap.size wr V) _ := ⟨hHeld.1.kept hg (by omega), below_of_grown1 hHeld.2 hg hHeld.2.size hzx⟩
                  replace HR5 := Lib.hid (RowP.keptNe HR5.out HNE.out hg)
                  replace HX := Lib.hid ht
                  clear ht hg hHeld
                  refine hK.out _ _ HS (fun hHeld => ?_)
                  clear hK K HS
                  try simp only [Act.put, List.setIfInBounds_toArray, List.set_cons_zero, List.set_cons_succ]
                  refine wpAnyW_freed (i := 17) (by kernel_rfl) (by kernel_rfl) (by simp only [List.getElem?_toArray, List.getElem?_cons_succ, List.getElem?_cons_zero]; rfl) (fun K hK => ?_)
                  rw [if_pos (by rfl)]
                  go_simp
                  have HE := Lib.hid hHeld
                  refine hK.out _ _ ?_
                  clear hK K hHeld
                  try simp only [Act.put, List.setIfInBounds_toArray, List.set_cons_zero, List.set_cons_succ]
                  refine wpAnyW_done (by kernel_rfl) ?_ _
                  refine NoPanic.normal ?_
                  go_wp2_with fail
                  go_meet
                  exact ⟨gx, A5, k5, rfl, rfl, Lib.hid ⟨HX.out, HE.out.1, HR5.out, HF5.out, HE.out.2⟩⟩
              case rest =>
                obtain ⟨g25, A2, k2, rfl, rfl, HH⟩ := hcut
                obtain ⟨hx, hq6, hr, hf, hb⟩ := HH.out
                have HX := Lib.hid hx
                replace HQ := Lib.hid hq6
                have HR5 := Lib.hid hr
                have HF5 := Lib.hid hf
                replace HB := Lib.hid (HB.out.trans (hb.mono HB.out.size))
                have hgb := hb.size
                clear hx hq6 hr hf hb HH HRS
                go_wp2_with (first
                  | ((with_reducible refine gate9 ?_); refine ldB (ty := 27) rfl rfl rfl HX.out Try.underlying27 rfl infoS ?_)
                  | ((with_reducible refine gate9 ?_); refine stB (ty := 27) #[.int .u32 (c.toNat : Int), .slice A2 l.length k2] rfl rfl rfl rfl HQ.out infoS rfl (cellsS_one _ _ _ _) ?_; intro w9 ht hg; replace HR5 := Lib.hid (RowP.stays HR5.out HF5.out hg (by omega)); have HG9 := Lib.hid ht; replace HB := Lib.hid (below_of_grown1 HB.out hg HB.out.size hwg); have hs9 := hg.size; clear ht hg))
                go_meet
                exact ⟨l2, c, all, A2, k2, by rw [next_len hlen2], rfl, rfl, Lib.hid ⟨HPN.out, by rw [hlen2]; exact HG9.out, by rw [hlen2]; exact HR5.out, HB.out, by omega⟩⟩
        case rest =>
          obtain ⟨l2, c2, all2, A2, k2, rfl, rfl, rfl, HH⟩ := hcut
          obtain ⟨hpl2, hbx2, hrow2, hbl2, hgs2⟩ := HH.out
          have HPL := Lib.hid hpl2
          have HQ := Lib.hid hbx2
          have HR := Lib.hid hrow2
          have HB := Lib.hid hbl2
          have h64 := hpl2.ok.len
          have htw := hpl2.two
          have hall := (hpl2.under (-1)).2
          have hlo := (hpl2.under (-1)).1
          have h0lo := hpl2.under 0
          have h1lo := hpl2.under 1
          have hhi := hpl2.hi
          have HAS := Lib.hid (fun V W h => as_any c2 l2 (by omega) V W h)
          have HRI := Lib.hid (fun V W h => right_any c2 l2 (by omega) true ⟨fun _ => hpl2.ok, fun _ => rfl⟩ V W h)
          have HNX := Lib.hid (fun W => next_any c2 A2 l2.length k2 (by omega) W)
          have HUA := Lib.hid (fun V W h => under_any c2 l2 (-1) (by omega) hpl2.ok.ok V W h)
          have HU0 := Lib.hid (fun V W h => under_any c2 l2 0 (by omega) hpl2.ok.ok V W h)
          have HU1 := Lib.hid (fun V W h => under_any c2 l2 1 (by omega) hpl2.ok.ok V W h)
          have s1 : ((c2.toNat : Int) + 1) % 4294967296 = ((c2 + 1).toNat : Int) := by
            have h1 : (1 : UInt32).toNat = 1 := rfl
            simp only [UInt32.toNat_add, h1]; omega
          have s1' : IntKind.u32.wrap ((c2.toNat : Int) + 1) = ((c2 + 1).toNat : Int) := by rw [← s1]; rfl
          have HNXE : nextL c2 l2 = c2 + UInt32.ofNat l2.length + 1 := rfl
          rw [← HNXE] at HNX
          generalize underL (-1) l2 = ua at *
          generalize underL 0 l2 = u0 at *
          generalize underL 1 l2 = u1 at *
          have s2 : IntKind.i64.wrap (u0 + u1) = ua := by rw [IntKind.wrap_i64]; omega
          obtain ⟨nx, hnx⟩ : ∃ x, (nextL c2 l2).toNat = x := ⟨_, rfl⟩
          obtain ⟨cx, hcx⟩ : ∃ x, (c2 + 1).toNat = x := ⟨_, rfl⟩
          rw [hnx] at HNX ⊢
          rw [hcx] at s1 s1' ⊢
          have HNH := Lib.hid (And.intro hnx hcx)
          clear hnx hcx
          have q1 : ¬ all2 < ua := by omega
          have T1 : decide (all2 < ua) = false := decide_eq_false q1
          clear HH hpl2 hbx2 hrow2 hbl2 HRS HPI HPK hpk hwx HRG htw HNXE
          go_wp2_with fail
          have HS : (fun V => Bx V g6 27 #[.int .u32 (c2.toNat : Int), .slice A2 l2.length k2] ∧ Below wc.heap.size wc V) _ := ⟨HQ.out.drew, below_drawn (Below.refl _ _)⟩
          refine wp_region_noPanic ?_
          refine wp_region_waits (S := (fun V => Bx V g6 27 #[.int .u32 (c2.toNat : Int), .slice A2 l2.length k2] ∧ Below wc.heap.size wc V)) [] (by kernel_rfl) HS (fun hHeld => ?_)
          clear HS
          refine wpAnyW_take (i := 0) (v := _) (by simp only [List.getElem?_toArray, List.getElem?_cons_zero]; rfl) (by kernel_rfl) (by kernel_rfl) (by kernel_rfl) (by kernel_rfl) (by kernel_rfl) (fun _ _ _ h => h) (yB (ty := 27) (by rfl) rfl rfl (fun V h => h.1) Try.underlying27 rfl infoS) (by assumption) ?_
          try simp only [Act.put, List.setIfInBounds_toArray, List.set_cons_zero, List.set_cons_succ]
          refine wpAnyW_held (i := 1) (by kernel_rfl) (by simp only [List.getElem?_toArray, List.getElem?_cons_succ, List.getElem?_cons_zero]; rfl) (fun K hK => ?_)
          rw [if_pos (by rfl)]
          go_simp
          refine (HAS.out _ _ (HR.out.below hHeld.2)).mono ?_
          rintro _ w9 ⟨A9, k9, rfl, hr9, hb⟩
          have HS : (fun V => Bx V g6 27 #[.int .u32 (c2.toNat : Int), .slice A2 l2.length k2] ∧ Below wc.heap.size wc V) _ := ⟨hHeld.1.later hb, hHeld.2.trans (hb.mono hHeld.2.size)⟩
          have HR9 := Lib.hid hr9
          clear hr9
          clear hHeld hb
          go_wp2_with fail
          refine hK.out _ _ HS (fun hHeld => ?_)
          clear hK K HS
          try simp only [Act.put, List.setIfInBounds_toArray, List.set_cons_zero, List.set_cons_succ]
          refine wpAnyW_held (i := 2) (by kernel_rfl) (by simp only [List.getElem?_toArray, List.getElem?_cons_succ, List.getElem?_cons_zero]; rfl) (fun K hK => ?_)
          rw [if_pos (by rfl)]
          go_simp
          refine (HRI.out _ _ HR9.out).mono ?_
          rintro _ w9 ⟨rfl, hb⟩
          have HS : (fun V => Bx V g6 27 #[.int .u32 (c2.toNat : Int), .slice A2 l2.length k2] ∧ Below wc.heap.size wc V) _ := ⟨hHeld.1.later hb, hHeld.2.trans (hb.mono hHeld.2.size)⟩
          clear hHeld hb
          go_wp2_with fail
          refine hK.out _ _ HS (fun hHeld => ?_)
          clear hK K HS
          try simp only [Act.put, List.setIfInBounds_toArray, List.set_cons_zero, List.set_cons_succ]
          refine wpAnyW_take (i := 3) (v := ?_) (by simp only [List.getElem?_toArray, List.getElem?_cons_succ, List.getElem?_cons_zero]; rfl) (by kernel_rfl) (by kernel_rfl) (by kernel_rfl) (by kernel_rfl) (by kernel_rfl) (fun _ _ _ h => h) (Or.inl ⟨by rfl, ?_⟩) (by assumption) ?_
          rotate_left 1
          · (intro w' hSw; go_simp; try with_reducible rfl)
          try simp only [Act.put, List.setIfInBounds_toArray, List.set_cons_zero, List.set_cons_succ]
          refine wpAnyW_take (i := 4) (v := ?_) (by simp only [List.getElem?_toArray, List.getElem?_cons_succ, List.getElem?_cons_zero]; rfl) (by kernel_rfl) (by kernel_rfl) (by kernel_rfl) (by kernel_rfl) (by kernel_rfl) (fun _ _ _ h => h) (Or.inl ⟨by rfl, ?_⟩) (by assumption) ?_
          rotate_left 1
          · (intro w' hSw; go_simp; try with_reducible rfl)
          try simp only [Act.put, List.setIfInBounds_toArray, List.set_cons_zero, List.set_cons_succ]
          refine wpAnyW_take (i := 5) (v := _) (by simp only [List.getElem?_toArray, List.getElem?_cons_succ, List.getElem?_cons_zero]; rfl) (by kernel_rfl) (by kernel_rfl) (by kernel_rfl) (by kernel_rfl) (by kernel_rfl) (fun _ _ _ h => h) (yB (ty := 27) (by rfl) rfl rfl (fun V h => h.1) Try.underlying27 rfl infoS) (by assumption) ?_
          try simp only [Act.put, List.setIfInBounds_toArray, List.set_cons_zero, List.set_cons_succ]
          refine wpAnyW_take (i := 7) (v := ?_) (by simp only [List.getElem?_toArray, List.getElem?_cons_succ, List.getElem?_cons_zero]; rfl) (by kernel_rfl) (by kernel_rfl) (by kernel_rfl) (by kernel_rfl) (by kernel_rfl) (fun _ _ _ h => h) (Or.inl ⟨by rfl, ?_⟩) (by assumption) ?_
          rotate_left 1
          · (intro w' hSw; go_simp; try with_reducible rfl)
          try simp only [Act.put, List.setIfInBounds_toArray, List.set_cons_zero, List.set_cons_succ]
          refine wpAnyW_held (i := 6) (by kernel_rfl) (by simp only [List.getElem?_toArray, List.getElem?_cons_succ, List.getElem?_cons_zero]; rfl) (fun K hK => ?_)
          rw [if_pos (by rfl)]
          go_simp
          refine (HNX.out _).mono ?_
          rintro _ w9 ⟨rfl, hb⟩
          have HS : (fun V => Bx V g6 27 #[.int .u32 (c2.toNat : Int), .slice A2 l2.length k2] ∧ Below wc.heap.size wc V) _ := ⟨hHeld.1.later hb, hHeld.2.trans (hb.mono hHeld.2.size)⟩
          clear hHeld hb
          go_wp2_with fail
          refine hK.out _ _ HS (fun hHeld => ?_)
          clear hK K HS
          try simp only [Act.put, List.setIfInBounds_toArray, List.set_cons_zero, List.set_cons_succ]
          refine wpAnyW_take (i := 8) (v := ?_) (by simp only [List.getElem?_toArray, List.getElem?_cons_succ, List.getElem?_cons_zero]; rfl) (by kernel_rfl) (by kernel_rfl) (by kernel_rfl) (by kernel_rfl) (by kernel_rfl) (fun _ _ _ h => h) (Or.inl ⟨by rfl, ?_⟩) (by assumption) ?_
          rotate_left 1
          · (intro w' hSw; go_simp; try with_reducible rfl)
          try simp only [Act.put, List.setIfInBounds_toArray, List.set_cons_zero, List.set_cons_succ]
          refine wpAnyW_take (i := 9) (v := ?_) (by simp only [List.getElem?_toArray, List.getElem?_cons_succ, List.getElem?_cons_zero]; rfl) (by kernel_rfl) (by kernel_rfl) (by kernel_rfl) (by kernel_rfl) (by kernel_rfl) (fun _ _ _ h => h) (Or.inl ⟨by rfl, ?_⟩) (by assumption) ?_
          rotate_left 1
          · (intro w' hSw; go_simp; try with_reducible rfl)
          try simp only [Act.put, List.setIfInBounds_toArray, List.set_cons_zero, List.set_cons_succ]
          refine wpAnyW_take (i := 10) (v := ?_) (by simp only [List.getElem?_toArray, List.getElem?_cons_succ, List.getElem?_cons_zero]; rfl) (by kernel_rfl) (by kernel_rfl) (by kernel_rfl) (by kernel_rfl) (by kernel_rfl) (fun _ _ _ h => h) (Or.inl ⟨by rfl, ?_⟩) (by assumption) ?_
          rotate_left 1
          · (intro w' hSw; go_simp; try with_reducible rfl)
          try simp only [Act.put, List.setIfInBounds_toArray, List.set_cons_zero, List.set_cons_succ]
          refine wpAnyW_take (i := 11) (v := ?_) (by simp only [List.getElem?_toArray, List.getElem?_cons_succ, List.getElem?_cons_zero]; rfl) (by kernel_rfl) (by kernel_rfl) (by kernel_rfl) (by kernel_rfl) (by kernel_rfl) (fun _ _ _ h => h) (Or.inl ⟨by rfl, ?_⟩) (by assumption) ?_
          rotate_left 1
          · (intro w' hSw; go_simp; try with_reducible rfl)
          try simp only [Act.put, List.setIfInBounds_toArray, List.set_cons_zero, List.set_cons_succ]
          refine wpAnyW_take (i := 12) (v := ?_) (by simp only [List.getElem?_toArray, List.getElem?_cons_succ, List.getElem?_cons_zero]; rfl) (by kernel_rfl) (by kernel_rfl) (by kernel_rfl) (by kernel_rfl) (by kernel_rfl) (fun _ _ _ h => h) (Or.inl ⟨by rfl, ?_⟩) (by assumption) ?_
          rotate_left 1
          · (intro w' hSw; have hq := hSw.1.cell 0 (.int .u32 (c2.toNat : Int)) rfl; go_simp; try with_reducible rfl)
          try simp only [Act.put, List.setIfInBounds_toArray, List.set_cons_zero, List.set_cons_succ]
          refine wpAnyW_take (i := 13) (v := ?_) (by simp only [List.getElem?_toArray, List.getElem?_cons_succ, List.getElem?_cons_zero]; rfl) (by kernel_rfl) (by kernel_rfl) (by kernel_rfl) (by kernel_rfl) (by kernel_rfl) (fun _ _ _ h => h) (Or.inl ⟨by rfl, ?_⟩) (by assumption) ?_
          rotate_left 1
          · (intro w' hSw; go_simp; try with_reducible rfl)
          try simp only [Act.put, List.setIfInBounds_toArray, List.set_cons_zero, List.set_cons_succ]
          refine wpAnyW_take (i := 14) (v := ?_) (by simp only [List.getElem?_toArray, List.getElem?_cons_succ, List.getElem?_cons_zero]; rfl) (by kernel_rfl) (by kernel_rfl) (by kernel_rfl) (by kernel_rfl) (by kernel_rfl) (fun _ _ _ h => h) (Or.inl ⟨by rfl, ?_⟩) (by assumption) ?_
          rotate_left 1
          · (intro w' hSw; go_simp; try with_reducible rfl)
          try simp only [Act.put, List.setIfInBounds_toArray, List.set_cons_zero, List.set_cons_succ]
          refine wpAnyW_take (i := 15) (v := ?_) (by simp only [List.getElem?_toArray, List.getElem?_cons_succ, List.getElem?_cons_zero]; rfl) (by kernel_rfl) (by kernel_rfl) (by kernel_rfl) (by kernel_rfl) (by kernel_rfl) (fun _ _ _ h => h) (Or.inl ⟨by rfl, ?_⟩) (by assumption) ?_
          rotate_left 1
          · (intro w' hSw; go_simp; try with_reducible rfl)
          try simp only [Act.put, List.setIfInBounds_toArray, List.set_cons_zero, List.set_cons_succ]
          refine wpAnyW_take (i := 16) (v := ?_) (by simp only [List.getElem?_toArray, List.getElem?_cons_succ, List.getElem?_cons_zero]; rfl) (by kernel_rfl) (by kernel_rfl) (by kernel_rfl) (by kernel_rfl) (by kernel_rfl) (fun _ _ _ h => h) (Or.inl ⟨by rfl, ?_⟩) (by assumption) ?_
          rotate_left 1
          · (intro w' hSw; go_simp; try with_reducible rfl)
          try simp only [Act.put, List.setIfInBounds_toArray, List.set_cons_zero, List.set_cons_succ]
          refine wpAnyW_take (i := 17) (v := ?_) (by simp only [List.getElem?_toArray, List.getElem?_cons_succ, List.getElem?_cons_zero]; rfl) (by kernel_rfl) (by kernel_rfl) (by kernel_rfl) (by kernel_rfl) (by kernel_rfl) (fun _ _ _ h => h) (Or.inl ⟨by rfl, ?_⟩) (by assumption) ?_
          rotate_left 1
          · (intro w' hSw; go_simp; try with_reducible rfl)
          try simp only [Act.put, List.setIfInBounds_toArray, List.set_cons_zero, List.set_cons_succ]
          refine wpAnyW_take (i := 18) (v := _) (by simp only [List.getElem?_toArray, List.getElem?_cons_succ, List.getElem?_cons_zero]; rfl) (by kernel_rfl) (by kernel_rfl) (by kernel_rfl) (by kernel_rfl) (by kernel_rfl) (fun _ _ _ h => h) (yB (ty := 27) (by rfl) rfl rfl (fun V h => h.1) Try.underlying27 rfl infoS) (by assumption) ?_
          try simp only [Act.put, List.setIfInBounds_toArray, List.set_cons_zero, List.set_cons_succ]
          refine wpAnyW_take (i := 20) (v := ?_) (by simp only [List.getElem?_toArray, List.getElem?_cons_succ, List.getElem?_cons_zero]; rfl) (by kernel_rfl) (by kernel_rfl) (by kernel_rfl) (by kernel_rfl) (by kernel_rfl) (fun _ _ _ h => h) (Or.inl ⟨by rfl, ?_⟩) (by assumption) ?_
          rotate_left 1
          · (intro w' hSw; go_simp; try with_reducible rfl)
          try simp only [Act.put, List.setIfInBounds_toArray, List.set_cons_zero, List.set_cons_succ]
          refine wpAnyW_held (i := 19) (by kernel_rfl) (by simp only [List.getElem?_toArray, List.getElem?_cons_succ, List.getElem?_cons_zero]; rfl) (fun K hK => ?_)
          rw [if_pos (by rfl)]
          go_simp
          refine (HUA.out _ _ (HR.out.below hHeld.2)).mono ?_
          rintro _ w9 ⟨rfl, hb⟩
          have HS : (fun V => Bx V g6 27 #[.int .u32 (c2.toNat : Int), .slice A2 l2.length k2] ∧ Below wc.heap.size wc V) _ := ⟨hHeld.1.later hb, hHeld.2.trans (hb.mono hHeld.2.size)⟩
          clear hHeld hb
          go_wp2_with fail
          refine hK.out _ _ HS (fun hHeld => ?_)
          clear hK K HS
          try simp only [Act.put, List.setIfInBounds_toArray, List.set_cons_zero, List.set_cons_succ]
          refine wpAnyW_take (i := 21) (v := ?_) (by simp only [List.getElem?_toArray, List.getElem?_cons_succ, List.getElem?_cons_zero]; rfl) (by kernel_rfl) (by kernel_rfl) (by kernel_rfl) (by kernel_rfl) (by kernel_rfl) (fun _ _ _ h => h) (Or.inl ⟨by rfl, ?_⟩) (by assumption) ?_
          rotate_left 1
          · (intro w' hSw; go_simp; try with_reducible rfl)
          try simp only [Act.put, List.setIfInBounds_toArray, List.set_cons_zero, List.set_cons_succ]
          refine wpAnyW_take (i := 22) (v := ?_) (by simp only [List.getElem?_toArray, List.getElem?_cons_succ, List.getElem?_cons_zero]; rfl) (by kernel_rfl) (by kernel_rfl) (by kernel_rfl) (by kernel_rfl) (by kernel_rfl) (fun _ _ _ h => h) (Or.inl ⟨by rfl, ?_⟩) (by assumption) ?_
          rotate_left 1
          · (intro w' hSw; go_simp; try with_reducible rfl)
          try simp only [Act.put, List.setIfInBounds_toArray, List.set_cons_zero, List.set_cons_succ]
          refine wpAnyW_take (i := 23) (v := ?_) (by simp only [List.getElem?_toArray, List.getElem?_cons_succ, List.getElem?_cons_zero]; rfl) (by kernel_rfl) (by kernel_rfl) (by kernel_rfl) (by kernel_rfl) (by kernel_rfl) (fun _ _ _ h => h) (Or.inl ⟨by rfl, ?_⟩) (by assumption) ?_
          rotate_left 1
          · (intro w' hSw; go_simp; try with_reducible rfl)
          try simp only [Act.put, List.setIfInBounds_toArray, List.set_cons_zero, List.set_cons_succ]
          refine wpAnyW_take (i := 24) (v := _) (by simp only [List.getElem?_toArray, List.getElem?_cons_succ, List.getElem?_cons_zero]; rfl) (by kernel_rfl) (by kernel_rfl) (by kernel_rfl) (by kernel_rfl) (by kernel_rfl) (fun _ _ _ h => h) (yB (ty := 27) (by rfl) rfl rfl (fun V h => h.1) Try.underlying27 rfl infoS) (by assumption) ?_
          try simp only [Act.put, List.setIfInBounds_toArray, List.set_cons_zero, List.set_cons_succ]
          refine wpAnyW_take (i := 26) (v := _) (by simp only [List.getElem?_toArray, List.getElem?_cons_succ, List.getElem?_cons_zero]; rfl) (by kernel_rfl) (by kernel_rfl) (by kernel_rfl) (by kernel_rfl) (by kernel_rfl) (fun _ _ _ h => h) (yB (ty := 27) (by rfl) rfl rfl (fun V h => h.1) Try.underlying27 rfl infoS) (by assumption) ?_
          try simp only [Act.put, List.setIfInBounds_toArray, List.set_cons_zero, List.set_cons_succ]
          refine wpAnyW_take (i := 28) (v := _) (by simp only [List.getElem?_toArray, List.getElem?_cons_succ, List.getElem?_cons_zero]; rfl) (by kernel_rfl) (by kernel_rfl) (by kernel_rfl) (by kernel_rfl) (by kernel_rfl) (fun _ _ _ h => h) (yB (ty := 27) (by rfl) rfl rfl (fun V h => h.1) Try.underlying27 rfl infoS) (by assumption) ?_
          try simp only [Act.put, List.setIfInBounds_toArray, List.set_cons_zero, List.set_cons_succ]
          refine wpAnyW_held (i := 25) (by kernel_rfl) (by simp only [List.getElem?_toArray, List.getElem?_cons_succ, List.getElem?_cons_zero]; rfl) (fun K hK => ?_)
          rw [if_pos (by rfl)]
          go_simp
          refine (HUA.out _ _ (HR.out.below hHeld.2)).mono ?_
          rintro _ w9 ⟨rfl, hb⟩
          have HS : (fun V => Bx V g6 27 #[.int .u32 (c2.toNat : Int), .slice A2 l2.length k2] ∧ Below wc.heap.size wc V) _ := ⟨hHeld.1.later hb, hHeld.2.trans (hb.mono hHeld.2.size)⟩
          clear hHeld hb
          go_wp2_with fail
          refine hK.out _ _ HS (fun hHeld => ?_)
          clear hK K HS
          try simp only [Act.put, List.setIfInBounds_toArray, List.set_cons_zero, List.set_cons_succ]
          refine wpAnyW_held (i := 27) (by kernel_rfl) (by simp only [List.getElem?_toArray, List.getElem?_cons_succ, List.getElem?_cons_zero]; rfl) (fun K hK => ?_)
          rw [if_pos (by rfl)]
          go_simp
          refine (HU0.out _ _ (HR.out.below hHeld.2)).mono ?_
          rintro _ w9 ⟨rfl, hb⟩
          have HS : (fun V => Bx V g6 27 #[.int .u32 (c2.toNat : Int), .slice A2 l2.length k2] ∧ Below wc.heap.size wc V) _ := ⟨hHeld.1.later hb, hHeld.2.trans (hb.mono hHeld.2.size)⟩
          clear hHeld hb
          go_wp2_with fail
          refine hK.out _ _ HS (fun hHeld => ?_)
          clear hK K HS
          try simp only [Act.put, List.setIfInBounds_toArray, List.set_cons_zero, List.set_cons_succ]
          refine wpAnyW_held (i := 29) (by kernel_rfl) (by simp only [List.getElem?_toArray, List.getElem?_cons_succ, List.getElem?_cons_zero]; rfl) (fun K hK => ?_)
          rw [if_pos (by rfl)]
          go_simp
          refine (HU1.out _ _ (HR.out.below hHeld.2)).mono ?_
          rintro _ w9 ⟨rfl, hb⟩
          have HS : (fun V => Bx V g6 27 #[.int .u32 (c2.toNat : Int), .slice A2 l2.length k2] ∧ Below wc.heap.size wc V) _ := ⟨hHeld.1.later hb, hHeld.2.trans (hb.mono hHeld.2.size)⟩
          clear hHeld hb
          go_wp2_with fail
          refine hK.out _ _ HS (fun hHeld => ?_)
          clear hK K HS
          try simp only [Act.put, List.setIfInBounds_toArray, List.set_cons_zero, List.set_cons_succ]
          refine wpAnyW_take (i := 30) (v := ?_) (by simp only [List.getElem?_toArray, List.getElem?_cons_succ, List.getElem?_cons_zero]; rfl) (by kernel_rfl) (by kernel_rfl) (by kernel_rfl) (by kernel_rfl) (by kernel_rfl) (fun _ _ _ h => h) (Or.inl ⟨by rfl, ?_⟩) (by assumption) ?_
          rotate_left 1
          · (intro w' hSw; go_simp; try with_reducible rfl)
          try simp only [Act.put, List.setIfInBounds_toArray, List.set_cons_zero, List.set_cons_succ]
          refine wpAnyW_take (i := 31) (v := ?_) (by simp only [List.getElem?_toArray, List.getElem?_cons_succ, List.getElem?_cons_zero]; rfl) (by kernel_rfl) (by kernel_rfl) (by kernel_rfl) (by kernel_rfl) (by kernel_rfl) (fun _ _ _ h => h) (Or.inl ⟨by rfl, ?_⟩) (by assumption) ?_
          rotate_left 1
          · (intro w' hSw; go_simp; try with_reducible rfl)
          try simp only [Act.put, List.setIfInBounds_toArray, List.set_cons_zero, List.set_cons_succ]
          refine wpAnyW_take (i := 32) (v := ?_) (by simp only [List.getElem?_toArray, List.getElem?_cons_succ, List.getElem?_cons_zero]; rfl) (by kernel_rfl) (by kernel_rfl) (by kernel_rfl) (by kernel_rfl) (by kernel_rfl) (fun _ _ _ h => h) (Or.inl ⟨by rfl, ?_⟩) (by assumption) ?_
          rotate_left 1
          · (intro w' hSw; go_simp; try with_reducible rfl)
          try simp only [Act.put, List.setIfInBounds_toArray, List.set_cons_zero, List.set_cons_succ]
          have HQ9 := Lib.hid hHeld.1
          have HB9 := Lib.hid hHeld.2
          clear hHeld
          refine wpAnyW_done (by kernel_rfl) ?_ _
          refine NoPanic.normal ?_
          go_wp2_with fail
          go_roundw
          case rel => exact ⟨j + 1, l2, c2, all2, A2, k2, by omega, by go_num, by rw [HNH.out.1], by rw [HNH.out.2], rfl, Lib.hid ⟨HPL.out, HQ9.out, HR.out.below HB9.out, HB.out.trans (HB9.out.mono HB.out.size), Nat.lt_of_lt_of_le hgs2 HB9.out.size⟩⟩
          case measure => simp [intOf]; omega
      · obtain rfl : j = L := by omega
        go_wp2_with fail
        go_ret
        exact ⟨rfl, HB.out⟩
  · have q60 : (60 : Int) < (acts.length : Int) := by omega
    go_enter Try.func3, Try.ntmps3
    go_wp2_with (go_at_call 4; (with_reducible refine (HSH.out _).mono ?_); rintro e w1 ⟨rfl, hb⟩; replace HB := Lib.hid hb; clear hb)
    go_ret
    exact ⟨rfl, HB.out⟩

set_option maxRecDepth 100000 in
theorem lifted (os : Os) (started : os.Started) (H : Type) (enc : TypeId × Value → H) :
    ReturnsInHanded {} Try.checked os 3 .any (Rows.sentPlaysSpec.pre6 enc Try.prog Try.f3 Rows.sentPlaysRow.domain false) (Rows.sentPlaysSpec.post enc Try.prog Try.f3 false true false false) := by
  refine returnsInHanded_of_change_sized (C := Try.checked) own started (by kernel_rfl) Try.func3
    (ChangeSpec.witness6 (enc := enc) (C := Try.checked) false ⟨#[], #[.int .u32 0, .slice none 0 0], []⟩ 8 (by kernel_rfl) (by kernel_rfl) (by kernel_rfl) (by kernel_rfl)) ?_
  intro W base args ds gs before hval0 hW _ hreach _
  have hval : ∀ (j : Nat) t v, Try.f3.params[j]? = some t → args[j]? = some v → Value.okWide Try.prog W .any base t v := hval0
  obtain ⟨p, q, hA0, _, _, _, _⟩ := id hW
  have hA : DataW.TrodAll enc Try.prog W 0 (fun _ => true) true Try.f3.params.toList args.toList ds p := hA0
  rw [Try.params3] at hA hval
  obtain ⟨v0, vs0, d0, ds0, p0, q0, hargs, rfl, rfl, h0, r0⟩ := trodAll_cons hA
  obtain ⟨v1, vs1, d1, ds1, p1, q1, rfl, rfl, rfl, h1, r1⟩ := trodAll_cons r0
  obtain ⟨rfl, rfl, rfl⟩ := trodAll_nil r1
  obtain rfl : args = #[v0, v1] := by cases args; simp_all
  obtain ⟨a0, rfl, rfl, rfl, w0⟩ := open_int Try.underlying22 (hval 0 22 v0 rfl rfl) h0
  have b0 := bounds_u32 w0
  obtain ⟨n0, rfl⟩ := u32_num (n := a0) (by omega) (by omega)
  obtain ⟨l1, w1, m1⟩ := acts_in (hval 1 23 v1 rfl rfl) h1
  refine (walk n0 l1 v1 m1 W w1).mono fun e W' ⟨he, hg⟩ => ?_
  subst he
  exact ⟨_, rfl, law_post laidOut Try.underlying4 (by kernel_rfl) (by kernel_rfl) rfl hW (by simp [Rows.sentPlaysSpec]) hg⟩

theorem proved : Rows.SentPlaysSaid :=
  OpenClaim.holds_of_wide 3 Try.f3 rfl rfl rfl rfl rfl rfl rfl ⟨rfl, rfl, rfl, rfl, rfl⟩ rfl rfl rfl rfl rfl (by kernel_rfl) Try.func3 (by kernel_rfl)
    (of_decide_eq_true (by kernel_rfl)) (by unfold Func.isWrapper; first | (rw [if_pos (by decide +kernel)]; kernel_rfl) | (rw [if_neg (by decide +kernel)]; exact ⟨rfl, rfl⟩))
    (fun os started H enc _ => lifted os started H enc)
#print axioms proved
end Go.Proofs.Ytpgdofhnpiefjaa.sentPlays
