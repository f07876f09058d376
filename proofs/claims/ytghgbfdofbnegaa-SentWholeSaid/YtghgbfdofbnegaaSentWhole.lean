/-
  All that was sent is told by its last number: all is done, in order, nothing is under way, and the next number is what it was: any first number, any sizes, any time.
-/
import Derived.Test.YtghgbfdofbnegaaLift
import Derived.Test.YtghgbfdofbnegaaArgI
import Derived.Test.YtghgbfdofbnegaaSz
import Derived.Deep.Cut
namespace Go.Proofs.Ytghgbfdofbnegaa.sentWhole
open Go.ChangeShapes Go.WideShapes Go.ChangeAt Go.RowKit
set_option linter.unusedVariables false
set_option linter.unusedSimpArgs false
set_option maxRecDepth 100000

/-- Three may come up next. -/
theorem wpAnyW_three {P : Program} {ops : Array Oper} {Q : Exit → Act → World → Prop} {md : Region.Mode} {S : World → Prop} {W : List Nat} {i i2 i3 : Nat} {o o2 o3 : Oper} {fuel : Nat} {listed : Array Bool} {a : Act} {w : World} (hr : Region.ready md ops listed = [i, i2, i3]) (ho : ops[i]? = some o) (ho2 : ops[i2]? = some o2) (ho3 : ops[i3]? = some o3)
    (h : ∀ K' : Act → World → Prop, Shut (∀ a w, S w → (S w → wpAnyW P md ops Q S W fuel (listed.setIfInBounds i true) a w) → K' a w) → if Region.wanted o (yielded ops a.tmps) = true then Oper.wp P o a w K' Q else K' (a.put o.dst undef) w)
    (h2 : ∀ K' : Act → World → Prop, Shut (∀ a w, S w → (S w → wpAnyW P md ops Q S W fuel (listed.setIfInBounds i2 true) a w) → K' a w) → if Region.wanted o2 (yielded ops a.tmps) = true then Oper.wp P o2 a w K' Q else K' (a.put o2.dst undef) w)
    (h3 : ∀ K' : Act → World → Prop, Shut (∀ a w, S w → (S w → wpAnyW P md ops Q S W fuel (listed.setIfInBounds i3 true) a w) → K' a w) → if Region.wanted o3 (yielded ops a.tmps) = true then Oper.wp P o3 a w K' Q else K' (a.put o3.dst undef) w) :
    wpAnyW P md ops Q S W (fuel + 1) listed a w :=
  ⟨fun h0 => (by rw [hr] at h0; cases h0), fun j hj => by
    rw [hr] at hj
    rcases List.mem_cons.1 hj with rfl | hj
    · exact wpOp_step ho (fun K' hK => h K' (fun a w hS hW => hK a w ⟨fun _ => hS, hW hS⟩))
    · rcases List.mem_cons.1 hj with rfl | hj
      · exact wpOp_step ho2 (fun K' hK => h2 K' (fun a w hS hW => hK a w ⟨fun _ => hS, hW hS⟩))
      · obtain rfl := List.mem_singleton.1 hj
        exact wpOp_step ho3 (fun K' hK => h3 K' (fun a w hS hW => hK a w ⟨fun _ => hS, hW hS⟩))⟩
theorem rowP_empty {w w' : World} {v : Value} (h : RowP w v []) : RowP w' v [] := by
  obtain ⟨A, cap, rfl, h1, h2, _⟩ := h
  exact ⟨A, cap, rfl, h1, h2, fun h => absurd h (by simp)⟩
/-- Where the law's loop stands. -/
def WhS (w : World) (c : UInt32) (now : Int) (g8 j : Nat) (all : Int) (wr : World) : Prop := ∃ l A k, WhI c now j all l ∧ Bx wr g8 27 #[.int .u32 (c.toNat : Int), .slice A j k] ∧ RowP wr (.slice A j k) l ∧ Below w.heap.size w wr ∧ g8 < wr.heap.size
set_option maxHeartbeats 64000000 in
theorem walk (first : UInt32) (zs : List Int) (V : Value) (now : Int) (hfit : ∀ n ∈ zs, -9223372036854775808 ≤ n ∧ n ≤ 9223372036854775807) (w : World) (h : RowE encI w V zs) : Calls Try.prog 6 #[.int .u32 (first.toNat : Int), V, .int .i64 now] w fun e w' => e = .returned (.bool true) ∧ Below w.heap.size w w' := by
  have HSH := Lib.hid shown_any
  have HNW := Lib.hid (fun W => new_any first W)
  obtain ⟨Ai, ki, rfl, hk1, hk2, hcells⟩ := id h
  have HC := Lib.hid hcells
  have hmI : (zs.length : Int) ≤ 9223372036854775807 := by unfold maxLen at hk2; omega
  have HB := Lib.hid (Below.refl w.heap.size w)
  clear h hcells hk1 hk2
  by_cases h64 : zs.length ≤ 64
  · have q64 : ¬ (64 : Int) < (zs.length : Int) := by omega
    have HFN := Lib.hid (fun (l : List Pc) (j : Nat) (h : l.length = j) (hj : j < 1000) => first_next first h hj)
    have hf0 := first.toNat_lt
    generalize first - 1 = c at *
    generalize first.toNat = f0 at *
    have HFT := Lib.hid hfit
    have HPU := Lib.hid (fun l n (h1 : 1 ≤ n) (h2 : n ≤ 1500) (hl : l.length < 64) V W h => put_any c l n 0 now h1 h2 hl V W h)
    have HNX1 := Lib.hid (fun c A n k hn W => next_any c A n k hn W)
    clear hfit
    go_enter Try.func6, Try.ntmps6
    go_wp2_with (go_at_call 7; (with_reducible refine (HSH.out _).mono ?_); rintro e w1 ⟨rfl, hb⟩; replace HB := Lib.hid hb; clear hb)
    refine (HNW.out _).mono ?_
    rintro e w2 ⟨rfl, hb2⟩
    replace HB := Lib.hid (HB.out.trans (hb2.mono HB.out.size))
    have hwg0 := HB.out.size
    clear hb2 HNW
    obtain ⟨W3, hW3, HQ, HB3, hs3⟩ := one_open w2 27 #[.int .u32 0, .slice none 0 0]
    obtain ⟨g8, hg8⟩ : ∃ g, w2.heap.size = g := ⟨_, rfl⟩
    rw [hg8] at HQ
    go_wp2_with ((with_reducible refine gate9 ?_); refine stB (ty := 27) #[.int .u32 (c.toNat : Int), .slice none 0 0] rfl rfl rfl rfl HQ.out infoS rfl (cellsS_one _ _ _ _) ?_; intro w4 ht hg; replace HB3 := Lib.hid (below_of_grown1 HB3.out hg HB3.out.size (Nat.le_of_eq hg8)); replace HQ := Lib.hid ht; replace HB := Lib.hid (HB.out.trans (HB3.out.mono HB.out.size)); clear ht hg HB3)
    clear hW3 hs3
    have hwg : w.heap.size ≤ g8 := by omega
    have HWS : Hid (WhS w c now g8 0 0 w4) := Lib.hid ⟨[], none, 0, WhI.start c now, HQ.out, RowP.nil _, HB.out, HQ.out.lt⟩
    clear HQ HB
    go_loopw [9, 10] (fun v i wr => ∃ (j : Nat) (all : Int), j ≤ zs.length ∧ v = .int .i64 all ∧ i = .int .i64 j ∧ Hid (WhS w c now g8 j all wr))
      (fun _ i _ => zs.length - (intOf i).toNat)
    case atStart => exact ⟨0, 0, Nat.zero_le _, rfl, rfl, HWS⟩
    case round =>
      clear HWS
      obtain ⟨j, all, hj, rfl, rfl, HRR⟩ := hrel
      obtain ⟨l, A, k, hwi, hbx, hrow, hbl, hgs⟩ := HRR.out
      have HQ := Lib.hid hbx
      have HRS := Lib.hid hrow
      have HB := Lib.hid hbl
      have HWI := Lib.hid hwi
      have hfi := hwi.fit
      have hll := hwi.len
      clear hbx hrow hbl hwi HRR
      by_cases hlt : j < zs.length
      · obtain ⟨b, off, rfl, hb, hc⟩ := HC.out (by omega)
        have e1 : wr.cell? ⟨b, off + j, none⟩ = some (.int .i64 zs[j]!) := (HB.out.cell (p := ⟨b, off + j, none⟩) hb).trans (hc j hlt)
        have hfz := HFT.out zs[j]! (by rw [getElem!_pos zs j hlt]; exact List.getElem_mem hlt)
        clear hc
        generalize zs[j]! = z at *
        have HPK := Lib.hid (fun W => pick_any z 1500 hfz (by omega) (by omega) W)
        have hpk := pickI_le (c := z) (n := 1500) (by omega)
        generalize pickI z 1500 = p at *
        obtain ⟨n, hn⟩ : ∃ n, 1 + p = n := ⟨_, rfl⟩
        have s1 : IntKind.i64.wrap (1 + p) = n := by rw [IntKind.wrap_i64]; omega
        have h1 : 1 ≤ n := by omega
        have h2 : n ≤ 1500 := by omega
        have HWI2 := Lib.hid (HWI.out.put (by omega) h1 h2)
        have HP := Lib.hid (fun V W h => HPU.out l n h1 h2 (by omega) V W h)
        have s5 := HFN.out l j hll (by omega)
        rw [hll] at HP
        generalize (nextL c l).toNat = nx at *
        obtain ⟨all2, hal⟩ : ∃ a, all + n = a := ⟨_, rfl⟩
        rw [hal] at HWI2
        have s6 : IntKind.i64.wrap (all + n) = all2 := by rw [IntKind.wrap_i64]; omega
        generalize l ++ [newPc (nextL c l) n 0 now] = l2 at *
        have c5 : (j : Int) % 4294967296 = (j : Int) := by omega
        have p0 : (0 : Int) ≤ (j : Int) := by omega
        have p1 : (j : Int) < (zs.length : Int) := by omega
        clear hpk HFN HPU hll
        go_wp2_with (first
          | (go_at_call 9; (with_reducible refine (HPK.out _).mono ?_); rintro e w5 ⟨rfl, rfl⟩)
          | ((with_reducible refine gate9 ?_); refine ldB (ty := 27) rfl rfl rfl HQ.out Try.underlying27 rfl infoS ?_))
        refine (HP.out _ _ HRS.out).mono ?_
        rintro e w6 ⟨A5, k5, rfl, hr, hf, hb⟩
        have HR5 := Lib.hid hr
        have HF5 := Lib.hid hf
        have hs6 := hb.size
        replace HQ := Lib.hid (HQ.out.later hb)
        replace HB := Lib.hid (HB.out.trans (hb.mono HB.out.size))
        clear hr hf hb HP HRS
        obtain ⟨W7, hW7, HT, HB7, hs7⟩ := one_open w6 27 #[.int .u32 0, .slice none 0 0]
        obtain ⟨g12, hg12⟩ : ∃ g, w6.heap.size = g := ⟨_, rfl⟩
        rw [hg12] at HT
        go_wp2_with (first
          | ((with_reducible refine gate9 ?_); refine stB (ty := 27) #[.int .u32 (c.toNat : Int), .slice A5 (j + 1) k5] rfl rfl rfl rfl HT.out infoS rfl (cellsS_one _ _ _ _) ?_; intro w8 ht hg; replace HB7 := Lib.hid (below_of_grown1 HB7.out hg HB7.out.size (Nat.le_of_eq hg12)); replace HT := Lib.hid ht; replace HQ := Lib.hid (HQ.out.later HB7.out); replace HR5 := Lib.hid (HR5.out.below HB7.out); replace HB := Lib.hid (HB.out.trans (HB7.out.mono HB.out.size)); have hs8 := HB7.out.size; clear ht hg HB7)
          | ((with_reducible refine gate9 ?_); refine ldB (ty := 27) rfl rfl rfl HT.out Try.underlying27 rfl infoS ?_)
          | ((with_reducible refine gate9 ?_); refine stB (ty := 27) #[.int .u32 (c.toNat : Int), .slice A5 (j + 1) k5] rfl rfl rfl rfl HQ.out infoS rfl (cellsS_one _ _ _ _) ?_; intro w9 ht hg; replace HR5 := Lib.hid (HR5.out.stays HF5.out hg (by omega)); replace HB := Lib.hid (below_of_grown1 HB.out hg HB.out.size (by omega)); have hs9 := hg.size; have HG9 := Lib.hid ht; clear ht hg))
        go_roundw
        case rel => exact ⟨j + 1, all2, by omega, rfl, by go_num, Lib.hid ⟨l2, A5, k5, HWI2.out, HG9.out, HR5.out, HB.out, by omega⟩⟩
        case measure => simp [intOf]; omega
      · have hjE : j = zs.length := by omega
        subst hjE
        clear hlt hj
        generalize zs.length = n at *
        have hn64 : n ≤ 64 := h64
        obtain ⟨cn, hcn⟩ : ∃ x, c + UInt32.ofNat n = x := ⟨_, rfl⟩
        have HAK := Lib.hid (fun V W h => ack_whole HWI.out V W h)
        have HAK2 := Lib.hid (fun V W h => ack_none cn now V W h)
        have HUN := Lib.hid (fun V W h => under_any cn [] (-1) (by simp) (by simp) V W h)
        have HNX := Lib.hid (fun A k W => HNX1.out c A n k (by omega) W)
        have s7 := next_less c n
        obtain ⟨nx, hnx⟩ : ∃ x, (c + UInt32.ofNat n + 1).toNat = x := ⟨_, rfl⟩
        have hn0 : (cn + UInt32.ofNat 0 + 1).toNat = nx := by rw [← hnx, ← hcn, show UInt32.ofNat 0 = (0 : UInt32) from rfl, UInt32.add_zero]
        have HNX0 := Lib.hid (fun A k W => HNX1.out cn A 0 k (by omega) W)
        rw [hn0] at HNX0
        rw [hnx] at HNX s7
        rw [hcn] at HAK s7
        have s7' : IntKind.u32.wrap ((nx : Int) - 1) = (cn.toNat : Int) := by rw [← s7]; rfl
        have hnI : (n : Int) ≤ 64 := by omega
        clear HFN HPU HNX1 hcn hnx hn0
        go_wp2_with fail
        go_cut [15, 16, 17] from 21 (fun v15 v16 v17 wx => ∃ (g15 g16 : Nat) (A5 : Option Addr) (k5 : Nat) (A6 : Option Addr) (k6 : Nat) (A7 : Option Addr) (k7 : Nat) (A8 : Option Addr) (k8 : Nat) (m5 f5 : Bool), v15 = .pointer (some ⟨g15, 0, none⟩) ∧ v16 = .pointer (some ⟨g16, 0, none⟩) ∧ v17 = .bool true ∧ Hid (Bx wx g15 27 #[.int .u32 (cn.toNat : Int), .slice A5 0 k5] ∧ Bx wx g16 42 #[.int .i64 all, .int .i64 all, .bool m5, .bool f5, .slice A6 n k6, .slice A7 0 k7, .slice A8 n k8] ∧ Bx wx g8 27 #[.int .u32 (c.toNat : Int), .slice A n k] ∧ (∀ W, RowP W (.slice A5 0 k5) []) ∧ Below wr.heap.size wr wx))
        case first =>
            have HS : (fun V => Bx V g8 27 #[.int .u32 (c.toNat : Int), .slice A n k] ∧ Bx V g8 27 #[.int .u32 (c.toNat : Int), .slice A n k] ∧ Below wr.heap.size wr V) _ := ⟨HQ.out.drew, HQ.out.drew, below_drawn (Below.refl _ _)⟩
            refine wp_region_noPanic ?_
            refine wp_region_waits (S := (fun V => Bx V g8 27 #[.int .u32 (c.toNat : Int), .slice A n k] ∧ Bx V g8 27 #[.int .u32 (c.toNat : Int), .slice A n k] ∧ Below wr.heap.size wr V)) [14] (by kernel_rfl) HS (fun hHeld => ?_)
            clear HS
            refine wpAnyW_take (i := 0) (v := _) (by simp only [List.getElem?_toArray, List.getElem?_cons_zero]; rfl) (by kernel_rfl) (by kernel_rfl) (by kernel_rfl) (by kernel_rfl) (by kernel_rfl) (fun _ _ _ h => h) (yB (ty := 27) (by rfl) rfl rfl (fun V h => h.1) Try.underlying27 rfl infoS) (by assumption) ?_
            try simp only [Act.put, List.setIfInBounds_toArray, List.set_cons_zero, List.set_cons_succ]
            refine wpAnyW_take (i := 1) (v := _) (by simp only [List.getElem?_toArray, List.getElem?_cons_succ, List.getElem?_cons_zero]; rfl) (by kernel_rfl) (by kernel_rfl) (by kernel_rfl) (by kernel_rfl) (by kernel_rfl) (fun _ _ _ h => h) (yB (ty := 27) (by rfl) rfl rfl (fun V h => h.1) Try.underlying27 rfl infoS) (by assumption) ?_
            try simp only [Act.put, List.setIfInBounds_toArray, List.set_cons_zero, List.set_cons_succ]
            refine wpAnyW_take (i := 4) (v := ?_) (by simp only [List.getElem?_toArray, List.getElem?_cons_succ, List.getElem?_cons_zero]; rfl) (by kernel_rfl) (by kernel_rfl) (by kernel_rfl) (by kernel_rfl) (by kernel_rfl) (fun _ _ _ h => h) (Or.inl ⟨by rfl, ?_⟩) (by assumption) ?_
            rotate_left 1
            · (intro w' hSw; go_simp; try with_reducible rfl)
            try simp only [Act.put, List.setIfInBounds_toArray, List.set_cons_zero, List.set_cons_succ]
            refine wpAnyW_three (i := 2) (i2 := 10) (i3 := 11) (by kernel_rfl) (by simp only [List.getElem?_toArray, List.getElem?_cons_succ, List.getElem?_cons_zero]; rfl) (by simp only [List.getElem?_toArray, List.getElem?_cons_succ, List.getElem?_cons_zero]; rfl) (by simp only [List.getElem?_toArray, List.getElem?_cons_succ, List.getElem?_cons_zero]; rfl) (fun K hK => ?_) (fun K hK => ?_) (fun K hK => ?_)
            · as_aux_lemma =>
                rw [if_pos (by rfl)]
                go_simp
                refine (HNX.out A k _).mono ?_
                rintro _ up0 ⟨rfl, hb⟩
                have HS : (fun V => Bx V g8 27 #[.int .u32 (c.toNat : Int), .slice A n k] ∧ Bx V g8 27 #[.int .u32 (c.toNat : Int), .slice A n k] ∧ Below wr.heap.size wr V) _ := ⟨hHeld.1.later hb, hHeld.2.1.later hb, hHeld.2.2.trans (hb.mono hHeld.2.2.size)⟩
                clear hHeld hb
                go_wp2_with fail
                refine hK.out _ _ HS (fun hHeld => ?_)
                clear hK K HS
                try simp only [Act.put, List.setIfInBounds_toArray, List.set_cons_zero, List.set_cons_succ]
                refine wpAnyW_take (i := 3) (v := ?_) (by simp only [List.getElem?_toArray, List.getElem?_cons_succ, List.getElem?_cons_zero]; rfl) (by kernel_rfl) (by kernel_rfl) (by kernel_rfl) (by kernel_rfl) (by kernel_rfl) (fun _ _ _ h => h) (Or.inl ⟨by rfl, ?_⟩) (by assumption) ?_
                rotate_left 1
                · (intro w' hSw; go_simp; try with_reducible rfl)
                try simp only [Act.put, List.setIfInBounds_toArray, List.set_cons_zero, List.set_cons_succ]
                refine wpAnyW_three (i := 5) (i2 := 10) (i3 := 11) (by kernel_rfl) (by simp only [List.getElem?_toArray, List.getElem?_cons_succ, List.getElem?_cons_zero]; rfl) (by simp only [List.getElem?_toArray, List.getElem?_cons_succ, List.getElem?_cons_zero]; rfl) (by simp only [List.getElem?_toArray, List.getElem?_cons_succ, List.getElem?_cons_zero]; rfl) (fun K hK => ?_) (fun K hK => ?_) (fun K hK => ?_)
                · as_aux_lemma =>
                    rw [if_pos (by rfl)]
                    go_simp
                    refine (HAK.out _ _ (HRS.out.below hHeld.2.2)).mono ?_
                    rintro _ up1 ⟨A5, k5, A6, k6, A7, k7, A8, k8, f5, m5, rfl, hr5, hb⟩
                    have HS : (fun V => Bx V g8 27 #[.int .u32 (c.toNat : Int), .slice A n k] ∧ Bx V g8 27 #[.int .u32 (c.toNat : Int), .slice A n k] ∧ Below wr.heap.size wr V) _ := ⟨hHeld.1.later hb, hHeld.2.1.later hb, hHeld.2.2.trans (hb.mono hHeld.2.2.size)⟩
                    have HR5 : Hid (∀ W, RowP W (.slice A5 0 k5) []) := Lib.hid (fun W => rowP_empty hr5)
                    clear hr5
                    clear hHeld hb
                    go_wp2_with fail
                    refine hK.out _ _ HS (fun hHeld => ?_)
                    clear hK K HS
                    try simp only [Act.put, List.setIfInBounds_toArray, List.set_cons_zero, List.set_cons_succ]
                    refine wpAnyW_take (i := 6) (v := ?_) (by simp only [List.getElem?_toArray, List.getElem?_cons_succ, List.getElem?_cons_zero]; rfl) (by kernel_rfl) (by kernel_rfl) (by kernel_rfl) (by kernel_rfl) (by kernel_rfl) (fun _ _ _ h => h) (Or.inl ⟨by rfl, ?_⟩) (by assumption) ?_
                    rotate_left 1
                    · (intro w' hSw; go_simp; try with_reducible rfl)
                    try simp only [Act.put, List.setIfInBounds_toArray, List.set_cons_zero, List.set_cons_succ]
                    refine wpAnyW_take (i := 7) (v := ?_) (by simp only [List.getElem?_toArray, List.getElem?_cons_succ, List.getElem?_cons_zero]; rfl) (by kernel_rfl) (by kernel_rfl) (by kernel_rfl) (by kernel_rfl) (by kernel_rfl) (fun _ _ _ h => h) (Or.inl ⟨by rfl, ?_⟩) (by assumption) ?_
                    rotate_left 1
                    · (intro w' hSw; go_simp; try with_reducible rfl)
                    try simp only [Act.put, List.setIfInBounds_toArray, List.set_cons_zero, List.set_cons_succ]
                    refine wpAnyW_take (i := 8) (v := ?_) (by simp only [List.getElem?_toArray, List.getElem?_cons_succ, List.getElem?_cons_zero]; rfl) (by kernel_rfl) (by kernel_rfl) (by kernel_rfl) (by kernel_rfl) (by kernel_rfl) (fun _ _ _ h => h) (Or.inl ⟨by rfl, ?_⟩) (by assumption) ?_
                    rotate_left 1
                    · (intro w' hSw; go_simp; try with_reducible rfl)
                    try simp only [Act.put, List.setIfInBounds_toArray, List.set_cons_zero, List.set_cons_succ]
                    refine wpAnyW_take (i := 9) (v := ?_) (by simp only [List.getElem?_toArray, List.getElem?_cons_succ, List.getElem?_cons_zero]; rfl) (by kernel_rfl) (by kernel_rfl) (by kernel_rfl) (by kernel_rfl) (by kernel_rfl) (fun _ _ _ h => h) (Or.inl ⟨by rfl, ?_⟩) (by assumption) ?_
                    rotate_left 1
                    · (intro w' hSw; go_simp; try with_reducible rfl)
                    try simp only [Act.put, List.setIfInBounds_toArray, List.set_cons_zero, List.set_cons_succ]
                    refine wpAnyW_two (i := 10) (i2 := 11) (by kernel_rfl) (by simp only [List.getElem?_toArray, List.getElem?_cons_succ, List.getElem?_cons_zero]; rfl) (by simp only [List.getElem?_toArray, List.getElem?_cons_succ, List.getElem?_cons_zero]; rfl) (fun K hK => ?_) (fun K hK => ?_)
                    · rw [if_pos (by rfl)]
                      obtain ⟨vp2, hvp2, HXpa, HBvp2, hsvp2⟩ := one_open up1 27 #[.int .u32 0, .slice none 0 0]
                      obtain ⟨gpa, hgpa⟩ : ∃ g, up1.heap.size = g := ⟨_, rfl⟩
                      rw [hgpa] at HXpa hsvp2
                      have HS : (fun V => Bx V g8 27 #[.int .u32 (c.toNat : Int), .slice A n k] ∧ Bx V g8 27 #[.int .u32 (c.toNat : Int), .slice A n k] ∧ Below wr.heap.size wr V) _ := ⟨hHeld.1.later HBvp2.out, hHeld.2.1.later HBvp2.out, hHeld.2.2.trans (HBvp2.out.mono hHeld.2.2.size)⟩
                      have hzgpa : wr.heap.size ≤ gpa := by have := hHeld.2.2.size; omega
                      clear hHeld HBvp2 hsvp2
                      go_simp
                      refine hK.out _ _ HS (fun hHeld => ?_)
                      clear hK K HS
                      try simp only [Act.put, List.setIfInBounds_toArray, List.set_cons_zero, List.set_cons_succ]
                      refine wpAnyW_held (i := 11) (by kernel_rfl) (by simp only [List.getElem?_toArray, List.getElem?_cons_succ, List.getElem?_cons_zero]; rfl) (fun K hK => ?_)
                      rw [if_pos (by rfl)]
                      obtain ⟨vp3, hvp3, HXpb, HBvp3, hsvp3⟩ := one_open vp2 42 #[.int .i64 0, .int .i64 0, .bool false, .bool false, .slice none 0 0, .slice none 0 0, .slice none 0 0]
                      obtain ⟨gpb, hgpb⟩ : ∃ g, vp2.heap.size = g := ⟨_, rfl⟩
                      rw [hgpb] at HXpb hsvp3
                      have HS : (fun V => Bx V g8 27 #[.int .u32 (c.toNat : Int), .slice A n k] ∧ Bx V g8 27 #[.int .u32 (c.toNat : Int), .slice A n k] ∧ Below wr.heap.size wr V) _ := ⟨hHeld.1.later HBvp3.out, hHeld.2.1.later HBvp3.out, hHeld.2.2.trans (HBvp3.out.mono hHeld.2.2.size)⟩
                      have hzgpb : wr.heap.size ≤ gpb := by have := hHeld.2.2.size; omega
                      have hnep : gpa < gpb := by have := HXpa.out.lt; omega
                      replace HXpa := Lib.hid (HXpa.out.later HBvp3.out)
                      clear hHeld HBvp3 hsvp3
                      go_simp
                      refine hK.out _ _ HS (fun hHeld => ?_)
                      clear hK K HS
                      try simp only [Act.put, List.setIfInBounds_toArray, List.set_cons_zero, List.set_cons_succ]
                      refine wpAnyW_held (i := 12) (by kernel_rfl) (by simp only [List.getElem?_toArray, List.getElem?_cons_succ, List.getElem?_cons_zero]; rfl) (fun K hK => ?_)
                      rw [if_pos (by rfl)]
                      refine wpB (ty := 27) #[.int .u32 (cn.toNat : Int), .slice A5 0 k5] rfl rfl rfl HXpa.out infoS rfl (cellsS_one _ _ _ _) ?_
                      intro y1 ht hg
                      have HS : (fun V => Bx V g8 27 #[.int .u32 (c.toNat : Int), .slice A n k] ∧ Bx V g8 27 #[.int .u32 (c.toNat : Int), .slice A n k] ∧ Below wr.heap.size wr V) _ := ⟨hHeld.1.kept hg (by omega), hHeld.2.1.kept hg (by omega), below_of_grown1 hHeld.2.2 hg hHeld.2.2.size hzgpa⟩
                      replace HXpb := Lib.hid (HXpb.out.kept hg (by omega))
                      replace HXpa := Lib.hid ht
                      clear ht hg hHeld
                      refine hK.out _ _ HS (fun hHeld => ?_)
                      clear hK K HS
                      try simp only [Act.put, List.setIfInBounds_toArray, List.set_cons_zero, List.set_cons_succ]
                      refine wpAnyW_held (i := 13) (by kernel_rfl) (by simp only [List.getElem?_toArray, List.getElem?_cons_succ, List.getElem?_cons_zero]; rfl) (fun K hK => ?_)
                      rw [if_pos (by rfl)]
                      refine wpB (ty := 42) #[.int .i64 all, .int .i64 all, .bool m5, .bool f5, .slice A6 n k6, .slice A7 0 k7, .slice A8 n k8] rfl rfl rfl HXpb.out infoR rfl (cellsR_one _ _ _ _ _ _ _ _ _ _ _ _ _) ?_
                      intro y2 ht hg
                      have HS : (fun V => Bx V g8 27 #[.int .u32 (c.toNat : Int), .slice A n k] ∧ Bx V g8 27 #[.int .u32 (c.toNat : Int), .slice A n k] ∧ Below wr.heap.size wr V) _ := ⟨hHeld.1.kept hg (by omega), hHeld.2.1.kept hg (by omega), below_of_grown1 hHeld.2.2 hg hHeld.2.2.size hzgpb⟩
                      replace HXpa := Lib.hid (HXpa.out.kept hg (by omega))
                      replace HXpb := Lib.hid ht
                      clear ht hg hHeld
                      refine hK.out _ _ HS (fun hHeld => ?_)
                      clear hK K HS
                      try simp only [Act.put, List.setIfInBounds_toArray, List.set_cons_zero, List.set_cons_succ]
                      refine wpAnyW_freed (i := 14) (by kernel_rfl) (by kernel_rfl) (by simp only [List.getElem?_toArray, List.getElem?_cons_succ, List.getElem?_cons_zero]; rfl) (fun K hK => ?_)
                      rw [if_pos (by rfl)]
                      go_simp
                      have HE := Lib.hid hHeld
                      refine hK.out _ _ ?_
                      clear hK K hHeld
                      try simp only [Act.put, List.setIfInBounds_toArray, List.set_cons_zero, List.set_cons_succ]
                      refine wpAnyW_done (by kernel_rfl) ?_ _
                      refine NoPanic.normal ?_
                      go_wp2_with fail
                      go_meet
                      exact ⟨gpa, gpb, A5, k5, A6, k6, A7, k7, A8, k8, m5, f5, rfl, rfl, rfl, Lib.hid ⟨HXpa.out, HXpb.out, HE.out.1, HR5.out, HE.out.2.2⟩⟩
                    · rw [if_pos (by rfl)]
                      obtain ⟨vp2, hvp2, HXpb, HBvp2, hsvp2⟩ := one_open up1 42 #[.int .i64 0, .int .i64 0, .bool false, .bool false, .slice none 0 0, .slice none 0 0, .slice none 0 0]
                      obtain ⟨gpb, hgpb⟩ : ∃ g, up1.heap.size = g := ⟨_, rfl⟩
                      rw [hgpb] at HXpb hsvp2
                      have HS : (fun V => Bx V g8 27 #[.int .u32 (c.toNat : Int), .slice A n k] ∧ Bx V g8 27 #[.int .u32 (c.toNat : Int), .slice A n k] ∧ Below wr.heap.size wr V) _ := ⟨hHeld.1.later HBvp2.out, hHeld.2.1.later HBvp2.out, hHeld.2.2.trans (HBvp2.out.mono hHeld.2.2.size)⟩
                      have hzgpb : wr.heap.size ≤ gpb := by have := hHeld.2.2.size; omega
                      clear hHeld HBvp2 hsvp2
                      go_simp
                      refine hK.out _ _ HS (fun hHeld => ?_)
                      clear hK K HS
                      try simp only [Act.put, List.setIfInBounds_toArray, List.set_cons_zero, List.set_cons_succ]
                      refine wpAnyW_held (i := 10) (by kernel_rfl) (by simp only [List.getElem?_toArray, List.getElem?_cons_succ, List.getElem?_cons_zero]; rfl) (fun K hK => ?_)
                      rw [if_pos (by rfl)]
                      obtain ⟨vp3, hvp3, HXpa, HBvp3, hsvp3⟩ := one_open vp2 27 #[.int .u32 0, .slice none 0 0]
                      obtain ⟨gpa, hgpa⟩ : ∃ g, vp2.heap.size = g := ⟨_, rfl⟩
                      rw [hgpa] at HXpa hsvp3
                      have HS : (fun V => Bx V g8 27 #[.int .u32 (c.toNat : Int), .slice A n k] ∧ Bx V g8 27 #[.int .u32 (c.toNat : Int), .slice A n k] ∧ Below wr.heap.size wr V) _ := ⟨hHeld.1.later HBvp3.out, hHeld.2.1.later HBvp3.out, hHeld.2.2.trans (HBvp3.out.mono hHeld.2.2.size)⟩
                      have hzgpa : wr.heap.size ≤ gpa := by have := hHeld.2.2.size; omega
                      have hnep : gpb < gpa := by have := HXpb.out.lt; omega
                      replace HXpb := Lib.hid (HXpb.out.later HBvp3.out)
                      clear hHeld HBvp3 hsvp3
                      go_simp
                      refine hK.out _ _ HS (fun hHeld => ?_)
                      clear hK K HS
                      try simp only [Act.put, List.setIfInBounds_toArray, List.set_cons_zero, List.set_cons_succ]
                      refine wpAnyW_held (i := 12) (by kernel_rfl) (by simp only [List.getElem?_toArray, List.getElem?_cons_succ, List.getElem?_cons_zero]; rfl) (fun K hK => ?_)
                      rw [if_pos (by rfl)]
                      refine wpB (ty := 27) #[.int .u32 (cn.toNat : Int), .slice A5 0 k5] rfl rfl rfl HXpa.out infoS rfl (cellsS_one _ _ _ _) ?_
                      intro y1 ht hg
                      have HS : (fun V => Bx V g8 27 #[.int .u32 (c.toNat : Int), .slice A n k] ∧ Bx V g8 27 #[.int .u32 (c.toNat : Int), .slice A n k] ∧ Below wr.heap.size wr V) _ := ⟨hHeld.1.kept hg (by omega), hHeld.2.1.kept hg (by omega), below_of_grown1 hHeld.2.2 hg hHeld.2.2.size hzgpa⟩
                      replace HXpb := Lib.hid (HXpb.out.kept hg (by omega))
                      replace HXpa := Lib.hid ht
                      clear ht hg hHeld
                      refine hK.out _ _ HS (fun hHeld => ?_)
                      clear hK K HS
                      try simp only [Act.put, List.setIfInBounds_toArray, List.set_cons_zero, List.set_cons_succ]
                      refine wpAnyW_held (i := 13) (by kernel_rfl) (by simp only [List.getElem?_toArray, List.getElem?_cons_succ, List.getElem?_cons_zero]; rfl) (fun K hK => ?_)
                      rw [if_pos (by rfl)]
                      refine wpB (ty := 42) #[.int .i64 all, .int .i64 all, .bool m5, .bool f5, .slice A6 n k6, .slice A7 0 k7, .slice A8 n k8] rfl rfl rfl HXpb.out infoR rfl (cellsR_one _ _ _ _ _ _ _ _ _ _ _ _ _) ?_
                      intro y2 ht hg
                      have HS : (fun V => Bx V g8 27 #[.int .u32 (c.toNat : Int), .slice A n k] ∧ Bx V g8 27 #[.int .u32 (c.toNat : Int), .slice A n k] ∧ Below wr.heap.size wr V) _ := ⟨hHeld.1.kept hg (by omega), hHeld.2.1.kept hg (by omega), below_of_grown1 hHeld.2.2 hg hHeld.2.2.size hzgpb⟩
                      replace HXpa := Lib.hid (HXpa.out.kept hg (by omega))
                      replace HXpb := Lib.hid ht
                      clear ht hg hHeld
                      refine hK.out _ _ HS (fun hHeld => ?_)
                      clear hK K HS
                      try simp only [Act.put, List.setIfInBounds_toArray, List.set_cons_zero, List.set_cons_succ]
                      refine wpAnyW_freed (i := 14) (by kernel_rfl) (by kernel_rfl) (by simp only [List.getElem?_toArray, List.getElem?_cons_succ, List.getElem?_cons_zero]; rfl) (fun K hK => ?_)
                      rw [if_pos (by rfl)]
                      go_simp
                      have HE := Lib.hid hHeld
                      refine hK.out _ _ ?_
                      clear hK K hHeld
                      try simp only [Act.put, List.setIfInBounds_toArray, List.set_cons_zero, List.set_cons_succ]
                      refine wpAnyW_done (by kernel_rfl) ?_ _
                      refine NoPanic.normal ?_
                      go_wp2_with fail
                      go_meet
                      exact ⟨gpa, gpb, A5, k5, A6, k6, A7, k7, A8, k8, m5, f5, rfl, rfl, rfl, Lib.hid ⟨HXpa.out, HXpb.out, HE.out.1, HR5.out, HE.out.2.2⟩⟩
                · as_aux_lemma =>
                    rw [if_pos (by rfl)]
                    obtain ⟨vp1, hvp1, HXpa, HBvp1, hsvp1⟩ := one_open up0 27 #[.int .u32 0, .slice none 0 0]
                    obtain ⟨gpa, hgpa⟩ : ∃ g, up0.heap.size = g := ⟨_, rfl⟩
                    rw [hgpa] at HXpa hsvp1
                    have HS : (fun V => Bx V g8 27 #[.int .u32 (c.toNat : Int), .slice A n k] ∧ Bx V g8 27 #[.int .u32 (c.toNat : Int), .slice A n k] ∧ Below wr.heap.size wr V) _ := ⟨hHeld.1.later HBvp1.out, hHeld.2.1.later HBvp1.out, hHeld.2.2.trans (HBvp1.out.mono hHeld.2.2.size)⟩
                    have hzgpa : wr.heap.size ≤ gpa := by have := hHeld.2.2.size; omega
                    clear hHeld HBvp1 hsvp1
                    go_simp
                    refine hK.out _ _ HS (fun hHeld => ?_)
                    clear hK K HS
                    try simp only [Act.put, List.setIfInBounds_toArray, List.set_cons_zero, List.set_cons_succ]
                    refine wpAnyW_two (i := 5) (i2 := 11) (by kernel_rfl) (by simp only [List.getElem?_toArray, List.getElem?_cons_succ, List.getElem?_cons_zero]; rfl) (by simp only [List.getElem?_toArray, List.getElem?_cons_succ, List.getElem?_cons_zero]; rfl) (fun K hK => ?_) (fun K hK => ?_)
                    · rw [if_pos (by rfl)]
                      go_simp
                      refine (HAK.out _ _ (HRS.out.below hHeld.2.2)).mono ?_
                      rintro _ up2 ⟨A5, k5, A6, k6, A7, k7, A8, k8, f5, m5, rfl, hr5, hb⟩
                      have HS : (fun V => Bx V g8 27 #[.int .u32 (c.toNat : Int), .slice A n k] ∧ Bx V g8 27 #[.int .u32 (c.toNat : Int), .slice A n k] ∧ Below wr.heap.size wr V) _ := ⟨hHeld.1.later hb, hHeld.2.1.later hb, hHeld.2.2.trans (hb.mono hHeld.2.2.size)⟩
                      have HR5 : Hid (∀ W, RowP W (.slice A5 0 k5) []) := Lib.hid (fun W => rowP_empty hr5)
                      clear hr5
                      replace HXpa := Lib.hid (HXpa.out.later hb)
                      clear hHeld hb
                      go_wp2_with fail
                      refine hK.out _ _ HS (fun hHeld => ?_)
                      clear hK K HS
                      try simp only [Act.put, List.setIfInBounds_toArray, List.set_cons_zero, List.set_cons_succ]
                      refine wpAnyW_take (i := 6) (v := ?_) (by simp only [List.getElem?_toArray, List.getElem?_cons_succ, List.getElem?_cons_zero]; rfl) (by kernel_rfl) (by kernel_rfl) (by kernel_rfl) (by kernel_rfl) (by kernel_rfl) (fun _ _ _ h => h) (Or.inl ⟨by rfl, ?_⟩) (by assumption) ?_
                      rotate_left 1
                      · (intro w' hSw; go_simp; try with_reducible rfl)
                      try simp only [Act.put, List.setIfInBounds_toArray, List.set_cons_zero, List.set_cons_succ]
                      refine wpAnyW_take (i := 7) (v := ?_) (by simp only [List.getElem?_toArray, List.getElem?_cons_succ, List.getElem?_cons_zero]; rfl) (by kernel_rfl) (by kernel_rfl) (by kernel_rfl) (by kernel_rfl) (by kernel_rfl) (fun _ _ _ h => h) (Or.inl ⟨by rfl, ?_⟩) (by assumption) ?_
                      rotate_left 1
                      · (intro w' hSw; go_simp; try with_reducible rfl)
                      try simp only [Act.put, List.setIfInBounds_toArray, List.set_cons_zero, List.set_cons_succ]
                      refine wpAnyW_take (i := 8) (v := ?_) (by simp only [List.getElem?_toArray, List.getElem?_cons_succ, List.getElem?_cons_zero]; rfl) (by kernel_rfl) (by kernel_rfl) (by kernel_rfl) (by kernel_rfl) (by kernel_rfl) (fun _ _ _ h => h) (Or.inl ⟨by rfl, ?_⟩) (by assumption) ?_
                      rotate_left 1
                      · (intro w' hSw; go_simp; try with_reducible rfl)
                      try simp only [Act.put, List.setIfInBounds_toArray, List.set_cons_zero, List.set_cons_succ]
                      refine wpAnyW_take (i := 9) (v := ?_) (by simp only [List.getElem?_toArray, List.getElem?_cons_succ, List.getElem?_cons_zero]; rfl) (by kernel_rfl) (by kernel_rfl) (by kernel_rfl) (by kernel_rfl) (by kernel_rfl) (fun _ _ _ h => h) (Or.inl ⟨by rfl, ?_⟩) (by assumption) ?_
                      rotate_left 1
                      · (intro w' hSw; go_simp; try with_reducible rfl)
                      try simp only [Act.put, List.setIfInBounds_toArray, List.set_cons_zero, List.set_cons_succ]
                      refine wpAnyW_held (i := 11) (by kernel_rfl) (by simp only [List.getElem?_toArray, List.getElem?_cons_succ, List.getElem?_cons_zero]; rfl) (fun K hK => ?_)
                      rw [if_pos (by rfl)]
                      obtain ⟨vp3, hvp3, HXpb, HBvp3, hsvp3⟩ := one_open up2 42 #[.int .i64 0, .int .i64 0, .bool false, .bool false, .slice none 0 0, .slice none 0 0, .slice none 0 0]
                      obtain ⟨gpb, hgpb⟩ : ∃ g, up2.heap.size = g := ⟨_, rfl⟩
                      rw [hgpb] at HXpb hsvp3
                      have HS : (fun V => Bx V g8 27 #[.int .u32 (c.toNat : Int), .slice A n k] ∧ Bx V g8 27 #[.int .u32 (c.toNat : Int), .slice A n k] ∧ Below wr.heap.size wr V) _ := ⟨hHeld.1.later HBvp3.out, hHeld.2.1.later HBvp3.out, hHeld.2.2.trans (HBvp3.out.mono hHeld.2.2.size)⟩
                      have hzgpb : wr.heap.size ≤ gpb := by have := hHeld.2.2.size; omega
                      have hnep : gpa < gpb := by have := HXpa.out.lt; omega
                      replace HXpa := Lib.hid (HXpa.out.later HBvp3.out)
                      clear hHeld HBvp3 hsvp3
                      go_simp
                      refine hK.out _ _ HS (fun hHeld => ?_)
                      clear hK K HS
                      try simp only [Act.put, List.setIfInBounds_toArray, List.set_cons_zero, List.set_cons_succ]
                      refine wpAnyW_held (i := 12) (by kernel_rfl) (by simp only [List.getElem?_toArray, List.getElem?_cons_succ, List.getElem?_cons_zero]; rfl) (fun K hK => ?_)
                      rw [if_pos (by rfl)]
                      refine wpB (ty := 27) #[.int .u32 (cn.toNat : Int), .slice A5 0 k5] rfl rfl rfl HXpa.out infoS rfl (cellsS_one _ _ _ _) ?_
                      intro y1 ht hg
                      have HS : (fun V => Bx V g8 27 #[.int .u32 (c.toNat : Int), .slice A n k] ∧ Bx V g8 27 #[.int .u32 (c.toNat : Int), .slice A n k] ∧ Below wr.heap.size wr V) _ := ⟨hHeld.1.kept hg (by omega), hHeld.2.1.kept hg (by omega), below_of_grown1 hHeld.2.2 hg hHeld.2.2.size hzgpa⟩
                      replace HXpb := Lib.hid (HXpb.out.kept hg (by omega))
                      replace HXpa := Lib.hid ht
                      clear ht hg hHeld
                      refine hK.out _ _ HS (fun hHeld => ?_)
                      clear hK K HS
                      try simp only [Act.put, List.setIfInBounds_toArray, List.set_cons_zero, List.set_cons_succ]
                      refine wpAnyW_held (i := 13) (by kernel_rfl) (by simp only [List.getElem?_toArray, List.getElem?_cons_succ, List.getElem?_cons_zero]; rfl) (fun K hK => ?_)
                      rw [if_pos (by rfl)]
                      refine wpB (ty := 42) #[.int .i64 all, .int .i64 all, .bool m5, .bool f5, .slice A6 n k6, .slice A7 0 k7, .slice A8 n k8] rfl rfl rfl HXpb.out infoR rfl (cellsR_one _ _ _ _ _ _ _ _ _ _ _ _ _) ?_
                      intro y2 ht hg
                      have HS : (fun V => Bx V g8 27 #[.int .u32 (c.toNat : Int), .slice A n k] ∧ Bx V g8 27 #[.int .u32 (c.toNat : Int), .slice A n k] ∧ Below wr.heap.size wr V) _ := ⟨hHeld.1.kept hg (by omega), hHeld.2.1.kept hg (by omega), below_of_grown1 hHeld.2.2 hg hHeld.2.2.size hzgpb⟩
                      replace HXpa := Lib.hid (HXpa.out.kept hg (by omega))
                      replace HXpb := Lib.hid ht
                      clear ht hg hHeld
                      refine hK.out _ _ HS (fun hHeld => ?_)
                      clear hK K HS
                      try simp only [Act.put, List.setIfInBounds_toArray, List.set_cons_zero, List.set_cons_succ]
                      refine wpAnyW_freed (i := 14) (by kernel_rfl) (by kernel_rfl) (by simp only [List.getElem?_toArray, List.getElem?_cons_succ, List.getElem?_cons_zero]; rfl) (fun K hK => ?_)
                      rw [if_pos (by rfl)]
                      go_simp
                      have HE := Lib.hid hHeld
                      refine hK.out _ _ ?_
                      clear hK K hHeld
                      try simp only [Act.put, List.setIfInBounds_toArray, List.set_cons_zero, List.set_cons_succ]
                      refine wpAnyW_done (by kernel_rfl) ?_ _
                      refine NoPanic.normal ?_
                      go_wp2_with fail
                      go_meet
                      exact ⟨gpa, gpb, A5, k5, A6, k6, A7, k7, A8, k8, m5, f5, rfl, rfl, rfl, Lib.hid ⟨HXpa.out, HXpb.out, HE.out.1, HR5.out, HE.out.2.2⟩⟩
                    · rw [if_pos (by rfl)]
                      obtain ⟨vp2, hvp2, HXpb, HBvp2, hsvp2⟩ := one_open vp1 42 #[.int .i64 0, .int .i64 0, .bool false, .bool false, .slice none 0 0, .slice none 0 0, .slice none 0 0]
                      obtain ⟨gpb, hgpb⟩ : ∃ g, vp1.heap.size = g := ⟨_, rfl⟩
                      rw [hgpb] at HXpb hsvp2
                      have HS : (fun V => Bx V g8 27 #[.int .u32 (c.toNat : Int), .slice A n k] ∧ Bx V g8 27 #[.int .u32 (c.toNat : Int), .slice A n k] ∧ Below wr.heap.size wr V) _ := ⟨hHeld.1.later HBvp2.out, hHeld.2.1.later HBvp2.out, hHeld.2.2.trans (HBvp2.out.mono hHeld.2.2.size)⟩
                      have hzgpb : wr.heap.size ≤ gpb := by have := hHeld.2.2.size; omega
                      have hnep : gpa < gpb := by have := HXpa.out.lt; omega
                      replace HXpa := Lib.hid (HXpa.out.later HBvp2.out)
                      clear hHeld HBvp2 hsvp2
                      go_simp
                      refine hK.out _ _ HS (fun hHeld => ?_)
                      clear hK K HS
                      try simp only [Act.put, List.setIfInBounds_toArray, List.set_cons_zero, List.set_cons_succ]
                      refine wpAnyW_held (i := 5) (by kernel_rfl) (by simp only [List.getElem?_toArray, List.getElem?_cons_succ, List.getElem?_cons_zero]; rfl) (fun K hK => ?_)
                      rw [if_pos (by rfl)]
                      go_simp
                      refine (HAK.out _ _ (HRS.out.below hHeld.2.2)).mono ?_
                      rintro _ up3 ⟨A5, k5, A6, k6, A7, k7, A8, k8, f5, m5, rfl, hr5, hb⟩
                      have HS : (fun V => Bx V g8 27 #[.int .u32 (c.toNat : Int), .slice A n k] ∧ Bx V g8 27 #[.int .u32 (c.toNat : Int), .slice A n k] ∧ Below wr.heap.size wr V) _ := ⟨hHeld.1.later hb, hHeld.2.1.later hb, hHeld.2.2.trans (hb.mono hHeld.2.2.size)⟩
                      have HR5 : Hid (∀ W, RowP W (.slice A5 0 k5) []) := Lib.hid (fun W => rowP_empty hr5)
                      clear hr5
                      replace HXpa := Lib.hid (HXpa.out.later hb)
                      replace HXpb := Lib.hid (HXpb.out.later hb)
                      clear hHeld hb
                      go_wp2_with fail
                      refine hK.out _ _ HS (fun hHeld => ?_)
                      clear hK K HS
                      try simp only [Act.put, List.setIfInBounds_toArray, List.set_cons_zero, List.set_cons_succ]
                      refine wpAnyW_take (i := 6) (v := ?_) (by simp only [List.getElem?_toArray, List.getElem?_cons_succ, List.getElem?_cons_zero]; rfl) (by kernel_rfl) (by kernel_rfl) (by kernel_rfl) (by kernel_rfl) (by kernel_rfl) (fun _ _ _ h => h) (Or.inl ⟨by rfl, ?_⟩) (by assumption) ?_
                      rotate_left 1
                      · (intro w' hSw; go_simp; try with_reducible rfl)
                      try simp only [Act.put, List.setIfInBounds_toArray, List.set_cons_zero, List.set_cons_succ]
                      refine wpAnyW_take (i := 7) (v := ?_) (by simp only [List.getElem?_toArray, List.getElem?_cons_succ, List.getElem?_cons_zero]; rfl) (by kernel_rfl) (by kernel_rfl) (by kernel_rfl) (by kernel_rfl) (by kernel_rfl) (fun _ _ _ h => h) (Or.inl ⟨by rfl, ?_⟩) (by assumption) ?_
                      rotate_left 1
                      · (intro w' hSw; go_simp; try with_reducible rfl)
                      try simp only [Act.put, List.setIfInBounds_toArray, List.set_cons_zero, List.set_cons_succ]
                      refine wpAnyW_take (i := 8) (v := ?_) (by simp only [List.getElem?_toArray, List.getElem?_cons_succ, List.getElem?_cons_zero]; rfl) (by kernel_rfl) (by kernel_rfl) (by kernel_rfl) (by kernel_rfl) (by kernel_rfl) (fun _ _ _ h => h) (Or.inl ⟨by rfl, ?_⟩) (by assumption) ?_
                      rotate_left 1
                      · (intro w' hSw; go_simp; try with_reducible rfl)
                      try simp only [Act.put, List.setIfInBounds_toArray, List.set_cons_zero, List.set_cons_succ]
                      refine wpAnyW_take (i := 9) (v := ?_) (by simp only [List.getElem?_toArray, List.getElem?_cons_succ, List.getElem?_cons_zero]; rfl) (by kernel_rfl) (by kernel_rfl) (by kernel_rfl) (by kernel_rfl) (by kernel_rfl) (fun _ _ _ h => h) (Or.inl ⟨by rfl, ?_⟩) (by assumption) ?_
                      rotate_left 1
                      · (intro w' hSw; go_simp; try with_reducible rfl)
                      try simp only [Act.put, List.setIfInBounds_toArray, List.set_cons_zero, List.set_cons_succ]
                      refine wpAnyW_held (i := 12) (by kernel_rfl) (by simp only [List.getElem?_toArray, List.getElem?_cons_succ, List.getElem?_cons_zero]; rfl) (fun K hK => ?_)
                      rw [if_pos (by rfl)]
                      refine wpB (ty := 27) #[.int .u32 (cn.toNat : Int), .slice A5 0 k5] rfl rfl rfl HXpa.out infoS rfl (cellsS_one _ _ _ _) ?_
                      intro y1 ht hg
                      have HS : (fun V => Bx V g8 27 #[.int .u32 (c.toNat : Int), .slice A n k] ∧ Bx V g8 27 #[.int .u32 (c.toNat : Int), .slice A n k] ∧ Below wr.heap.size wr V) _ := ⟨hHeld.1.kept hg (by omega), hHeld.2.1.kept hg (by omega), below_of_grown1 hHeld.2.2 hg hHeld.2.2.size hzgpa⟩
                      replace HXpb := Lib.hid (HXpb.out.kept hg (by omega))
                      replace HXpa := Lib.hid ht
                      clear ht hg hHeld
                      refine hK.out _ _ HS (fun hHeld => ?_)
                      clear hK K HS
                      try simp only [Act.put, List.setIfInBounds_toArray, List.set_cons_zero, List.set_cons_succ]
                      refine wpAnyW_held (i := 13) (by kernel_rfl) (by simp only [List.getElem?_toArray, List.getElem?_cons_succ, List.getElem?_cons_zero]; rfl) (fun K hK => ?_)
                      rw [if_pos (by rfl)]
                      refine wpB (ty := 42) #[.int .i64 all, .int .i64 all, .bool m5, .bool f5, .slice A6 n k6, .slice A7 0 k7, .slice A8 n k8] rfl rfl rfl HXpb.out infoR rfl (cellsR_one _ _ _ _ _ _ _ _ _ _ _ _ _) ?_
                      intro y2 ht hg
                      have HS : (fun V => Bx V g8 27 #[.int .u32 (c.toNat : Int), .slice A n k] ∧ Bx V g8 27 #[.int .u32 (c.toNat : Int), .slice A n k] ∧ Below wr.heap.size wr V) _ := ⟨hHeld.1.kept hg (by omega), hHeld.2.1.kept hg (by omega), below_of_grown1 hHeld.2.2 hg hHeld.2.2.size hzgpb⟩
                      replace HXpa := Lib.hid (HXpa.out.kept hg (by omega))
                      replace HXpb := Lib.hid ht
                      clear ht hg hHeld
                      refine hK.out _ _ HS (fun hHeld => ?_)
                      clear hK K HS
                      try simp only [Act.put, List.setIfInBounds_toArray, List.set_cons_zero, List.set_cons_succ]
                      refine wpAnyW_freed (i := 14) (by kernel_rfl) (by kernel_rfl) (by simp only [List.getElem?_toArray, List.getElem?_cons_succ, List.getElem?_cons_zero]; rfl) (fun K hK => ?_)
                      rw [if_pos (by rfl)]
                      go_simp
                      have HE := Lib.hid hHeld
                      refine hK.out _ _ ?_
                      clear hK K hHeld
                      try simp only [Act.put, List.setIfInBounds_toArray, List.set_cons_zero, List.set_cons_succ]
                      refine wpAnyW_done (by kernel_rfl) ?_ _
                      refine NoPanic.normal ?_
                      go_wp2_with fail
                      go_meet
                      exact ⟨gpa, gpb, A5, k5, A6, k6, A7, k7, A8, k8, m5, f5, rfl, rfl, rfl, Lib.hid ⟨HXpa.out, HXpb.out, HE.out.1, HR5.out, HE.out.2.2⟩⟩
                · as_aux_lemma =>
                    rw [if_pos (by rfl)]
                    obtain ⟨vp1, hvp1, HXpb, HBvp1, hsvp1⟩ := one_open up0 42 #[.int .i64 0, .int .i64 0, .bool false, .bool false, .slice none 0 0, .slice none 0 0, .slice none 0 0]
                    obtain ⟨gpb, hgpb⟩ : ∃ g, up0.heap.size = g := ⟨_, rfl⟩
                    rw [hgpb] at HXpb hsvp1
                    have HS : (fun V => Bx V g8 27 #[.int .u32 (c.toNat : Int), .slice A n k] ∧ Bx V g8 27 #[.int .u32 (c.toNat : Int), .slice A n k] ∧ Below wr.heap.size wr V) _ := ⟨hHeld.1.later HBvp1.out, hHeld.2.1.later HBvp1.out, hHeld.2.2.trans (HBvp1.out.mono hHeld.2.2.size)⟩
                    have hzgpb : wr.heap.size ≤ gpb := by have := hHeld.2.2.size; omega
                    clear hHeld HBvp1 hsvp1
                    go_simp
                    refine hK.out _ _ HS (fun hHeld => ?_)
                    clear hK K HS
                    try simp only [Act.put, List.setIfInBounds_toArray, List.set_cons_zero, List.set_cons_succ]
                    refine wpAnyW_two (i := 5) (i2 := 10) (by kernel_rfl) (by simp only [List.getElem?_toArray, List.getElem?_cons_succ, List.getElem?_cons_zero]; rfl) (by simp only [List.getElem?_toArray, List.getElem?_cons_succ, List.getElem?_cons_zero]; rfl) (fun K hK => ?_) (fun K hK => ?_)
                    · rw [if_pos (by rfl)]
                      go_simp
                      refine (HAK.out _ _ (HRS.out.below hHeld.2.2)).mono ?_
                      rintro _ up2 ⟨A5, k5, A6, k6, A7, k7, A8, k8, f5, m5, rfl, hr5, hb⟩
                      have HS : (fun V => Bx V g8 27 #[.int .u32 (c.toNat : Int), .slice A n k] ∧ Bx V g8 27 #[.int .u32 (c.toNat : Int), .slice A n k] ∧ Below wr.heap.size wr V) _ := ⟨hHeld.1.later hb, hHeld.2.1.later hb, hHeld.2.2.trans (hb.mono hHeld.2.2.size)⟩
                      have HR5 : Hid (∀ W, RowP W (.slice A5 0 k5) []) := Lib.hid (fun W => rowP_empty hr5)
                      clear hr5
                      replace HXpb := Lib.hid (HXpb.out.later hb)
                      clear hHeld hb
                      go_wp2_with fail
                      refine hK.out _ _ HS (fun hHeld => ?_)
                      clear hK K HS
                      try simp only [Act.put, List.setIfInBounds_toArray, List.set_cons_zero, List.set_cons_succ]
                      refine wpAnyW_take (i := 6) (v := ?_) (by simp only [List.getElem?_toArray, List.getElem?_cons_succ, List.getElem?_cons_zero]; rfl) (by kernel_rfl) (by kernel_rfl) (by kernel_rfl) (by kernel_rfl) (by kernel_rfl) (fun _ _ _ h => h) (Or.inl ⟨by rfl, ?_⟩) (by assumption) ?_
                      rotate_left 1
                      · (intro w' hSw; go_simp; try with_reducible rfl)
                      try simp only [Act.put, List.setIfInBounds_toArray, List.set_cons_zero, List.set_cons_succ]
                      refine wpAnyW_take (i := 7) (v := ?_) (by simp only [List.getElem?_toArray, List.getElem?_cons_succ, List.getElem?_cons_zero]; rfl) (by kernel_rfl) (by kernel_rfl) (by kernel_rfl) (by kernel_rfl) (by kernel_rfl) (fun _ _ _ h => h) (Or.inl ⟨by rfl, ?_⟩) (by assumption) ?_
                      rotate_left 1
                      · (intro w' hSw; go_simp; try with_reducible rfl)
                      try simp only [Act.put, List.setIfInBounds_toArray, List.set_cons_zero, List.set_cons_succ]
                      refine wpAnyW_take (i := 8) (v := ?_) (by simp only [List.getElem?_toArray, List.getElem?_cons_succ, List.getElem?_cons_zero]; rfl) (by kernel_rfl) (by kernel_rfl) (by kernel_rfl) (by kernel_rfl) (by kernel_rfl) (fun _ _ _ h => h) (Or.inl ⟨by rfl, ?_⟩) (by assumption) ?_
                      rotate_left 1
                      · (intro w' hSw; go_simp; try with_reducible rfl)
                      try simp only [Act.put, List.setIfInBounds_toArray, List.set_cons_zero, List.set_cons_succ]
                      refine wpAnyW_take (i := 9) (v := ?_) (by simp only [List.getElem?_toArray, List.getElem?_cons_succ, List.getElem?_cons_zero]; rfl) (by kernel_rfl) (by kernel_rfl) (by kernel_rfl) (by kernel_rfl) (by kernel_rfl) (fun _ _ _ h => h) (Or.inl ⟨by rfl, ?_⟩) (by assumption) ?_
                      rotate_left 1
                      · (intro w' hSw; go_simp; try with_reducible rfl)
                      try simp only [Act.put, List.setIfInBounds_toArray, List.set_cons_zero, List.set_cons_succ]
                      refine wpAnyW_held (i := 10) (by kernel_rfl) (by simp only [List.getElem?_toArray, List.getElem?_cons_succ, List.getElem?_cons_zero]; rfl) (fun K hK => ?_)
                      rw [if_pos (by rfl)]
                      obtain ⟨vp3, hvp3, HXpa, HBvp3, hsvp3⟩ := one_open up2 27 #[.int .u32 0, .slice none 0 0]
                      obtain ⟨gpa, hgpa⟩ : ∃ g, up2.heap.size = g := ⟨_, rfl⟩
                      rw [hgpa] at HXpa hsvp3
                      have HS : (fun V => Bx V g8 27 #[.int .u32 (c.toNat : Int), .slice A n k] ∧ Bx V g8 27 #[.int .u32 (c.toNat : Int), .slice A n k] ∧ Below wr.heap.size wr V) _ := ⟨hHeld.1.later HBvp3.out, hHeld.2.1.later HBvp3.out, hHeld.2.2.trans (HBvp3.out.mono hHeld.2.2.size)⟩
                      have hzgpa : wr.heap.size ≤ gpa := by have := hHeld.2.2.size; omega
                      have hnep : gpb < gpa := by have := HXpb.out.lt; omega
                      replace HXpb := Lib.hid (HXpb.out.later HBvp3.out)
                      clear hHeld HBvp3 hsvp3
                      go_simp
                      refine hK.out _ _ HS (fun hHeld => ?_)
                      clear hK K HS
                      try simp only [Act.put, List.setIfInBounds_toArray, List.set_cons_zero, List.set_cons_succ]
                      refine wpAnyW_held (i := 12) (by kernel_rfl) (by simp only [List.getElem?_toArray, List.getElem?_cons_succ, List.getElem?_cons_zero]; rfl) (fun K hK => ?_)
                      rw [if_pos (by rfl)]
                      refine wpB (ty := 27) #[.int .u32 (cn.toNat : Int), .slice A5 0 k5] rfl rfl rfl HXpa.out infoS rfl (cellsS_one _ _ _ _) ?_
                      intro y1 ht hg
                      have HS : (fun V => Bx V g8 27 #[.int .u32 (c.toNat : Int), .slice A n k] ∧ Bx V g8 27 #[.int .u32 (c.toNat : Int), .slice A n k] ∧ Below wr.heap.size wr V) _ := ⟨hHeld.1.kept hg (by omega), hHeld.2.1.kept hg (by omega), below_of_grown1 hHeld.2.2 hg hHeld.2.2.size hzgpa⟩
                      replace HXpb := Lib.hid (HXpb.out.kept hg (by omega))
                      replace HXpa := Lib.hid ht
                      clear ht hg hHeld
                      refine hK.out _ _ HS (fun hHeld => ?_)
                      clear hK K HS
                      try simp only [Act.put, List.setIfInBounds_toArray, List.set_cons_zero, List.set_cons_succ]
                      refine wpAnyW_held (i := 13) (by kernel_rfl) (by simp only [List.getElem?_toArray, List.getElem?_cons_succ, List.getElem?_cons_zero]; rfl) (fun K hK => ?_)
                      rw [if_pos (by rfl)]
                      refine wpB (ty := 42) #[.int .i64 all, .int .i64 all, .bool m5, .bool f5, .slice A6 n k6, .slice A7 0 k7, .slice A8 n k8] rfl rfl rfl HXpb.out infoR rfl (cellsR_one _ _ _ _ _ _ _ _ _ _ _ _ _) ?_
                      intro y2 ht hg
                      have HS : (fun V => Bx V g8 27 #[.int .u32 (c.toNat : Int), .slice A n k] ∧ Bx V g8 27 #[.int .u32 (c.toNat : Int), .slice A n k] ∧ Below wr.heap.size wr V) _ := ⟨hHeld.1.kept hg (by omega), hHeld.2.1.kept hg (by omega), below_of_grown1 hHeld.2.2 hg hHeld.2.2.size hzgpb⟩
                      replace HXpa := Lib.hid (HXpa.out.kept hg (by omega))
                      replace HXpb := Lib.hid ht
                      clear ht hg hHeld
                      refine hK.out _ _ HS (fun hHeld => ?_)
                      clear hK K HS
                      try simp only [Act.put, List.setIfInBounds_toArray, List.set_cons_zero, List.set_cons_succ]
                      refine wpAnyW_freed (i := 14) (by kernel_rfl) (by kernel_rfl) (by simp only [List.getElem?_toArray, List.getElem?_cons_succ, List.getElem?_cons_zero]; rfl) (fun K hK => ?_)
                      rw [if_pos (by rfl)]
                      go_simp
                      have HE := Lib.hid hHeld
                      refine hK.out _ _ ?_
                      clear hK K hHeld
                      try simp only [Act.put, List.setIfInBounds_toArray, List.set_cons_zero, List.set_cons_succ]
                      refine wpAnyW_done (by kernel_rfl) ?_ _
                      refine NoPanic.normal ?_
                      go_wp2_with fail
                      go_meet
                      exact ⟨gpa, gpb, A5, k5, A6, k6, A7, k7, A8, k8, m5, f5, rfl, rfl, rfl, Lib.hid ⟨HXpa.out, HXpb.out, HE.out.1, HR5.out, HE.out.2.2⟩⟩
                    · rw [if_pos (by rfl)]
                      obtain ⟨vp2, hvp2, HXpa, HBvp2, hsvp2⟩ := one_open vp1 27 #[.int .u32 0, .slice none 0 0]
                      obtain ⟨gpa, hgpa⟩ : ∃ g, vp1.heap.size = g := ⟨_, rfl⟩
                      rw [hgpa] at HXpa hsvp2
                      have HS : (fun V => Bx V g8 27 #[.int .u32 (c.toNat : Int), .slice A n k] ∧ Bx V g8 27 #[.int .u32 (c.toNat : Int), .slice A n k] ∧ Below wr.heap.size wr V) _ := ⟨hHeld.1.later HBvp2.out, hHeld.2.1.later HBvp2.out, hHeld.2.2.trans (HBvp2.out.mono hHeld.2.2.size)⟩
                      have hzgpa : wr.heap.size ≤ gpa := by have := hHeld.2.2.size; omega
                      have hnep : gpb < gpa := by have := HXpb.out.lt; omega
                      replace HXpb := Lib.hid (HXpb.out.later HBvp2.out)
                      clear hHeld HBvp2 hsvp2
                      go_simp
                      refine hK.out _ _ HS (fun hHeld => ?_)
                      clear hK K HS
                      try simp only [Act.put, List.setIfInBounds_toArray, List.set_cons_zero, List.set_cons_succ]
                      refine wpAnyW_held (i := 5) (by kernel_rfl) (by simp only [List.getElem?_toArray, List.getElem?_cons_succ, List.getElem?_cons_zero]; rfl) (fun K hK => ?_)
                      rw [if_pos (by rfl)]
                      go_simp
                      refine (HAK.out _ _ (HRS.out.below hHeld.2.2)).mono ?_
                      rintro _ up3 ⟨A5, k5, A6, k6, A7, k7, A8, k8, f5, m5, rfl, hr5, hb⟩
                      have HS : (fun V => Bx V g8 27 #[.int .u32 (c.toNat : Int), .slice A n k] ∧ Bx V g8 27 #[.int .u32 (c.toNat : Int), .slice A n k] ∧ Below wr.heap.size wr V) _ := ⟨hHeld.1.later hb, hHeld.2.1.later hb, hHeld.2.2.trans (hb.mono hHeld.2.2.size)⟩
                      have HR5 : Hid (∀ W, RowP W (.slice A5 0 k5) []) := Lib.hid (fun W => rowP_empty hr5)
                      clear hr5
                      replace HXpb := Lib.hid (HXpb.out.later hb)
                      replace HXpa := Lib.hid (HXpa.out.later hb)
                      clear hHeld hb
                      go_wp2_with fail
                      refine hK.out _ _ HS (fun hHeld => ?_)
                      clear hK K HS
                      try simp only [Act.put, List.setIfInBounds_toArray, List.set_cons_zero, List.set_cons_succ]
                      refine wpAnyW_take (i := 6) (v := ?_) (by simp only [List.getElem?_toArray, List.getElem?_cons_succ, List.getElem?_cons_zero]; rfl) (by kernel_rfl) (by kernel_rfl) (by kernel_rfl) (by kernel_rfl) (by kernel_rfl) (fun _ _ _ h => h) (Or.inl ⟨by rfl, ?_⟩) (by assumption) ?_
                      rotate_left 1
                      · (intro w' hSw; go_simp; try with_reducible rfl)
                      try simp only [Act.put, List.setIfInBounds_toArray, List.set_cons_zero, List.set_cons_succ]
                      refine wpAnyW_take (i := 7) (v := ?_) (by simp only [List.getElem?_toArray, List.getElem?_cons_succ, List.getElem?_cons_zero]; rfl) (by kernel_rfl) (by kernel_rfl) (by kernel_rfl) (by kernel_rfl) (by kernel_rfl) (fun _ _ _ h => h) (Or.inl ⟨by rfl, ?_⟩) (by assumption) ?_
                      rotate_left 1
                      · (intro w' hSw; go_simp; try with_reducible rfl)
                      try simp only [Act.put, List.setIfInBounds_toArray, List.set_cons_zero, List.set_cons_succ]
                      refine wpAnyW_take (i := 8) (v := ?_) (by simp only [List.getElem?_toArray, List.getElem?_cons_succ, List.getElem?_cons_zero]; rfl) (by kernel_rfl) (by kernel_rfl) (by kernel_rfl) (by kernel_rfl) (by kernel_rfl) (fun _ _ _ h => h) (Or.inl ⟨by rfl, ?_⟩) (by assumption) ?_
                      rotate_left 1
                      · (intro w' hSw; go_simp; try with_reducible rfl)
                      try simp only [Act.put, List.setIfInBounds_toArray, List.set_cons_zero, List.set_cons_succ]
                      refine wpAnyW_take (i := 9) (v := ?_) (by simp only [List.getElem?_toArray, List.getElem?_cons_succ, List.getElem?_cons_zero]; rfl) (by kernel_rfl) (by kernel_rfl) (by kernel_rfl) (by kernel_rfl) (by kernel_rfl) (fun _ _ _ h => h) (Or.inl ⟨by rfl, ?_⟩) (by assumption) ?_
                      rotate_left 1
                      · (intro w' hSw; go_simp; try with_reducible rfl)
                      try simp only [Act.put, List.setIfInBounds_toArray, List.set_cons_zero, List.set_cons_succ]
                      refine wpAnyW_held (i := 12) (by kernel_rfl) (by simp only [List.getElem?_toArray, List.getElem?_cons_succ, List.getElem?_cons_zero]; rfl) (fun K hK => ?_)
                      rw [if_pos (by rfl)]
                      refine wpB (ty := 27) #[.int .u32 (cn.toNat : Int), .slice A5 0 k5] rfl rfl rfl HXpa.out infoS rfl (cellsS_one _ _ _ _) ?_
                      intro y1 ht hg
                      have HS : (fun V => Bx V g8 27 #[.int .u32 (c.toNat : Int), .slice A n k] ∧ Bx V g8 27 #[.int .u32 (c.toNat : Int), .slice A n k] ∧ Below wr.heap.size wr V) _ := ⟨hHeld.1.kept hg (by omega), hHeld.2.1.kept hg (by omega), below_of_grown1 hHeld.2.2 hg hHeld.2.2.size hzgpa⟩
                      replace HXpb := Lib.hid (HXpb.out.kept hg (by omega))
                      replace HXpa := Lib.hid ht
                      clear ht hg hHeld
                      refine hK.out _ _ HS (fun hHeld => ?_)
                      clear hK K HS
                      try simp only [Act.put, List.setIfInBounds_toArray, List.set_cons_zero, List.set_cons_succ]
                      refine wpAnyW_held (i := 13) (by kernel_rfl) (by simp only [List.getElem?_toArray, List.getElem?_cons_succ, List.getElem?_cons_zero]; rfl) (fun K hK => ?_)
                      rw [if_pos (by rfl)]
                      refine wpB (ty := 42) #[.int .i64 all, .int .i64 all, .bool m5, .bool f5, .slice A6 n k6, .slice A7 0 k7, .slice A8 n k8] rfl rfl rfl HXpb.out infoR rfl (cellsR_one _ _ _ _ _ _ _ _ _ _ _ _ _) ?_
                      intro y2 ht hg
                      have HS : (fun V => Bx V g8 27 #[.int .u32 (c.toNat : Int), .slice A n k] ∧ Bx V g8 27 #[.int .u32 (c.toNat : Int), .slice A n k] ∧ Below wr.heap.size wr V) _ := ⟨hHeld.1.kept hg (by omega), hHeld.2.1.kept hg (by omega), below_of_grown1 hHeld.2.2 hg hHeld.2.2.size hzgpb⟩
                      replace HXpa := Lib.hid (HXpa.out.kept hg (by omega))
                      replace HXpb := Lib.hid ht
                      clear ht hg hHeld
                      refine hK.out _ _ HS (fun hHeld => ?_)
                      clear hK K HS
                      try simp only [Act.put, List.setIfInBounds_toArray, List.set_cons_zero, List.set_cons_succ]
                      refine wpAnyW_freed (i := 14) (by kernel_rfl) (by kernel_rfl) (by simp only [List.getElem?_toArray, List.getElem?_cons_succ, List.getElem?_cons_zero]; rfl) (fun K hK => ?_)
                      rw [if_pos (by rfl)]
                      go_simp
                      have HE := Lib.hid hHeld
                      refine hK.out _ _ ?_
                      clear hK K hHeld
                      try simp only [Act.put, List.setIfInBounds_toArray, List.set_cons_zero, List.set_cons_succ]
                      refine wpAnyW_done (by kernel_rfl) ?_ _
                      refine NoPanic.normal ?_
                      go_wp2_with fail
                      go_meet
                      exact ⟨gpa, gpb, A5, k5, A6, k6, A7, k7, A8, k8, m5, f5, rfl, rfl, rfl, Lib.hid ⟨HXpa.out, HXpb.out, HE.out.1, HR5.out, HE.out.2.2⟩⟩
            · as_aux_lemma =>
                rw [if_pos (by rfl)]
                obtain ⟨vp0, hvp0, HXpa, HBvp0, hsvp0⟩ := one_open wr.drew 27 #[.int .u32 0, .slice none 0 0]
                obtain ⟨gpa, hgpa⟩ : ∃ g, wr.drew.heap.size = g := ⟨_, rfl⟩
                rw [hgpa] at HXpa hsvp0
                have HS : (fun V => Bx V g8 27 #[.int .u32 (c.toNat : Int), .slice A n k] ∧ Bx V g8 27 #[.int .u32 (c.toNat : Int), .slice A n k] ∧ Below wr.heap.size wr V) _ := ⟨hHeld.1.later HBvp0.out, hHeld.2.1.later HBvp0.out, hHeld.2.2.trans (HBvp0.out.mono hHeld.2.2.size)⟩
                have hzgpa : wr.heap.size ≤ gpa := by have := hHeld.2.2.size; omega
                clear hHeld HBvp0 hsvp0
                go_simp
                refine hK.out _ _ HS (fun hHeld => ?_)
                clear hK K HS
                try simp only [Act.put, List.setIfInBounds_toArray, List.set_cons_zero, List.set_cons_succ]
                refine wpAnyW_two (i := 2) (i2 := 11) (by kernel_rfl) (by simp only [List.getElem?_toArray, List.getElem?_cons_succ, List.getElem?_cons_zero]; rfl) (by simp only [List.getElem?_toArray, List.getElem?_cons_succ, List.getElem?_cons_zero]; rfl) (fun K hK => ?_) (fun K hK => ?_)
                · as_aux_lemma =>
                    rw [if_pos (by rfl)]
                    go_simp
                    refine (HNX.out A k _).mono ?_
                    rintro _ up1 ⟨rfl, hb⟩
                    have HS : (fun V => Bx V g8 27 #[.int .u32 (c.toNat : Int), .slice A n k] ∧ Bx V g8 27 #[.int .u32 (c.toNat : Int), .slice A n k] ∧ Below wr.heap.size wr V) _ := ⟨hHeld.1.later hb, hHeld.2.1.later hb, hHeld.2.2.trans (hb.mono hHeld.2.2.size)⟩
                    replace HXpa := Lib.hid (HXpa.out.later hb)
                    clear hHeld hb
                    go_wp2_with fail
                    refine hK.out _ _ HS (fun hHeld => ?_)
                    clear hK K HS
                    try simp only [Act.put, List.setIfInBounds_toArray, List.set_cons_zero, List.set_cons_succ]
                    refine wpAnyW_take (i := 3) (v := ?_) (by simp only [List.getElem?_toArray, List.getElem?_cons_succ, List.getElem?_cons_zero]; rfl) (by kernel_rfl) (by kernel_rfl) (by kernel_rfl) (by kernel_rfl) (by kernel_rfl) (fun _ _ _ h => h) (Or.inl ⟨by rfl, ?_⟩) (by assumption) ?_
                    rotate_left 1
                    · (intro w' hSw; go_simp; try with_reducible rfl)
                    try simp only [Act.put, List.setIfInBounds_toArray, List.set_cons_zero, List.set_cons_succ]
                    refine wpAnyW_two (i := 5) (i2 := 11) (by kernel_rfl) (by simp only [List.getElem?_toArray, List.getElem?_cons_succ, List.getElem?_cons_zero]; rfl) (by simp only [List.getElem?_toArray, List.getElem?_cons_succ, List.getElem?_cons_zero]; rfl) (fun K hK => ?_) (fun K hK => ?_)
                    · rw [if_pos (by rfl)]
                      go_simp
                      refine (HAK.out _ _ (HRS.out.below hHeld.2.2)).mono ?_
                      rintro _ up2 ⟨A5, k5, A6, k6, A7, k7, A8, k8, f5, m5, rfl, hr5, hb⟩
                      have HS : (fun V => Bx V g8 27 #[.int .u32 (c.toNat : Int), .slice A n k] ∧ Bx V g8 27 #[.int .u32 (c.toNat : Int), .slice A n k] ∧ Below wr.heap.size wr V) _ := ⟨hHeld.1.later hb, hHeld.2.1.later hb, hHeld.2.2.trans (hb.mono hHeld.2.2.size)⟩
                      have HR5 : Hid (∀ W, RowP W (.slice A5 0 k5) []) := Lib.hid (fun W => rowP_empty hr5)
                      clear hr5
                      replace HXpa := Lib.hid (HXpa.out.later hb)
                      clear hHeld hb
                      go_wp2_with fail
                      refine hK.out _ _ HS (fun hHeld => ?_)
                      clear hK K HS
                      try simp only [Act.put, List.setIfInBounds_toArray, List.set_cons_zero, List.set_cons_succ]
                      refine wpAnyW_take (i := 6) (v := ?_) (by simp only [List.getElem?_toArray, List.getElem?_cons_succ, List.getElem?_cons_zero]; rfl) (by kernel_rfl) (by kernel_rfl) (by kernel_rfl) (by kernel_rfl) (by kernel_rfl) (fun _ _ _ h => h) (Or.inl ⟨by rfl, ?_⟩) (by assumption) ?_
                      rotate_left 1
                      · (intro w' hSw; go_simp; try with_reducible rfl)
                      try simp only [Act.put, List.setIfInBounds_toArray, List.set_cons_zero, List.set_cons_succ]
                      refine wpAnyW_take (i := 7) (v := ?_) (by simp only [List.getElem?_toArray, List.getElem?_cons_succ, List.getElem?_cons_zero]; rfl) (by kernel_rfl) (by kernel_rfl) (by kernel_rfl) (by kernel_rfl) (by kernel_rfl) (fun _ _ _ h => h) (Or.inl ⟨by rfl, ?_⟩) (by assumption) ?_
                      rotate_left 1
                      · (intro w' hSw; go_simp; try with_reducible rfl)
                      try simp only [Act.put, List.setIfInBounds_toArray, List.set_cons_zero, List.set_cons_succ]
                      refine wpAnyW_take (i := 8) (v := ?_) (by simp only [List.getElem?_toArray, List.getElem?_cons_succ, List.getElem?_cons_zero]; rfl) (by kernel_rfl) (by kernel_rfl) (by kernel_rfl) (by kernel_rfl) (by kernel_rfl) (fun _ _ _ h => h) (Or.inl ⟨by rfl, ?_⟩) (by assumption) ?_
                      rotate_left 1
                      · (intro w' hSw; go_simp; try with_reducible rfl)
                      try simp only [Act.put, List.setIfInBounds_toArray, List.set_cons_zero, List.set_cons_succ]
                      refine wpAnyW_take (i := 9) (v := ?_) (by simp only [List.getElem?_toArray, List.getElem?_cons_succ, List.getElem?_cons_zero]; rfl) (by kernel_rfl) (by kernel_rfl) (by kernel_rfl) (by kernel_rfl) (by kernel_rfl) (fun _ _ _ h => h) (Or.inl ⟨by rfl, ?_⟩) (by assumption) ?_
                      rotate_left 1
                      · (intro w' hSw; go_simp; try with_reducible rfl)
                      try simp only [Act.put, List.setIfInBounds_toArray, List.set_cons_zero, List.set_cons_succ]
                      refine wpAnyW_held (i := 11) (by kernel_rfl) (by simp only [List.getElem?_toArray, List.getElem?_cons_succ, List.getElem?_cons_zero]; rfl) (fun K hK => ?_)
                      rw [if_pos (by rfl)]
                      obtain ⟨vp3, hvp3, HXpb, HBvp3, hsvp3⟩ := one_open up2 42 #[.int .i64 0, .int .i64 0, .bool false, .bool false, .slice none 0 0, .slice none 0 0, .slice none 0 0]
                      obtain ⟨gpb, hgpb⟩ : ∃ g, up2.heap.size = g := ⟨_, rfl⟩
                      rw [hgpb] at HXpb hsvp3
                      have HS : (fun V => Bx V g8 27 #[.int .u32 (c.toNat : Int), .slice A n k] ∧ Bx V g8 27 #[.int .u32 (c.toNat : Int), .slice A n k] ∧ Below wr.heap.size wr V) _ := ⟨hHeld.1.later HBvp3.out, hHeld.2.1.later HBvp3.out, hHeld.2.2.trans (HBvp3.out.mono hHeld.2.2.size)⟩
                      have hzgpb : wr.heap.size ≤ gpb := by have := hHeld.2.2.size; omega
                      have hnep : gpa < gpb := by have := HXpa.out.lt; omega
                      replace HXpa := Lib.hid (HXpa.out.later HBvp3.out)
                      clear hHeld HBvp3 hsvp3
                      go_simp
                      refine hK.out _ _ HS (fun hHeld => ?_)
                      clear hK K HS
                      try simp only [Act.put, List.setIfInBounds_toArray, List.set_cons_zero, List.set_cons_succ]
                      refine wpAnyW_held (i := 12) (by kernel_rfl) (by simp only [List.getElem?_toArray, List.getElem?_cons_succ, List.getElem?_cons_zero]; rfl) (fun K hK => ?_)
                      rw [if_pos (by rfl)]
                      refine wpB (ty := 27) #[.int .u32 (cn.toNat : Int), .slice A5 0 k5] rfl rfl rfl HXpa.out infoS rfl (cellsS_one _ _ _ _) ?_
                      intro y1 ht hg
                      have HS : (fun V => Bx V g8 27 #[.int .u32 (c.toNat : Int), .slice A n k] ∧ Bx V g8 27 #[.int .u32 (c.toNat : Int), .slice A n k] ∧ Below wr.heap.size wr V) _ := ⟨hHeld.1.kept hg (by omega), hHeld.2.1.kept hg (by omega), below_of_grown1 hHeld.2.2 hg hHeld.2.2.size hzgpa⟩
                      replace HXpb := Lib.hid (HXpb.out.kept hg (by omega))
                      replace HXpa := Lib.hid ht
                      clear ht hg hHeld
                      refine hK.out _ _ HS (fun hHeld => ?_)
                      clear hK K HS
                      try simp only [Act.put, List.setIfInBounds_toArray, List.set_cons_zero, List.set_cons_succ]
                      refine wpAnyW_held (i := 13) (by kernel_rfl) (by simp only [List.getElem?_toArray, List.getElem?_cons_succ, List.getElem?_cons_zero]; rfl) (fun K hK => ?_)
                      rw [if_pos (by rfl)]
                      refine wpB (ty := 42) #[.int .i64 all, .int .i64 all, .bool m5, .bool f5, .slice A6 n k6, .slice A7 0 k7, .slice A8 n k8] rfl rfl rfl HXpb.out infoR rfl (cellsR_one _ _ _ _ _ _ _ _ _ _ _ _ _) ?_
                      intro y2 ht hg
                      have HS : (fun V => Bx V g8 27 #[.int .u32 (c.toNat : Int), .slice A n k] ∧ Bx V g8 27 #[.int .u32 (c.toNat : Int), .slice A n k] ∧ Below wr.heap.size wr V) _ := ⟨hHeld.1.kept hg (by omega), hHeld.2.1.kept hg (by omega), below_of_grown1 hHeld.2.2 hg hHeld.2.2.size hzgpb⟩
                      replace HXpa := Lib.hid (HXpa.out.kept hg (by omega))
                      replace HXpb := Lib.hid ht
                      clear ht hg hHeld
                      refine hK.out _ _ HS (fun hHeld => ?_)
                      clear hK K HS
                      try simp only [Act.put, List.setIfInBounds_toArray, List.set_cons_zero, List.set_cons_succ]
                      refine wpAnyW_freed (i := 14) (by kernel_rfl) (by kernel_rfl) (by simp only [List.getElem?_toArray, List.getElem?_cons_succ, List.getElem?_cons_zero]; rfl) (fun K hK => ?_)
                      rw [if_pos (by rfl)]
                      go_simp
                      have HE := Lib.hid hHeld
                      refine hK.out _ _ ?_
                      clear hK K hHeld
                      try simp only [Act.put, List.setIfInBounds_toArray, List.set_cons_zero, List.set_cons_succ]
                      refine wpAnyW_done (by kernel_rfl) ?_ _
                      refine NoPanic.normal ?_
                      go_wp2_with fail
                      go_meet
                      exact ⟨gpa, gpb, A5, k5, A6, k6, A7, k7, A8, k8, m5, f5, rfl, rfl, rfl, Lib.hid ⟨HXpa.out, HXpb.out, HE.out.1, HR5.out, HE.out.2.2⟩⟩
                    · rw [if_pos (by rfl)]
                      obtain ⟨vp2, hvp2, HXpb, HBvp2, hsvp2⟩ := one_open up1 42 #[.int .i64 0, .int .i64 0, .bool false, .bool false, .slice none 0 0, .slice none 0 0, .slice none 0 0]
                      obtain ⟨gpb, hgpb⟩ : ∃ g, up1.heap.size = g := ⟨_, rfl⟩
                      rw [hgpb] at HXpb hsvp2
                      have HS : (fun V => Bx V g8 27 #[.int .u32 (c.toNat : Int), .slice A n k] ∧ Bx V g8 27 #[.int .u32 (c.toNat : Int), .slice A n k] ∧ Below wr.heap.size wr V) _ := ⟨hHeld.1.later HBvp2.out, hHeld.2.1.later HBvp2.out, hHeld.2.2.trans (HBvp2.out.mono hHeld.2.2.size)⟩
                      have hzgpb : wr.heap.size ≤ gpb := by have := hHeld.2.2.size; omega
                      have hnep : gpa < gpb := by have := HXpa.out.lt; omega
                      replace HXpa := Lib.hid (HXpa.out.later HBvp2.out)
                      clear hHeld HBvp2 hsvp2
                      go_simp
                      refine hK.out _ _ HS (fun hHeld => ?_)
                      clear hK K HS
                      try simp only [Act.put, List.setIfInBounds_toArray, List.set_cons_zero, List.set_cons_succ]
                      refine wpAnyW_held (i := 5) (by kernel_rfl) (by simp only [List.getElem?_toArray, List.getElem?_cons_succ, List.getElem?_cons_zero]; rfl) (fun K hK => ?_)
                      rw [if_pos (by rfl)]
                      go_simp
                      refine (HAK.out _ _ (HRS.out.below hHeld.2.2)).mono ?_
                      rintro _ up3 ⟨A5, k5, A6, k6, A7, k7, A8, k8, f5, m5, rfl, hr5, hb⟩
                      have HS : (fun V => Bx V g8 27 #[.int .u32 (c.toNat : Int), .slice A n k] ∧ Bx V g8 27 #[.int .u32 (c.toNat : Int), .slice A n k] ∧ Below wr.heap.size wr V) _ := ⟨hHeld.1.later hb, hHeld.2.1.later hb, hHeld.2.2.trans (hb.mono hHeld.2.2.size)⟩
                      have HR5 : Hid (∀ W, RowP W (.slice A5 0 k5) []) := Lib.hid (fun W => rowP_empty hr5)
                      clear hr5
                      replace HXpa := Lib.hid (HXpa.out.later hb)
                      replace HXpb := Lib.hid (HXpb.out.later hb)
                      clear hHeld hb
                      go_wp2_with fail
                      refine hK.out _ _ HS (fun hHeld => ?_)
                      clear hK K HS
                      try simp only [Act.put, List.setIfInBounds_toArray, List.set_cons_zero, List.set_cons_succ]
                      refine wpAnyW_take (i := 6) (v := ?_) (by simp only [List.getElem?_toArray, List.getElem?_cons_succ, List.getElem?_cons_zero]; rfl) (by kernel_rfl) (by kernel_rfl) (by kernel_rfl) (by kernel_rfl) (by kernel_rfl) (fun _ _ _ h => h) (Or.inl ⟨by rfl, ?_⟩) (by assumption) ?_
                      rotate_left 1
                      · (intro w' hSw; go_simp; try with_reducible rfl)
                      try simp only [Act.put, List.setIfInBounds_toArray, List.set_cons_zero, List.set_cons_succ]
                      refine wpAnyW_take (i := 7) (v := ?_) (by simp only [List.getElem?_toArray, List.getElem?_cons_succ, List.getElem?_cons_zero]; rfl) (by kernel_rfl) (by kernel_rfl) (by kernel_rfl) (by kernel_rfl) (by kernel_rfl) (fun _ _ _ h => h) (Or.inl ⟨by rfl, ?_⟩) (by assumption) ?_
                      rotate_left 1
                      · (intro w' hSw; go_simp; try with_reducible rfl)
                      try simp only [Act.put, List.setIfInBounds_toArray, List.set_cons_zero, List.set_cons_succ]
                      refine wpAnyW_take (i := 8) (v := ?_) (by simp only [List.getElem?_toArray, List.getElem?_cons_succ, List.getElem?_cons_zero]; rfl) (by kernel_rfl) (by kernel_rfl) (by kernel_rfl) (by kernel_rfl) (by kernel_rfl) (fun _ _ _ h => h) (Or.inl ⟨by rfl, ?_⟩) (by assumption) ?_
                      rotate_left 1
                      · (intro w' hSw; go_simp; try with_reducible rfl)
                      try simp only [Act.put, List.setIfInBounds_toArray, List.set_cons_zero, List.set_cons_succ]
                      refine wpAnyW_take (i := 9) (v := ?_) (by simp only [List.getElem?_toArray, List.getElem?_cons_succ, List.getElem?_cons_zero]; rfl) (by kernel_rfl) (by kernel_rfl) (by kernel_rfl) (by kernel_rfl) (by kernel_rfl) (fun _ _ _ h => h) (Or.inl ⟨by rfl, ?_⟩) (by assumption) ?_
                      rotate_left 1
                      · (intro w' hSw; go_simp; try with_reducible rfl)
                      try simp only [Act.put, List.setIfInBounds_toArray, List.set_cons_zero, List.set_cons_succ]
                      refine wpAnyW_held (i := 12) (by kernel_rfl) (by simp only [List.getElem?_toArray, List.getElem?_cons_succ, List.getElem?_cons_zero]; rfl) (fun K hK => ?_)
                      rw [if_pos (by rfl)]
                      refine wpB (ty := 27) #[.int .u32 (cn.toNat : Int), .slice A5 0 k5] rfl rfl rfl HXpa.out infoS rfl (cellsS_one _ _ _ _) ?_
                      intro y1 ht hg
                      have HS : (fun V => Bx V g8 27 #[.int .u32 (c.toNat : Int), .slice A n k] ∧ Bx V g8 27 #[.int .u32 (c.toNat : Int), .slice A n k] ∧ Below wr.heap.size wr V) _ := ⟨hHeld.1.kept hg (by omega), hHeld.2.1.kept hg (by omega), below_of_grown1 hHeld.2.2 hg hHeld.2.2.size hzgpa⟩
                      replace HXpb := Lib.hid (HXpb.out.kept hg (by omega))
                      replace HXpa := Lib.hid ht
                      clear ht hg hHeld
                      refine hK.out _ _ HS (fun hHeld => ?_)
                      clear hK K HS
                      try simp only [Act.put, List.setIfInBounds_toArray, List.set_cons_zero, List.set_cons_succ]
                      refine wpAnyW_held (i := 13) (by kernel_rfl) (by simp only [List.getElem?_toArray, List.getElem?_cons_succ, List.getElem?_cons_zero]; rfl) (fun K hK => ?_)
                      rw [if_pos (by rfl)]
                      refine wpB (ty := 42) #[.int .i64 all, .int .i64 all, .bool m5, .bool f5, .slice A6 n k6, .slice A7 0 k7, .slice A8 n k8] rfl rfl rfl HXpb.out infoR rfl (cellsR_one _ _ _ _ _ _ _ _ _ _ _ _ _) ?_
                      intro y2 ht hg
                      have HS : (fun V => Bx V g8 27 #[.int .u32 (c.toNat : Int), .slice A n k] ∧ Bx V g8 27 #[.int .u32 (c.toNat : Int), .slice A n k] ∧ Below wr.heap.size wr V) _ := ⟨hHeld.1.kept hg (by omega), hHeld.2.1.kept hg (by omega), below_of_grown1 hHeld.2.2 hg hHeld.2.2.size hzgpb⟩
                      replace HXpa := Lib.hid (HXpa.out.kept hg (by omega))
                      replace HXpb := Lib.hid ht
                      clear ht hg hHeld
                      refine hK.out _ _ HS (fun hHeld => ?_)
                      clear hK K HS
                      try simp only [Act.put, List.setIfInBounds_toArray, List.set_cons_zero, List.set_cons_succ]
                      refine wpAnyW_freed (i := 14) (by kernel_rfl) (by kernel_rfl) (by simp only [List.getElem?_toArray, List.getElem?_cons_succ, List.getElem?_cons_zero]; rfl) (fun K hK => ?_)
                      rw [if_pos (by rfl)]
                      go_simp
                      have HE := Lib.hid hHeld
                      refine hK.out _ _ ?_
                      clear hK K hHeld
                      try simp only [Act.put, List.setIfInBounds_toArray, List.set_cons_zero, List.set_cons_succ]
                      refine wpAnyW_done (by kernel_rfl) ?_ _
                      refine NoPanic.normal ?_
                      go_wp2_with fail
                      go_meet
                      exact ⟨gpa, gpb, A5, k5, A6, k6, A7, k7, A8, k8, m5, f5, rfl, rfl, rfl, Lib.hid ⟨HXpa.out, HXpb.out, HE.out.1, HR5.out, HE.out.2.2⟩⟩
                · as_aux_lemma =>
                    rw [if_pos (by rfl)]
                    obtain ⟨vp1, hvp1, HXpb, HBvp1, hsvp1⟩ := one_open vp0 42 #[.int .i64 0, .int .i64 0, .bool false, .bool false, .slice none 0 0, .slice none 0 0, .slice none 0 0]
                    obtain ⟨gpb, hgpb⟩ : ∃ g, vp0.heap.size = g := ⟨_, rfl⟩
                    rw [hgpb] at HXpb hsvp1
                    have HS : (fun V => Bx V g8 27 #[.int .u32 (c.toNat : Int), .slice A n k] ∧ Bx V g8 27 #[.int .u32 (c.toNat : Int), .slice A n k] ∧ Below wr.heap.size wr V) _ := ⟨hHeld.1.later HBvp1.out, hHeld.2.1.later HBvp1.out, hHeld.2.2.trans (HBvp1.out.mono hHeld.2.2.size)⟩
                    have hzgpb : wr.heap.size ≤ gpb := by have := hHeld.2.2.size; omega
                    have hnep : gpa < gpb := by have := HXpa.out.lt; omega
                    replace HXpa := Lib.hid (HXpa.out.later HBvp1.out)
                    clear hHeld HBvp1 hsvp1
                    go_simp
                    refine hK.out _ _ HS (fun hHeld => ?_)
                    clear hK K HS
                    try simp only [Act.put, List.setIfInBounds_toArray, List.set_cons_zero, List.set_cons_succ]
                    refine wpAnyW_held (i := 2) (by kernel_rfl) (by simp only [List.getElem?_toArray, List.getElem?_cons_succ, List.getElem?_cons_zero]; rfl) (fun K hK => ?_)
                    rw [if_pos (by rfl)]
                    go_simp
                    refine (HNX.out A k _).mono ?_
                    rintro _ up2 ⟨rfl, hb⟩
                    have HS : (fun V => Bx V g8 27 #[.int .u32 (c.toNat : Int), .slice A n k] ∧ Bx V g8 27 #[.int .u32 (c.toNat : Int), .slice A n k] ∧ Below wr.heap.size wr V) _ := ⟨hHeld.1.later hb, hHeld.2.1.later hb, hHeld.2.2.trans (hb.mono hHeld.2.2.size)⟩
                    replace HXpa := Lib.hid (HXpa.out.later hb)
                    replace HXpb := Lib.hid (HXpb.out.later hb)
                    clear hHeld hb
                    go_wp2_with fail
                    refine hK.out _ _ HS (fun hHeld => ?_)
                    clear hK K HS
                    try simp only [Act.put, List.setIfInBounds_toArray, List.set_cons_zero, List.set_cons_succ]
                    refine wpAnyW_take (i := 3) (v := ?_) (by simp only [List.getElem?_toArray, List.getElem?_cons_succ, List.getElem?_cons_zero]; rfl) (by kernel_rfl) (by kernel_rfl) (by kernel_rfl) (by kernel_rfl) (by kernel_rfl) (fun _ _ _ h => h) (Or.inl ⟨by rfl, ?_⟩) (by assumption) ?_
                    rotate_left 1
                    · (intro w' hSw; go_simp; try with_reducible rfl)
                    try simp only [Act.put, List.setIfInBounds_toArray, List.set_cons_zero, List.set_cons_succ]
                    refine wpAnyW_held (i := 5) (by kernel_rfl) (by simp only [List.getElem?_toArray, List.getElem?_cons_succ, List.getElem?_cons_zero]; rfl) (fun K hK => ?_)
                    rw [if_pos (by rfl)]
                    go_simp
                    refine (HAK.out _ _ (HRS.out.below hHeld.2.2)).mono ?_
                    rintro _ up3 ⟨A5, k5, A6, k6, A7, k7, A8, k8, f5, m5, rfl, hr5, hb⟩
                    have HS : (fun V => Bx V g8 27 #[.int .u32 (c.toNat : Int), .slice A n k] ∧ Bx V g8 27 #[.int .u32 (c.toNat : Int), .slice A n k] ∧ Below wr.heap.size wr V) _ := ⟨hHeld.1.later hb, hHeld.2.1.later hb, hHeld.2.2.trans (hb.mono hHeld.2.2.size)⟩
                    have HR5 : Hid (∀ W, RowP W (.slice A5 0 k5) []) := Lib.hid (fun W => rowP_empty hr5)
                    clear hr5
                    replace HXpa := Lib.hid (HXpa.out.later hb)
                    replace HXpb := Lib.hid (HXpb.out.later hb)
                    clear hHeld hb
                    go_wp2_with fail
                    refine hK.out _ _ HS (fun hHeld => ?_)
                    clear hK K HS
                    try simp only [Act.put, List.setIfInBounds_toArray, List.set_cons_zero, List.set_cons_succ]
                    refine wpAnyW_take (i := 6) (v := ?_) (by simp only [List.getElem?_toArray, List.getElem?_cons_succ, List.getElem?_cons_zero]; rfl) (by kernel_rfl) (by kernel_rfl) (by kernel_rfl) (by kernel_rfl) (by kernel_rfl) (fun _ _ _ h => h) (Or.inl ⟨by rfl, ?_⟩) (by assumption) ?_
                    rotate_left 1
                    · (intro w' hSw; go_simp; try with_reducible rfl)
                    try simp only [Act.put, List.setIfInBounds_toArray, List.set_cons_zero, List.set_cons_succ]
                    refine wpAnyW_take (i := 7) (v := ?_) (by simp only [List.getElem?_toArray, List.getElem?_cons_succ, List.getElem?_cons_zero]; rfl) (by kernel_rfl) (by kernel_rfl) (by kernel_rfl) (by kernel_rfl) (by kernel_rfl) (fun _ _ _ h => h) (Or.inl ⟨by rfl, ?_⟩) (by assumption) ?_
                    rotate_left 1
                    · (intro w' hSw; go_simp; try with_reducible rfl)
                    try simp only [Act.put, List.setIfInBounds_toArray, List.set_cons_zero, List.set_cons_succ]
                    refine wpAnyW_take (i := 8) (v := ?_) (by simp only [List.getElem?_toArray, List.getElem?_cons_succ, List.getElem?_cons_zero]; rfl) (by kernel_rfl) (by kernel_rfl) (by kernel_rfl) (by kernel_rfl) (by kernel_rfl) (fun _ _ _ h => h) (Or.inl ⟨by rfl, ?_⟩) (by assumption) ?_
                    rotate_left 1
                    · (intro w' hSw; go_simp; try with_reducible rfl)
                    try simp only [Act.put, List.setIfInBounds_toArray, List.set_cons_zero, List.set_cons_succ]
                    refine wpAnyW_take (i := 9) (v := ?_) (by simp only [List.getElem?_toArray, List.getElem?_cons_succ, List.getElem?_cons_zero]; rfl) (by kernel_rfl) (by kernel_rfl) (by kernel_rfl) (by kernel_rfl) (by kernel_rfl) (fun _ _ _ h => h) (Or.inl ⟨by rfl, ?_⟩) (by assumption) ?_
                    rotate_left 1
                    · (intro w' hSw; go_simp; try with_reducible rfl)
                    try simp only [Act.put, List.setIfInBounds_toArray, List.set_cons_zero, List.set_cons_succ]
                    refine wpAnyW_held (i := 12) (by kernel_rfl) (by simp only [List.getElem?_toArray, List.getElem?_cons_succ, List.getElem?_cons_zero]; rfl) (fun K hK => ?_)
                    rw [if_pos (by rfl)]
                    refine wpB (ty := 27) #[.int .u32 (cn.toNat : Int), .slice A5 0 k5] rfl rfl rfl HXpa.out infoS rfl (cellsS_one _ _ _ _) ?_
                    intro y1 ht hg
                    have HS : (fun V => Bx V g8 27 #[.int .u32 (c.toNat : Int), .slice A n k] ∧ Bx V g8 27 #[.int .u32 (c.toNat : Int), .slice A n k] ∧ Below wr.heap.size wr V) _ := ⟨hHeld.1.kept hg (by omega), hHeld.2.1.kept hg (by omega), below_of_grown1 hHeld.2.2 hg hHeld.2.2.size hzgpa⟩
                    replace HXpb := Lib.hid (HXpb.out.kept hg (by omega))
                    replace HXpa := Lib.hid ht
                    clear ht hg hHeld
                    refine hK.out _ _ HS (fun hHeld => ?_)
                    clear hK K HS
                    try simp only [Act.put, List.setIfInBounds_toArray, List.set_cons_zero, List.set_cons_succ]
                    refine wpAnyW_held (i := 13) (by kernel_rfl) (by simp only [List.getElem?_toArray, List.getElem?_cons_succ, List.getElem?_cons_zero]; rfl) (fun K hK => ?_)
                    rw [if_pos (by rfl)]
                    refine wpB (ty := 42) #[.int .i64 all, .int .i64 all, .bool m5, .bool f5, .slice A6 n k6, .slice A7 0 k7, .slice A8 n k8] rfl rfl rfl HXpb.out infoR rfl (cellsR_one _ _ _ _ _ _ _ _ _ _ _ _ _) ?_
                    intro y2 ht hg
                    have HS : (fun V => Bx V g8 27 #[.int .u32 (c.toNat : Int), .slice A n k] ∧ Bx V g8 27 #[.int .u32 (c.toNat : Int), .slice A n k] ∧ Below wr.heap.size wr V) _ := ⟨hHeld.1.kept hg (by omega), hHeld.2.1.kept hg (by omega), below_of_grown1 hHeld.2.2 hg hHeld.2.2.size hzgpb⟩
                    replace HXpa := Lib.hid (HXpa.out.kept hg (by omega))
                    replace HXpb := Lib.hid ht
                    clear ht hg hHeld
                    refine hK.out _ _ HS (fun hHeld => ?_)
                    clear hK K HS
                    try simp only [Act.put, List.setIfInBounds_toArray, List.set_cons_zero, List.set_cons_succ]
                    refine wpAnyW_freed (i := 14) (by kernel_rfl) (by kernel_rfl) (by simp only [List.getElem?_toArray, List.getElem?_cons_succ, List.getElem?_cons_zero]; rfl) (fun K hK => ?_)
                    rw [if_pos (by rfl)]
                    go_simp
                    have HE := Lib.hid hHeld
                    refine hK.out _ _ ?_
                    clear hK K hHeld
                    try simp only [Act.put, List.setIfInBounds_toArray, List.set_cons_zero, List.set_cons_succ]
                    refine wpAnyW_done (by kernel_rfl) ?_ _
                    refine NoPanic.normal ?_
                    go_wp2_with fail
                    go_meet
                    exact ⟨gpa, gpb, A5, k5, A6, k6, A7, k7, A8, k8, m5, f5, rfl, rfl, rfl, Lib.hid ⟨HXpa.out, HXpb.out, HE.out.1, HR5.out, HE.out.2.2⟩⟩
            · as_aux_lemma =>
                rw [if_pos (by rfl)]
                obtain ⟨vp0, hvp0, HXpb, HBvp0, hsvp0⟩ := one_open wr.drew 42 #[.int .i64 0, .int .i64 0, .bool false, .bool false, .slice none 0 0, .slice none 0 0, .slice none 0 0]
                obtain ⟨gpb, hgpb⟩ : ∃ g, wr.drew.heap.size = g := ⟨_, rfl⟩
                rw [hgpb] at HXpb hsvp0
                have HS : (fun V => Bx V g8 27 #[.int .u32 (c.toNat : Int), .slice A n k] ∧ Bx V g8 27 #[.int .u32 (c.toNat : Int), .slice A n k] ∧ Below wr.heap.size wr V) _ := ⟨hHeld.1.later HBvp0.out, hHeld.2.1.later HBvp0.out, hHeld.2.2.trans (HBvp0.out.mono hHeld.2.2.size)⟩
                have hzgpb : wr.heap.size ≤ gpb := by have := hHeld.2.2.size; omega
                clear hHeld HBvp0 hsvp0
                go_simp
                refine hK.out _ _ HS (fun hHeld => ?_)
                clear hK K HS
                try simp only [Act.put, List.setIfInBounds_toArray, List.set_cons_zero, List.set_cons_succ]
                refine wpAnyW_two (i := 2) (i2 := 10) (by kernel_rfl) (by simp only [List.getElem?_toArray, List.getElem?_cons_succ, List.getElem?_cons_zero]; rfl) (by simp only [List.getElem?_toArray, List.getElem?_cons_succ, List.getElem?_cons_zero]; rfl) (fun K hK => ?_) (fun K hK => ?_)
                · as_aux_lemma =>
                    rw [if_pos (by rfl)]
                    go_simp
                    refine (HNX.out A k _).mono ?_
                    rintro _ up1 ⟨rfl, hb⟩
                    have HS : (fun V => Bx V g8 27 #[.int .u32 (c.toNat : Int), .slice A n k] ∧ Bx V g8 27 #[.int .u32 (c.toNat : Int), .slice A n k] ∧ Below wr.heap.size wr V) _ := ⟨hHeld.1.later hb, hHeld.2.1.later hb, hHeld.2.2.trans (hb.mono hHeld.2.2.size)⟩
                    replace HXpb := Lib.hid (HXpb.out.later hb)
                    clear hHeld hb
                    go_wp2_with fail
                    refine hK.out _ _ HS (fun hHeld => ?_)
                    clear hK K HS
                    try simp only [Act.put, List.setIfInBounds_toArray, List.set_cons_zero, List.set_cons_succ]
                    refine wpAnyW_take (i := 3) (v := ?_) (by simp only [List.getElem?_toArray, List.getElem?_cons_succ, List.getElem?_cons_zero]; rfl) (by kernel_rfl) (by kernel_rfl) (by kernel_rfl) (by kernel_rfl) (by kernel_rfl) (fun _ _ _ h => h) (Or.inl ⟨by rfl, ?_⟩) (by assumption) ?_
                    rotate_left 1
                    · (intro w' hSw; go_simp; try with_reducible rfl)
                    try simp only [Act.put, List.setIfInBounds_toArray, List.set_cons_zero, List.set_cons_succ]
                    refine wpAnyW_two (i := 5) (i2 := 10) (by kernel_rfl) (by simp only [List.getElem?_toArray, List.getElem?_cons_succ, List.getElem?_cons_zero]; rfl) (by simp only [List.getElem?_toArray, List.getElem?_cons_succ, List.getElem?_cons_zero]; rfl) (fun K hK => ?_) (fun K hK => ?_)
                    · rw [if_pos (by rfl)]
                      go_simp
                      refine (HAK.out _ _ (HRS.out.below hHeld.2.2)).mono ?_
                      rintro _ up2 ⟨A5, k5, A6, k6, A7, k7, A8, k8, f5, m5, rfl, hr5, hb⟩
                      have HS : (fun V => Bx V g8 27 #[.int .u32 (c.toNat : Int), .slice A n k] ∧ Bx V g8 27 #[.int .u32 (c.toNat : Int), .slice A n k] ∧ Below wr.heap.size wr V) _ := ⟨hHeld.1.later hb, hHeld.2.1.later hb, hHeld.2.2.trans (hb.mono hHeld.2.2.size)⟩
                      have HR5 : Hid (∀ W, RowP W (.slice A5 0 k5) []) := Lib.hid (fun W => rowP_empty hr5)
                      clear hr5
                      replace HXpb := Lib.hid (HXpb.out.later hb)
                      clear hHeld hb
                      go_wp2_with fail
                      refine hK.out _ _ HS (fun hHeld => ?_)
                      clear hK K HS
                      try simp only [Act.put, List.setIfInBounds_toArray, List.set_cons_zero, List.set_cons_succ]
                      refine wpAnyW_take (i := 6) (v := ?_) (by simp only [List.getElem?_toArray, List.getElem?_cons_succ, List.getElem?_cons_zero]; rfl) (by kernel_rfl) (by kernel_rfl) (by kernel_rfl) (by kernel_rfl) (by kernel_rfl) (fun _ _ _ h => h) (Or.inl ⟨by rfl, ?_⟩) (by assumption) ?_
                      rotate_left 1
                      · (intro w' hSw; go_simp; try with_reducible rfl)
                      try simp only [Act.put, List.setIfInBounds_toArray, List.set_cons_zero, List.set_cons_succ]
                      refine wpAnyW_take (i := 7) (v := ?_) (by simp only [List.getElem?_toArray, List.getElem?_cons_succ, List.getElem?_cons_zero]; rfl) (by kernel_rfl) (by kernel_rfl) (by kernel_rfl) (by kernel_rfl) (by kernel_rfl) (fun _ _ _ h => h) (Or.inl ⟨by rfl, ?_⟩) (by assumption) ?_
                      rotate_left 1
                      · (intro w' hSw; go_simp; try with_reducible rfl)
                      try simp only [Act.put, List.setIfInBounds_toArray, List.set_cons_zero, List.set_cons_succ]
                      refine wpAnyW_take (i := 8) (v := ?_) (by simp only [List.getElem?_toArray, List.getElem?_cons_succ, List.getElem?_cons_zero]; rfl) (by kernel_rfl) (by kernel_rfl) (by kernel_rfl) (by kernel_rfl) (by kernel_rfl) (fun _ _ _ h => h) (Or.inl ⟨by rfl, ?_⟩) (by assumption) ?_
                      rotate_left 1
                      · (intro w' hSw; go_simp; try with_reducible rfl)
                      try simp only [Act.put, List.setIfInBounds_toArray, List.set_cons_zero, List.set_cons_succ]
                      refine wpAnyW_take (i := 9) (v := ?_) (by simp only [List.getElem?_toArray, List.getElem?_cons_succ, List.getElem?_cons_zero]; rfl) (by kernel_rfl) (by kernel_rfl) (by kernel_rfl) (by kernel_rfl) (by kernel_rfl) (fun _ _ _ h => h) (Or.inl ⟨by rfl, ?_⟩) (by assumption) ?_
                      rotate_left 1
                      · (intro w' hSw; go_simp; try with_reducible rfl)
                      try simp only [Act.put, List.setIfInBounds_toArray, List.set_cons_zero, List.set_cons_succ]
                      refine wpAnyW_held (i := 10) (by kernel_rfl) (by simp only [List.getElem?_toArray, List.getElem?_cons_succ, List.getElem?_cons_zero]; rfl) (fun K hK => ?_)
                      rw [if_pos (by rfl)]
                      obtain ⟨vp3, hvp3, HXpa, HBvp3, hsvp3⟩ := one_open up2 27 #[.int .u32 0, .slice none 0 0]
                      obtain ⟨gpa, hgpa⟩ : ∃ g, up2.heap.size = g := ⟨_, rfl⟩
                      rw [hgpa] at HXpa hsvp3
                      have HS : (fun V => Bx V g8 27 #[.int .u32 (c.toNat : Int), .slice A n k] ∧ Bx V g8 27 #[.int .u32 (c.toNat : Int), .slice A n k] ∧ Below wr.heap.size wr V) _ := ⟨hHeld.1.later HBvp3.out, hHeld.2.1.later HBvp3.out, hHeld.2.2.trans (HBvp3.out.mono hHeld.2.2.size)⟩
                      have hzgpa : wr.heap.size ≤ gpa := by have := hHeld.2.2.size; omega
                      have hnep : gpb < gpa := by have := HXpb.out.lt; omega
                      replace HXpb := Lib.hid (HXpb.out.later HBvp3.out)
                      clear hHeld HBvp3 hsvp3
                      go_simp
                      refine hK.out _ _ HS (fun hHeld => ?_)
                      clear hK K HS
                      try simp only [Act.put, List.setIfInBounds_toArray, List.set_cons_zero, List.set_cons_succ]
                      refine wpAnyW_held (i := 12) (by kernel_rfl) (by simp only [List.getElem?_toArray, List.getElem?_cons_succ, List.getElem?_cons_zero]; rfl) (fun K hK => ?_)
                      rw [if_pos (by rfl)]
                      refine wpB (ty := 27) #[.int .u32 (cn.toNat : Int), .slice A5 0 k5] rfl rfl rfl HXpa.out infoS rfl (cellsS_one _ _ _ _) ?_
                      intro y1 ht hg
                      have HS : (fun V => Bx V g8 27 #[.int .u32 (c.toNat : Int), .slice A n k] ∧ Bx V g8 27 #[.int .u32 (c.toNat : Int), .slice A n k] ∧ Below wr.heap.size wr V) _ := ⟨hHeld.1.kept hg (by omega), hHeld.2.1.kept hg (by omega), below_of_grown1 hHeld.2.2 hg hHeld.2.2.size hzgpa⟩
                      replace HXpb := Lib.hid (HXpb.out.kept hg (by omega))
                      replace HXpa := Lib.hid ht
                      clear ht hg hHeld
                      refine hK.out _ _ HS (fun hHeld => ?_)
                      clear hK K HS
                      try simp only [Act.put, List.setIfInBounds_toArray, List.set_cons_zero, List.set_cons_succ]
                      refine wpAnyW_held (i := 13) (by kernel_rfl) (by simp only [List.getElem?_toArray, List.getElem?_cons_succ, List.getElem?_cons_zero]; rfl) (fun K hK => ?_)
                      rw [if_pos (by rfl)]
                      refine wpB (ty := 42) #[.int .i64 all, .int .i64 all, .bool m5, .bool f5, .slice A6 n k6, .slice A7 0 k7, .slice A8 n k8] rfl rfl rfl HXpb.out infoR rfl (cellsR_one _ _ _ _ _ _ _ _ _ _ _ _ _) ?_
                      intro y2 ht hg
                      have HS : (fun V => Bx V g8 27 #[.int .u32 (c.toNat : Int), .slice A n k] ∧ Bx V g8 27 #[.int .u32 (c.toNat : Int), .slice A n k] ∧ Below wr.heap.size wr V) _ := ⟨hHeld.1.kept hg (by omega), hHeld.2.1.kept hg (by omega), below_of_grown1 hHeld.2.2 hg hHeld.2.2.size hzgpb⟩
                      replace HXpa := Lib.hid (HXpa.out.kept hg (by omega))
                      replace HXpb := Lib.hid ht
                      clear ht hg hHeld
                      refine hK.out _ _ HS (fun hHeld => ?_)
                      clear hK K HS
                      try simp only [Act.put, List.setIfInBounds_toArray, List.set_cons_zero, List.set_cons_succ]
                      refine wpAnyW_freed (i := 14) (by kernel_rfl) (by kernel_rfl) (by simp only [List.getElem?_toArray, List.getElem?_cons_succ, List.getElem?_cons_zero]; rfl) (fun K hK => ?_)
                      rw [if_pos (by rfl)]
                      go_simp
                      have HE := Lib.hid hHeld
                      refine hK.out _ _ ?_
                      clear hK K hHeld
                      try simp only [Act.put, List.setIfInBounds_toArray, List.set_cons_zero, List.set_cons_succ]
                      refine wpAnyW_done (by kernel_rfl) ?_ _
                      refine NoPanic.normal ?_
                      go_wp2_with fail
                      go_meet
                      exact ⟨gpa, gpb, A5, k5, A6, k6, A7, k7, A8, k8, m5, f5, rfl, rfl, rfl, Lib.hid ⟨HXpa.out, HXpb.out, HE.out.1, HR5.out, HE.out.2.2⟩⟩
                    · rw [if_pos (by rfl)]
                      obtain ⟨vp2, hvp2, HXpa, HBvp2, hsvp2⟩ := one_open up1 27 #[.int .u32 0, .slice none 0 0]
                      obtain ⟨gpa, hgpa⟩ : ∃ g, up1.heap.size = g := ⟨_, rfl⟩
                      rw [hgpa] at HXpa hsvp2
                      have HS : (fun V => Bx V g8 27 #[.int .u32 (c.toNat : Int), .slice A n k] ∧ Bx V g8 27 #[.int .u32 (c.toNat : Int), .slice A n k] ∧ Below wr.heap.size wr V) _ := ⟨hHeld.1.later HBvp2.out, hHeld.2.1.later HBvp2.out, hHeld.2.2.trans (HBvp2.out.mono hHeld.2.2.size)⟩
                      have hzgpa : wr.heap.size ≤ gpa := by have := hHeld.2.2.size; omega
                      have hnep : gpb < gpa := by have := HXpb.out.lt; omega
                      replace HXpb := Lib.hid (HXpb.out.later HBvp2.out)
                      clear hHeld HBvp2 hsvp2
                      go_simp
                      refine hK.out _ _ HS (fun hHeld => ?_)
                      clear hK K HS
                      try simp only [Act.put, List.setIfInBounds_toArray, List.set_cons_zero, List.set_cons_succ]
                      refine wpAnyW_held (i := 5) (by kernel_rfl) (by simp only [List.getElem?_toArray, List.getElem?_cons_succ, List.getElem?_cons_zero]; rfl) (fun K hK => ?_)
                      rw [if_pos (by rfl)]
                      go_simp
                      refine (HAK.out _ _ (HRS.out.below hHeld.2.2)).mono ?_
                      rintro _ up3 ⟨A5, k5, A6, k6, A7, k7, A8, k8, f5, m5, rfl, hr5, hb⟩
                      have HS : (fun V => Bx V g8 27 #[.int .u32 (c.toNat : Int), .slice A n k] ∧ Bx V g8 27 #[.int .u32 (c.toNat : Int), .slice A n k] ∧ Below wr.heap.size wr V) _ := ⟨hHeld.1.later hb, hHeld.2.1.later hb, hHeld.2.2.trans (hb.mono hHeld.2.2.size)⟩
                      have HR5 : Hid (∀ W, RowP W (.slice A5 0 k5) []) := Lib.hid (fun W => rowP_empty hr5)
                      clear hr5
                      replace HXpb := Lib.hid (HXpb.out.later hb)
                      replace HXpa := Lib.hid (HXpa.out.later hb)
                      clear hHeld hb
                      go_wp2_with fail
                      refine hK.out _ _ HS (fun hHeld => ?_)
                      clear hK K HS
                      try simp only [Act.put, List.setIfInBounds_toArray, List.set_cons_zero, List.set_cons_succ]
                      refine wpAnyW_take (i := 6) (v := ?_) (by simp only [List.getElem?_toArray, List.getElem?_cons_succ, List.getElem?_cons_zero]; rfl) (by kernel_rfl) (by kernel_rfl) (by kernel_rfl) (by kernel_rfl) (by kernel_rfl) (fun _ _ _ h => h) (Or.inl ⟨by rfl, ?_⟩) (by assumption) ?_
                      rotate_left 1
                      · (intro w' hSw; go_simp; try with_reducible rfl)
                      try simp only [Act.put, List.setIfInBounds_toArray, List.set_cons_zero, List.set_cons_succ]
                      refine wpAnyW_take (i := 7) (v := ?_) (by simp only [List.getElem?_toArray, List.getElem?_cons_succ, List.getElem?_cons_zero]; rfl) (by kernel_rfl) (by kernel_rfl) (by kernel_rfl) (by kernel_rfl) (by kernel_rfl) (fun _ _ _ h => h) (Or.inl ⟨by rfl, ?_⟩) (by assumption) ?_
                      rotate_left 1
                      · (intro w' hSw; go_simp; try with_reducible rfl)
                      try simp only [Act.put, List.setIfInBounds_toArray, List.set_cons_zero, List.set_cons_succ]
                      refine wpAnyW_take (i := 8) (v := ?_) (by simp only [List.getElem?_toArray, List.getElem?_cons_succ, List.getElem?_cons_zero]; rfl) (by kernel_rfl) (by kernel_rfl) (by kernel_rfl) (by kernel_rfl) (by kernel_rfl) (fun _ _ _ h => h) (Or.inl ⟨by rfl, ?_⟩) (by assumption) ?_
                      rotate_left 1
                      · (intro w' hSw; go_simp; try with_reducible rfl)
                      try simp only [Act.put, List.setIfInBounds_toArray, List.set_cons_zero, List.set_cons_succ]
                      refine wpAnyW_take (i := 9) (v := ?_) (by simp only [List.getElem?_toArray, List.getElem?_cons_succ, List.getElem?_cons_zero]; rfl) (by kernel_rfl) (by kernel_rfl) (by kernel_rfl) (by kernel_rfl) (by kernel_rfl) (fun _ _ _ h => h) (Or.inl ⟨by rfl, ?_⟩) (by assumption) ?_
                      rotate_left 1
                      · (intro w' hSw; go_simp; try with_reducible rfl)
                      try simp only [Act.put, List.setIfInBounds_toArray, List.set_cons_zero, List.set_cons_succ]
                      refine wpAnyW_held (i := 12) (by kernel_rfl) (by simp only [List.getElem?_toArray, List.getElem?_cons_succ, List.getElem?_cons_zero]; rfl) (fun K hK => ?_)
                      rw [if_pos (by rfl)]
                      refine wpB (ty := 27) #[.int .u32 (cn.toNat : Int), .slice A5 0 k5] rfl rfl rfl HXpa.out infoS rfl (cellsS_one _ _ _ _) ?_
                      intro y1 ht hg
                      have HS : (fun V => Bx V g8 27 #[.int .u32 (c.toNat : Int), .slice A n k] ∧ Bx V g8 27 #[.int .u32 (c.toNat : Int), .slice A n k] ∧ Below wr.heap.size wr V) _ := ⟨hHeld.1.kept hg (by omega), hHeld.2.1.kept hg (by omega), below_of_grown1 hHeld.2.2 hg hHeld.2.2.size hzgpa⟩
                      replace HXpb := Lib.hid (HXpb.out.kept hg (by omega))
                      replace HXpa := Lib.hid ht
                      clear ht hg hHeld
                      refine hK.out _ _ HS (fun hHeld => ?_)
                      clear hK K HS
                      try simp only [Act.put, List.setIfInBounds_toArray, List.set_cons_zero, List.set_cons_succ]
                      refine wpAnyW_held (i := 13) (by kernel_rfl) (by simp only [List.getElem?_toArray, List.getElem?_cons_succ, List.getElem?_cons_zero]; rfl) (fun K hK => ?_)
                      rw [if_pos (by rfl)]
                      refine wpB (ty := 42) #[.int .i64 all, .int .i64 all, .bool m5, .bool f5, .slice A6 n k6, .slice A7 0 k7, .slice A8 n k8] rfl rfl rfl HXpb.out infoR rfl (cellsR_one _ _ _ _ _ _ _ _ _ _ _ _ _) ?_
                      intro y2 ht hg
                      have HS : (fun V => Bx V g8 27 #[.int .u32 (c.toNat : Int), .slice A n k] ∧ Bx V g8 27 #[.int .u32 (c.toNat : Int), .slice A n k] ∧ Below wr.heap.size wr V) _ := ⟨hHeld.1.kept hg (by omega), hHeld.2.1.kept hg (by omega), below_of_grown1 hHeld.2.2 hg hHeld.2.2.size hzgpb⟩
                      replace HXpa := Lib.hid (HXpa.out.kept hg (by omega))
                      replace HXpb := Lib.hid ht
                      clear ht hg hHeld
                      refine hK.out _ _ HS (fun hHeld => ?_)
                      clear hK K HS
                      try simp only [Act.put, List.setIfInBounds_toArray, List.set_cons_zero, List.set_cons_succ]
                      refine wpAnyW_freed (i := 14) (by kernel_rfl) (by kernel_rfl) (by simp only [List.getElem?_toArray, List.getElem?_cons_succ, List.getElem?_cons_zero]; rfl) (fun K hK => ?_)
                      rw [if_pos (by rfl)]
                      go_simp
                      have HE := Lib.hid hHeld
                      refine hK.out _ _ ?_
                      clear hK K hHeld
                      try simp only [Act.put, List.setIfInBounds_toArray, List.set_cons_zero, List.set_cons_succ]
                      refine wpAnyW_done (by kernel_rfl) ?_ _
                      refine NoPanic.normal ?_
                      go_wp2_with fail
                      go_meet
                      exact ⟨gpa, gpb, A5, k5, A6, k6, A7, k7, A8, k8, m5, f5, rfl, rfl, rfl, Lib.hid ⟨HXpa.out, HXpb.out, HE.out.1, HR5.out, HE.out.2.2⟩⟩
                · as_aux_lemma =>
                    rw [if_pos (by rfl)]
                    obtain ⟨vp1, hvp1, HXpa, HBvp1, hsvp1⟩ := one_open vp0 27 #[.int .u32 0, .slice none 0 0]
                    obtain ⟨gpa, hgpa⟩ : ∃ g, vp0.heap.size = g := ⟨_, rfl⟩
                    rw [hgpa] at HXpa hsvp1
                    have HS : (fun V => Bx V g8 27 #[.int .u32 (c.toNat : Int), .slice A n k] ∧ Bx V g8 27 #[.int .u32 (c.toNat : Int), .slice A n k] ∧ Below wr.heap.size wr V) _ := ⟨hHeld.1.later HBvp1.out, hHeld.2.1.later HBvp1.out, hHeld.2.2.trans (HBvp1.out.mono hHeld.2.2.size)⟩
                    have hzgpa : wr.heap.size ≤ gpa := by have := hHeld.2.2.size; omega
                    have hnep : gpb < gpa := by have := HXpb.out.lt; omega
                    replace HXpb := Lib.hid (HXpb.out.later HBvp1.out)
                    clear hHeld HBvp1 hsvp1
                    go_simp
                    refine hK.out _ _ HS (fun hHeld => ?_)
                    clear hK K HS
                    try simp only [Act.put, List.setIfInBounds_toArray, List.set_cons_zero, List.set_cons_succ]
                    refine wpAnyW_held (i := 2) (by kernel_rfl) (by simp only [List.getElem?_toArray, List.getElem?_cons_succ, List.getElem?_cons_zero]; rfl) (fun K hK => ?_)
                    rw [if_pos (by rfl)]
                    go_simp
                    refine (HNX.out A k _).mono ?_
                    rintro _ up2 ⟨rfl, hb⟩
                    have HS : (fun V => Bx V g8 27 #[.int .u32 (c.toNat : Int), .slice A n k] ∧ Bx V g8 27 #[.int .u32 (c.toNat : Int), .slice A n k] ∧ Below wr.heap.size wr V) _ := ⟨hHeld.1.later hb, hHeld.2.1.later hb, hHeld.2.2.trans (hb.mono hHeld.2.2.size)⟩
                    replace HXpb := Lib.hid (HXpb.out.later hb)
                    replace HXpa := Lib.hid (HXpa.out.later hb)
                    clear hHeld hb
                    go_wp2_with fail
                    refine hK.out _ _ HS (fun hHeld => ?_)
                    clear hK K HS
                    try simp only [Act.put, List.setIfInBounds_toArray, List.set_cons_zero, List.set_cons_succ]
                    refine wpAnyW_take (i := 3) (v := ?_) (by simp only [List.getElem?_toArray, List.getElem?_cons_succ, List.getElem?_cons_zero]; rfl) (by kernel_rfl) (by kernel_rfl) (by kernel_rfl) (by kernel_rfl) (by kernel_rfl) (fun _ _ _ h => h) (Or.inl ⟨by rfl, ?_⟩) (by assumption) ?_
                    rotate_left 1
                    · (intro w' hSw; go_simp; try with_reducible rfl)
                    try simp only [Act.put, List.setIfInBounds_toArray, List.set_cons_zero, List.set_cons_succ]
                    refine wpAnyW_held (i := 5) (by kernel_rfl) (by simp only [List.getElem?_toArray, List.getElem?_cons_succ, List.getElem?_cons_zero]; rfl) (fun K hK => ?_)
                    rw [if_pos (by rfl)]
                    go_simp
                    refine (HAK.out _ _ (HRS.out.below hHeld.2.2)).mono ?_
                    rintro _ up3 ⟨A5, k5, A6, k6, A7, k7, A8, k8, f5, m5, rfl, hr5, hb⟩
                    have HS : (fun V => Bx V g8 27 #[.int .u32 (c.toNat : Int), .slice A n k] ∧ Bx V g8 27 #[.int .u32 (c.toNat : Int), .slice A n k] ∧ Below wr.heap.size wr V) _ := ⟨hHeld.1.later hb, hHeld.2.1.later hb, hHeld.2.2.trans (hb.mono hHeld.2.2.size)⟩
                    have HR5 : Hid (∀ W, RowP W (.slice A5 0 k5) []) := Lib.hid (fun W => rowP_empty hr5)
                    clear hr5
                    replace HXpb := Lib.hid (HXpb.out.later hb)
                    replace HXpa := Lib.hid (HXpa.out.later hb)
                    clear hHeld hb
                    go_wp2_with fail
                    refine hK.out _ _ HS (fun hHeld => ?_)
                    clear hK K HS
                    try simp only [Act.put, List.setIfInBounds_toArray, List.set_cons_zero, List.set_cons_succ]
                    refine wpAnyW_take (i := 6) (v := ?_) (by simp only [List.getElem?_toArray, List.getElem?_cons_succ, List.getElem?_cons_zero]; rfl) (by kernel_rfl) (by kernel_rfl) (by kernel_rfl) (by kernel_rfl) (by kernel_rfl) (fun _ _ _ h => h) (Or.inl ⟨by rfl, ?_⟩) (by assumption) ?_
                    rotate_left 1
                    · (intro w' hSw; go_simp; try with_reducible rfl)
                    try simp only [Act.put, List.setIfInBounds_toArray, List.set_cons_zero, List.set_cons_succ]
                    refine wpAnyW_take (i := 7) (v := ?_) (by simp only [List.getElem?_toArray, List.getElem?_cons_succ, List.getElem?_cons_zero]; rfl) (by kernel_rfl) (by kernel_rfl) (by kernel_rfl) (by kernel_rfl) (by kernel_rfl) (fun _ _ _ h => h) (Or.inl ⟨by rfl, ?_⟩) (by assumption) ?_
                    rotate_left 1
                    · (intro w' hSw; go_simp; try with_reducible rfl)
                    try simp only [Act.put, List.setIfInBounds_toArray, List.set_cons_zero, List.set_cons_succ]
                    refine wpAnyW_take (i := 8) (v := ?_) (by simp only [List.getElem?_toArray, List.getElem?_cons_succ, List.getElem?_cons_zero]; rfl) (by kernel_rfl) (by kernel_rfl) (by kernel_rfl) (by kernel_rfl) (by kernel_rfl) (fun _ _ _ h => h) (Or.inl ⟨by rfl, ?_⟩) (by assumption) ?_
                    rotate_left 1
                    · (intro w' hSw; go_simp; try with_reducible rfl)
                    try simp only [Act.put, List.setIfInBounds_toArray, List.set_cons_zero, List.set_cons_succ]
                    refine wpAnyW_take (i := 9) (v := ?_) (by simp only [List.getElem?_toArray, List.getElem?_cons_succ, List.getElem?_cons_zero]; rfl) (by kernel_rfl) (by kernel_rfl) (by kernel_rfl) (by kernel_rfl) (by kernel_rfl) (fun _ _ _ h => h) (Or.inl ⟨by rfl, ?_⟩) (by assumption) ?_
                    rotate_left 1
                    · (intro w' hSw; go_simp; try with_reducible rfl)
                    try simp only [Act.put, List.setIfInBounds_toArray, List.set_cons_zero, List.set_cons_succ]
                    refine wpAnyW_held (i := 12) (by kernel_rfl) (by simp only [List.getElem?_toArray, List.getElem?_cons_succ, List.getElem?_cons_zero]; rfl) (fun K hK => ?_)
                    rw [if_pos (by rfl)]
                    refine wpB (ty := 27) #[.int .u32 (cn.toNat : Int), .slice A5 0 k5] rfl rfl rfl HXpa.out infoS rfl (cellsS_one _ _ _ _) ?_
                    intro y1 ht hg
                    have HS : (fun V => Bx V g8 27 #[.int .u32 (c.toNat : Int), .slice A n k] ∧ Bx V g8 27 #[.int .u32 (c.toNat : Int), .slice A n k] ∧ Below wr.heap.size wr V) _ := ⟨hHeld.1.kept hg (by omega), hHeld.2.1.kept hg (by omega), below_of_grown1 hHeld.2.2 hg hHeld.2.2.size hzgpa⟩
                    replace HXpb := Lib.hid (HXpb.out.kept hg (by omega))
                    replace HXpa := Lib.hid ht
                    clear ht hg hHeld
                    refine hK.out _ _ HS (fun hHeld => ?_)
                    clear hK K HS
                    try simp only [Act.put, List.setIfInBounds_toArray, List.set_cons_zero, List.set_cons_succ]
                    refine wpAnyW_held (i := 13) (by kernel_rfl) (by simp only [List.getElem?_toArray, List.getElem?_cons_succ, List.getElem?_cons_zero]; rfl) (fun K hK => ?_)
                    rw [if_pos (by rfl)]
                    refine wpB (ty := 42) #[.int .i64 all, .int .i64 all, .bool m5, .bool f5, .slice A6 n k6, .slice A7 0 k7, .slice A8 n k8] rfl rfl rfl HXpb.out infoR rfl (cellsR_one _ _ _ _ _ _ _ _ _ _ _ _ _) ?_
                    intro y2 ht hg
                    have HS : (fun V => Bx V g8 27 #[.int .u32 (c.toNat : Int), .slice A n k] ∧ Bx V g8 27 #[.int .u32 (c.toNat : Int), .slice A n k] ∧ Below wr.heap.size wr V) _ := ⟨hHeld.1.kept hg (by omega), hHeld.2.1.kept hg (by omega), below_of_grown1 hHeld.2.2 hg hHeld.2.2.size hzgpb⟩
                    replace HXpa := Lib.hid (HXpa.out.kept hg (by omega))
                    replace HXpb := Lib.hid ht
                    clear ht hg hHeld
                    refine hK.out _ _ HS (fun hHeld => ?_)
                    clear hK K HS
                    try simp only [Act.put, List.setIfInBounds_toArray, List.set_cons_zero, List.set_cons_succ]
                    refine wpAnyW_freed (i := 14) (by kernel_rfl) (by kernel_rfl) (by simp only [List.getElem?_toArray, List.getElem?_cons_succ, List.getElem?_cons_zero]; rfl) (fun K hK => ?_)
                    rw [if_pos (by rfl)]
                    go_simp
                    have HE := Lib.hid hHeld
                    refine hK.out _ _ ?_
                    clear hK K hHeld
                    try simp only [Act.put, List.setIfInBounds_toArray, List.set_cons_zero, List.set_cons_succ]
                    refine wpAnyW_done (by kernel_rfl) ?_ _
                    refine NoPanic.normal ?_
                    go_wp2_with fail
                    go_meet
                    exact ⟨gpa, gpb, A5, k5, A6, k6, A7, k7, A8, k8, m5, f5, rfl, rfl, rfl, Lib.hid ⟨HXpa.out, HXpb.out, HE.out.1, HR5.out, HE.out.2.2⟩⟩
        case rest =>
          as_aux_lemma =>
          obtain ⟨g15, g16, A5, k5, A6, k6, A7, k7, A8, k8, m5, f5, rfl, rfl, rfl, HH⟩ := hcut
          have HR5 := Lib.hid HH.out.2.2.2.1
          have HBC := Lib.hid (HB.out.trans (HH.out.2.2.2.2.mono HB.out.size))
          clear HQ HRS HB
          go_wp2_with fail
          have HS : (fun V => Bx V g15 27 #[.int .u32 (cn.toNat : Int), .slice A5 0 k5] ∧ Bx V g16 42 #[.int .i64 all, .int .i64 all, .bool m5, .bool f5, .slice A6 n k6, .slice A7 0 k7, .slice A8 n k8] ∧ Bx V g8 27 #[.int .u32 (c.toNat : Int), .slice A n k] ∧ Below wc.heap.size wc V) _ := ⟨HH.out.1.drew, HH.out.2.1.drew, HH.out.2.2.1.drew, below_drawn (Below.refl _ _)⟩
          refine wp_region_noPanic ?_
          refine wp_region_waits (S := (fun V => Bx V g15 27 #[.int .u32 (cn.toNat : Int), .slice A5 0 k5] ∧ Bx V g16 42 #[.int .i64 all, .int .i64 all, .bool m5, .bool f5, .slice A6 n k6, .slice A7 0 k7, .slice A8 n k8] ∧ Bx V g8 27 #[.int .u32 (c.toNat : Int), .slice A n k] ∧ Below wc.heap.size wc V)) [] (by kernel_rfl) HS (fun hHeld => ?_)
          clear HS
          refine wpAnyW_take (i := 0) (v := ?_) (by simp only [List.getElem?_toArray, List.getElem?_cons_zero]; rfl) (by kernel_rfl) (by kernel_rfl) (by kernel_rfl) (by kernel_rfl) (by kernel_rfl) (fun _ _ _ h => h) (Or.inl ⟨by rfl, ?_⟩) (by assumption) ?_
          rotate_left 1
          · (intro w' hSw; go_simp; try with_reducible rfl)
          try simp only [Act.put, List.setIfInBounds_toArray, List.set_cons_zero, List.set_cons_succ]
          refine wpAnyW_take (i := 1) (v := ?_) (by simp only [List.getElem?_toArray, List.getElem?_cons_succ, List.getElem?_cons_zero]; rfl) (by kernel_rfl) (by kernel_rfl) (by kernel_rfl) (by kernel_rfl) (by kernel_rfl) (fun _ _ _ h => h) (Or.inl ⟨by rfl, ?_⟩) (by assumption) ?_
          rotate_left 1
          · (intro w' hSw; go_simp; try with_reducible rfl)
          try simp only [Act.put, List.setIfInBounds_toArray, List.set_cons_zero, List.set_cons_succ]
          refine wpAnyW_take (i := 2) (v := ?_) (by simp only [List.getElem?_toArray, List.getElem?_cons_succ, List.getElem?_cons_zero]; rfl) (by kernel_rfl) (by kernel_rfl) (by kernel_rfl) (by kernel_rfl) (by kernel_rfl) (fun _ _ _ h => h) (Or.inl ⟨by rfl, ?_⟩) (by assumption) ?_
          rotate_left 1
          · (intro w' hSw; go_simp; try with_reducible rfl)
          try simp only [Act.put, List.setIfInBounds_toArray, List.set_cons_zero, List.set_cons_succ]
          refine wpAnyW_take (i := 3) (v := ?_) (by simp only [List.getElem?_toArray, List.getElem?_cons_succ, List.getElem?_cons_zero]; rfl) (by kernel_rfl) (by kernel_rfl) (by kernel_rfl) (by kernel_rfl) (by kernel_rfl) (fun _ _ _ h => h) (Or.inl ⟨by rfl, ?_⟩) (by assumption) ?_
          rotate_left 1
          · (intro w' hSw; go_simp; try with_reducible rfl)
          try simp only [Act.put, List.setIfInBounds_toArray, List.set_cons_zero, List.set_cons_succ]
          refine wpAnyW_take (i := 4) (v := ?_) (by simp only [List.getElem?_toArray, List.getElem?_cons_succ, List.getElem?_cons_zero]; rfl) (by kernel_rfl) (by kernel_rfl) (by kernel_rfl) (by kernel_rfl) (by kernel_rfl) (fun _ _ _ h => h) (Or.inl ⟨by rfl, ?_⟩) (by assumption) ?_
          rotate_left 1
          · (intro w' hSw; have hq := hSw.2.1.cell 0 (.int .i64 all) rfl; go_simp; try with_reducible rfl)
          try simp only [Act.put, List.setIfInBounds_toArray, List.set_cons_zero, List.set_cons_succ]
          refine wpAnyW_take (i := 5) (v := ?_) (by simp only [List.getElem?_toArray, List.getElem?_cons_succ, List.getElem?_cons_zero]; rfl) (by kernel_rfl) (by kernel_rfl) (by kernel_rfl) (by kernel_rfl) (by kernel_rfl) (fun _ _ _ h => h) (Or.inl ⟨by rfl, ?_⟩) (by assumption) ?_
          rotate_left 1
          · (intro w' hSw; go_simp; try with_reducible rfl)
          try simp only [Act.put, List.setIfInBounds_toArray, List.set_cons_zero, List.set_cons_succ]
          refine wpAnyW_take (i := 6) (v := ?_) (by simp only [List.getElem?_toArray, List.getElem?_cons_succ, List.getElem?_cons_zero]; rfl) (by kernel_rfl) (by kernel_rfl) (by kernel_rfl) (by kernel_rfl) (by kernel_rfl) (fun _ _ _ h => h) (Or.inl ⟨by rfl, ?_⟩) (by assumption) ?_
          rotate_left 1
          · (intro w' hSw; go_simp; try with_reducible rfl)
          try simp only [Act.put, List.setIfInBounds_toArray, List.set_cons_zero, List.set_cons_succ]
          refine wpAnyW_take (i := 7) (v := ?_) (by simp only [List.getElem?_toArray, List.getElem?_cons_succ, List.getElem?_cons_zero]; rfl) (by kernel_rfl) (by kernel_rfl) (by kernel_rfl) (by kernel_rfl) (by kernel_rfl) (fun _ _ _ h => h) (Or.inl ⟨by rfl, ?_⟩) (by assumption) ?_
          rotate_left 1
          · (intro w' hSw; go_simp; try with_reducible rfl)
          try simp only [Act.put, List.setIfInBounds_toArray, List.set_cons_zero, List.set_cons_succ]
          refine wpAnyW_take (i := 8) (v := ?_) (by simp only [List.getElem?_toArray, List.getElem?_cons_succ, List.getElem?_cons_zero]; rfl) (by kernel_rfl) (by kernel_rfl) (by kernel_rfl) (by kernel_rfl) (by kernel_rfl) (fun _ _ _ h => h) (Or.inl ⟨by rfl, ?_⟩) (by assumption) ?_
          rotate_left 1
          · (intro w' hSw; go_simp; try with_reducible rfl)
          try simp only [Act.put, List.setIfInBounds_toArray, List.set_cons_zero, List.set_cons_succ]
          refine wpAnyW_take (i := 9) (v := ?_) (by simp only [List.getElem?_toArray, List.getElem?_cons_succ, List.getElem?_cons_zero]; rfl) (by kernel_rfl) (by kernel_rfl) (by kernel_rfl) (by kernel_rfl) (by kernel_rfl) (fun _ _ _ h => h) (Or.inl ⟨by rfl, ?_⟩) (by assumption) ?_
          rotate_left 1
          · (intro w' hSw; go_simp; try with_reducible rfl)
          try simp only [Act.put, List.setIfInBounds_toArray, List.set_cons_zero, List.set_cons_succ]
          refine wpAnyW_take (i := 10) (v := ?_) (by simp only [List.getElem?_toArray, List.getElem?_cons_succ, List.getElem?_cons_zero]; rfl) (by kernel_rfl) (by kernel_rfl) (by kernel_rfl) (by kernel_rfl) (by kernel_rfl) (fun _ _ _ h => h) (Or.inl ⟨by rfl, ?_⟩) (by assumption) ?_
          rotate_left 1
          · (intro w' hSw; have hq := hSw.2.1.cell 1 (.int .i64 all) rfl; go_simp; try with_reducible rfl)
          try simp only [Act.put, List.setIfInBounds_toArray, List.set_cons_zero, List.set_cons_succ]
          refine wpAnyW_take (i := 11) (v := ?_) (by simp only [List.getElem?_toArray, List.getElem?_cons_succ, List.getElem?_cons_zero]; rfl) (by kernel_rfl) (by kernel_rfl) (by kernel_rfl) (by kernel_rfl) (by kernel_rfl) (fun _ _ _ h => h) (Or.inl ⟨by rfl, ?_⟩) (by assumption) ?_
          rotate_left 1
          · (intro w' hSw; go_simp; try with_reducible rfl)
          try simp only [Act.put, List.setIfInBounds_toArray, List.set_cons_zero, List.set_cons_succ]
          refine wpAnyW_take (i := 12) (v := ?_) (by simp only [List.getElem?_toArray, List.getElem?_cons_succ, List.getElem?_cons_zero]; rfl) (by kernel_rfl) (by kernel_rfl) (by kernel_rfl) (by kernel_rfl) (by kernel_rfl) (fun _ _ _ h => h) (Or.inl ⟨by rfl, ?_⟩) (by assumption) ?_
          rotate_left 1
          · (intro w' hSw; go_simp; try with_reducible rfl)
          try simp only [Act.put, List.setIfInBounds_toArray, List.set_cons_zero, List.set_cons_succ]
          refine wpAnyW_take (i := 13) (v := ?_) (by simp only [List.getElem?_toArray, List.getElem?_cons_succ, List.getElem?_cons_zero]; rfl) (by kernel_rfl) (by kernel_rfl) (by kernel_rfl) (by kernel_rfl) (by kernel_rfl) (fun _ _ _ h => h) (Or.inl ⟨by rfl, ?_⟩) (by assumption) ?_
          rotate_left 1
          · (intro w' hSw; go_simp; try with_reducible rfl)
          try simp only [Act.put, List.setIfInBounds_toArray, List.set_cons_zero, List.set_cons_succ]
          refine wpAnyW_take (i := 14) (v := ?_) (by simp only [List.getElem?_toArray, List.getElem?_cons_succ, List.getElem?_cons_zero]; rfl) (by kernel_rfl) (by kernel_rfl) (by kernel_rfl) (by kernel_rfl) (by kernel_rfl) (fun _ _ _ h => h) (Or.inl ⟨by rfl, ?_⟩) (by assumption) ?_
          rotate_left 1
          · (intro w' hSw; go_simp; try with_reducible rfl)
          try simp only [Act.put, List.setIfInBounds_toArray, List.set_cons_zero, List.set_cons_succ]
          refine wpAnyW_take (i := 15) (v := ?_) (by simp only [List.getElem?_toArray, List.getElem?_cons_succ, List.getElem?_cons_zero]; rfl) (by kernel_rfl) (by kernel_rfl) (by kernel_rfl) (by kernel_rfl) (by kernel_rfl) (fun _ _ _ h => h) (Or.inl ⟨by rfl, ?_⟩) (by assumption) ?_
          rotate_left 1
          · (intro w' hSw; go_simp; try with_reducible rfl)
          try simp only [Act.put, List.setIfInBounds_toArray, List.set_cons_zero, List.set_cons_succ]
          refine wpAnyW_take (i := 16) (v := ?_) (by simp only [List.getElem?_toArray, List.getElem?_cons_succ, List.getElem?_cons_zero]; rfl) (by kernel_rfl) (by kernel_rfl) (by kernel_rfl) (by kernel_rfl) (by kernel_rfl) (fun _ _ _ h => h) (Or.inl ⟨by rfl, ?_⟩) (by assumption) ?_
          rotate_left 1
          · (intro w' hSw; have hq := hSw.2.1.cell 4 (.slice A6 n k6) rfl; go_simp; try with_reducible rfl)
          try simp only [Act.put, List.setIfInBounds_toArray, List.set_cons_zero, List.set_cons_succ]
          refine wpAnyW_take (i := 17) (v := ?_) (by simp only [List.getElem?_toArray, List.getElem?_cons_succ, List.getElem?_cons_zero]; rfl) (by kernel_rfl) (by kernel_rfl) (by kernel_rfl) (by kernel_rfl) (by kernel_rfl) (fun _ _ _ h => h) (Or.inl ⟨by rfl, ?_⟩) (by assumption) ?_
          rotate_left 1
          · (intro w' hSw; go_simp; try with_reducible rfl)
          try simp only [Act.put, List.setIfInBounds_toArray, List.set_cons_zero, List.set_cons_succ]
          refine wpAnyW_take (i := 18) (v := ?_) (by simp only [List.getElem?_toArray, List.getElem?_cons_succ, List.getElem?_cons_zero]; rfl) (by kernel_rfl) (by kernel_rfl) (by kernel_rfl) (by kernel_rfl) (by kernel_rfl) (fun _ _ _ h => h) (Or.inl ⟨by rfl, ?_⟩) (by assumption) ?_
          rotate_left 1
          · (intro w' hSw; go_simp; try with_reducible rfl)
          try simp only [Act.put, List.setIfInBounds_toArray, List.set_cons_zero, List.set_cons_succ]
          refine wpAnyW_take (i := 19) (v := ?_) (by simp only [List.getElem?_toArray, List.getElem?_cons_succ, List.getElem?_cons_zero]; rfl) (by kernel_rfl) (by kernel_rfl) (by kernel_rfl) (by kernel_rfl) (by kernel_rfl) (fun _ _ _ h => h) (Or.inl ⟨by rfl, ?_⟩) (by assumption) ?_
          rotate_left 1
          · (intro w' hSw; go_simp; try with_reducible rfl)
          try simp only [Act.put, List.setIfInBounds_toArray, List.set_cons_zero, List.set_cons_succ]
          refine wpAnyW_take (i := 20) (v := ?_) (by simp only [List.getElem?_toArray, List.getElem?_cons_succ, List.getElem?_cons_zero]; rfl) (by kernel_rfl) (by kernel_rfl) (by kernel_rfl) (by kernel_rfl) (by kernel_rfl) (fun _ _ _ h => h) (Or.inl ⟨by rfl, ?_⟩) (by assumption) ?_
          rotate_left 1
          · (intro w' hSw; go_simp; try with_reducible rfl)
          try simp only [Act.put, List.setIfInBounds_toArray, List.set_cons_zero, List.set_cons_succ]
          refine wpAnyW_take (i := 21) (v := ?_) (by simp only [List.getElem?_toArray, List.getElem?_cons_succ, List.getElem?_cons_zero]; rfl) (by kernel_rfl) (by kernel_rfl) (by kernel_rfl) (by kernel_rfl) (by kernel_rfl) (fun _ _ _ h => h) (Or.inl ⟨by rfl, ?_⟩) (by assumption) ?_
          rotate_left 1
          · (intro w' hSw; go_simp; try with_reducible rfl)
          try simp only [Act.put, List.setIfInBounds_toArray, List.set_cons_zero, List.set_cons_succ]
          refine wpAnyW_take (i := 22) (v := ?_) (by simp only [List.getElem?_toArray, List.getElem?_cons_succ, List.getElem?_cons_zero]; rfl) (by kernel_rfl) (by kernel_rfl) (by kernel_rfl) (by kernel_rfl) (by kernel_rfl) (fun _ _ _ h => h) (Or.inl ⟨by rfl, ?_⟩) (by assumption) ?_
          rotate_left 1
          · (intro w' hSw; go_simp; try with_reducible rfl)
          try simp only [Act.put, List.setIfInBounds_toArray, List.set_cons_zero, List.set_cons_succ]
          refine wpAnyW_take (i := 23) (v := ?_) (by simp only [List.getElem?_toArray, List.getElem?_cons_succ, List.getElem?_cons_zero]; rfl) (by kernel_rfl) (by kernel_rfl) (by kernel_rfl) (by kernel_rfl) (by kernel_rfl) (fun _ _ _ h => h) (Or.inl ⟨by rfl, ?_⟩) (by assumption) ?_
          rotate_left 1
          · (intro w' hSw; go_simp; try with_reducible rfl)
          try simp only [Act.put, List.setIfInBounds_toArray, List.set_cons_zero, List.set_cons_succ]
          refine wpAnyW_take (i := 24) (v := ?_) (by simp only [List.getElem?_toArray, List.getElem?_cons_succ, List.getElem?_cons_zero]; rfl) (by kernel_rfl) (by kernel_rfl) (by kernel_rfl) (by kernel_rfl) (by kernel_rfl) (fun _ _ _ h => h) (Or.inl ⟨by rfl, ?_⟩) (by assumption) ?_
          rotate_left 1
          · (intro w' hSw; have hq := hSw.2.1.cell 6 (.slice A8 n k8) rfl; go_simp; try with_reducible rfl)
          try simp only [Act.put, List.setIfInBounds_toArray, List.set_cons_zero, List.set_cons_succ]
          refine wpAnyW_take (i := 25) (v := ?_) (by simp only [List.getElem?_toArray, List.getElem?_cons_succ, List.getElem?_cons_zero]; rfl) (by kernel_rfl) (by kernel_rfl) (by kernel_rfl) (by kernel_rfl) (by kernel_rfl) (fun _ _ _ h => h) (Or.inl ⟨by rfl, ?_⟩) (by assumption) ?_
          rotate_left 1
          · (intro w' hSw; go_simp; try with_reducible rfl)
          try simp only [Act.put, List.setIfInBounds_toArray, List.set_cons_zero, List.set_cons_succ]
          refine wpAnyW_take (i := 26) (v := ?_) (by simp only [List.getElem?_toArray, List.getElem?_cons_succ, List.getElem?_cons_zero]; rfl) (by kernel_rfl) (by kernel_rfl) (by kernel_rfl) (by kernel_rfl) (by kernel_rfl) (fun _ _ _ h => h) (Or.inl ⟨by rfl, ?_⟩) (by assumption) ?_
          rotate_left 1
          · (intro w' hSw; go_simp; try with_reducible rfl)
          try simp only [Act.put, List.setIfInBounds_toArray, List.set_cons_zero, List.set_cons_succ]
          refine wpAnyW_take (i := 27) (v := ?_) (by simp only [List.getElem?_toArray, List.getElem?_cons_succ, List.getElem?_cons_zero]; rfl) (by kernel_rfl) (by kernel_rfl) (by kernel_rfl) (by kernel_rfl) (by kernel_rfl) (fun _ _ _ h => h) (Or.inl ⟨by rfl, ?_⟩) (by assumption) ?_
          rotate_left 1
          · (intro w' hSw; go_simp; try with_reducible rfl)
          try simp only [Act.put, List.setIfInBounds_toArray, List.set_cons_zero, List.set_cons_succ]
          refine wpAnyW_take (i := 28) (v := ?_) (by simp only [List.getElem?_toArray, List.getElem?_cons_succ, List.getElem?_cons_zero]; rfl) (by kernel_rfl) (by kernel_rfl) (by kernel_rfl) (by kernel_rfl) (by kernel_rfl) (fun _ _ _ h => h) (Or.inl ⟨by rfl, ?_⟩) (by assumption) ?_
          rotate_left 1
          · (intro w' hSw; go_simp; try with_reducible rfl)
          try simp only [Act.put, List.setIfInBounds_toArray, List.set_cons_zero, List.set_cons_succ]
          refine wpAnyW_take (i := 29) (v := ?_) (by simp only [List.getElem?_toArray, List.getElem?_cons_succ, List.getElem?_cons_zero]; rfl) (by kernel_rfl) (by kernel_rfl) (by kernel_rfl) (by kernel_rfl) (by kernel_rfl) (fun _ _ _ h => h) (Or.inl ⟨by rfl, ?_⟩) (by assumption) ?_
          rotate_left 1
          · (intro w' hSw; go_simp; try with_reducible rfl)
          try simp only [Act.put, List.setIfInBounds_toArray, List.set_cons_zero, List.set_cons_succ]
          refine wpAnyW_take (i := 30) (v := ?_) (by simp only [List.getElem?_toArray, List.getElem?_cons_succ, List.getElem?_cons_zero]; rfl) (by kernel_rfl) (by kernel_rfl) (by kernel_rfl) (by kernel_rfl) (by kernel_rfl) (fun _ _ _ h => h) (Or.inl ⟨by rfl, ?_⟩) (by assumption) ?_
          rotate_left 1
          · (intro w' hSw; go_simp; try with_reducible rfl)
          try simp only [Act.put, List.setIfInBounds_toArray, List.set_cons_zero, List.set_cons_succ]
          refine wpAnyW_take (i := 31) (v := ?_) (by simp only [List.getElem?_toArray, List.getElem?_cons_succ, List.getElem?_cons_zero]; rfl) (by kernel_rfl) (by kernel_rfl) (by kernel_rfl) (by kernel_rfl) (by kernel_rfl) (fun _ _ _ h => h) (Or.inl ⟨by rfl, ?_⟩) (by assumption) ?_
          rotate_left 1
          · (intro w' hSw; go_simp; try with_reducible rfl)
          try simp only [Act.put, List.setIfInBounds_toArray, List.set_cons_zero, List.set_cons_succ]
          refine wpAnyW_take (i := 32) (v := ?_) (by simp only [List.getElem?_toArray, List.getElem?_cons_succ, List.getElem?_cons_zero]; rfl) (by kernel_rfl) (by kernel_rfl) (by kernel_rfl) (by kernel_rfl) (by kernel_rfl) (fun _ _ _ h => h) (Or.inl ⟨by rfl, ?_⟩) (by assumption) ?_
          rotate_left 1
          · (intro w' hSw; have hq := hSw.2.1.cell 5 (.slice A7 0 k7) rfl; go_simp; try with_reducible rfl)
          try simp only [Act.put, List.setIfInBounds_toArray, List.set_cons_zero, List.set_cons_succ]
          refine wpAnyW_take (i := 33) (v := ?_) (by simp only [List.getElem?_toArray, List.getElem?_cons_succ, List.getElem?_cons_zero]; rfl) (by kernel_rfl) (by kernel_rfl) (by kernel_rfl) (by kernel_rfl) (by kernel_rfl) (fun _ _ _ h => h) (Or.inl ⟨by rfl, ?_⟩) (by assumption) ?_
          rotate_left 1
          · (intro w' hSw; go_simp; try with_reducible rfl)
          try simp only [Act.put, List.setIfInBounds_toArray, List.set_cons_zero, List.set_cons_succ]
          refine wpAnyW_take (i := 34) (v := ?_) (by simp only [List.getElem?_toArray, List.getElem?_cons_succ, List.getElem?_cons_zero]; rfl) (by kernel_rfl) (by kernel_rfl) (by kernel_rfl) (by kernel_rfl) (by kernel_rfl) (fun _ _ _ h => h) (Or.inl ⟨by rfl, ?_⟩) (by assumption) ?_
          rotate_left 1
          · (intro w' hSw; go_simp; try with_reducible rfl)
          try simp only [Act.put, List.setIfInBounds_toArray, List.set_cons_zero, List.set_cons_succ]
          refine wpAnyW_take (i := 35) (v := ?_) (by simp only [List.getElem?_toArray, List.getElem?_cons_succ, List.getElem?_cons_zero]; rfl) (by kernel_rfl) (by kernel_rfl) (by kernel_rfl) (by kernel_rfl) (by kernel_rfl) (fun _ _ _ h => h) (Or.inl ⟨by rfl, ?_⟩) (by assumption) ?_
          rotate_left 1
          · (intro w' hSw; go_simp; try with_reducible rfl)
          try simp only [Act.put, List.setIfInBounds_toArray, List.set_cons_zero, List.set_cons_succ]
          refine wpAnyW_take (i := 36) (v := ?_) (by simp only [List.getElem?_toArray, List.getElem?_cons_succ, List.getElem?_cons_zero]; rfl) (by kernel_rfl) (by kernel_rfl) (by kernel_rfl) (by kernel_rfl) (by kernel_rfl) (fun _ _ _ h => h) (Or.inl ⟨by rfl, ?_⟩) (by assumption) ?_
          rotate_left 1
          · (intro w' hSw; go_simp; try with_reducible rfl)
          try simp only [Act.put, List.setIfInBounds_toArray, List.set_cons_zero, List.set_cons_succ]
          refine wpAnyW_take (i := 37) (v := ?_) (by simp only [List.getElem?_toArray, List.getElem?_cons_succ, List.getElem?_cons_zero]; rfl) (by kernel_rfl) (by kernel_rfl) (by kernel_rfl) (by kernel_rfl) (by kernel_rfl) (fun _ _ _ h => h) (Or.inl ⟨by rfl, ?_⟩) (by assumption) ?_
          rotate_left 1
          · (intro w' hSw; go_simp; try with_reducible rfl)
          try simp only [Act.put, List.setIfInBounds_toArray, List.set_cons_zero, List.set_cons_succ]
          refine wpAnyW_take (i := 38) (v := ?_) (by simp only [List.getElem?_toArray, List.getElem?_cons_succ, List.getElem?_cons_zero]; rfl) (by kernel_rfl) (by kernel_rfl) (by kernel_rfl) (by kernel_rfl) (by kernel_rfl) (fun _ _ _ h => h) (Or.inl ⟨by rfl, ?_⟩) (by assumption) ?_
          rotate_left 1
          · (intro w' hSw; have hq := hSw.1.cell 1 (.slice A5 0 k5) rfl; go_simp; try with_reducible rfl)
          try simp only [Act.put, List.setIfInBounds_toArray, List.set_cons_zero, List.set_cons_succ]
          refine wpAnyW_take (i := 39) (v := ?_) (by simp only [List.getElem?_toArray, List.getElem?_cons_succ, List.getElem?_cons_zero]; rfl) (by kernel_rfl) (by kernel_rfl) (by kernel_rfl) (by kernel_rfl) (by kernel_rfl) (fun _ _ _ h => h) (Or.inl ⟨by rfl, ?_⟩) (by assumption) ?_
          rotate_left 1
          · (intro w' hSw; go_simp; try with_reducible rfl)
          try simp only [Act.put, List.setIfInBounds_toArray, List.set_cons_zero, List.set_cons_succ]
          refine wpAnyW_take (i := 40) (v := ?_) (by simp only [List.getElem?_toArray, List.getElem?_cons_succ, List.getElem?_cons_zero]; rfl) (by kernel_rfl) (by kernel_rfl) (by kernel_rfl) (by kernel_rfl) (by kernel_rfl) (fun _ _ _ h => h) (Or.inl ⟨by rfl, ?_⟩) (by assumption) ?_
          rotate_left 1
          · (intro w' hSw; go_simp; try with_reducible rfl)
          try simp only [Act.put, List.setIfInBounds_toArray, List.set_cons_zero, List.set_cons_succ]
          refine wpAnyW_take (i := 41) (v := ?_) (by simp only [List.getElem?_toArray, List.getElem?_cons_succ, List.getElem?_cons_zero]; rfl) (by kernel_rfl) (by kernel_rfl) (by kernel_rfl) (by kernel_rfl) (by kernel_rfl) (fun _ _ _ h => h) (Or.inl ⟨by rfl, ?_⟩) (by assumption) ?_
          rotate_left 1
          · (intro w' hSw; go_simp; try with_reducible rfl)
          try simp only [Act.put, List.setIfInBounds_toArray, List.set_cons_zero, List.set_cons_succ]
          refine wpAnyW_take (i := 42) (v := ?_) (by simp only [List.getElem?_toArray, List.getElem?_cons_succ, List.getElem?_cons_zero]; rfl) (by kernel_rfl) (by kernel_rfl) (by kernel_rfl) (by kernel_rfl) (by kernel_rfl) (fun _ _ _ h => h) (Or.inl ⟨by rfl, ?_⟩) (by assumption) ?_
          rotate_left 1
          · (intro w' hSw; go_simp; try with_reducible rfl)
          try simp only [Act.put, List.setIfInBounds_toArray, List.set_cons_zero, List.set_cons_succ]
          refine wpAnyW_take (i := 43) (v := _) (by simp only [List.getElem?_toArray, List.getElem?_cons_succ, List.getElem?_cons_zero]; rfl) (by kernel_rfl) (by kernel_rfl) (by kernel_rfl) (by kernel_rfl) (by kernel_rfl) (fun _ _ _ h => h) (yB (ty := 27) (by rfl) rfl rfl (fun V h => h.1) Try.underlying27 rfl infoS) (by assumption) ?_
          try simp only [Act.put, List.setIfInBounds_toArray, List.set_cons_zero, List.set_cons_succ]
          refine wpAnyW_held (i := 44) (by kernel_rfl) (by simp only [List.getElem?_toArray, List.getElem?_cons_succ, List.getElem?_cons_zero]; rfl) (fun K hK => ?_)
          rw [if_pos (by rfl)]
          go_simp
          refine (HUN.out _ _ (HR5.out _)).mono ?_
          rintro _ w9 ⟨rfl, hb⟩
          have HS : (fun V => Bx V g15 27 #[.int .u32 (cn.toNat : Int), .slice A5 0 k5] ∧ Bx V g16 42 #[.int .i64 all, .int .i64 all, .bool m5, .bool f5, .slice A6 n k6, .slice A7 0 k7, .slice A8 n k8] ∧ Bx V g8 27 #[.int .u32 (c.toNat : Int), .slice A n k] ∧ Below wc.heap.size wc V) _ := ⟨hHeld.1.later hb, hHeld.2.1.later hb, hHeld.2.2.1.later hb, hHeld.2.2.2.trans (hb.mono hHeld.2.2.2.size)⟩
          clear hHeld hb
          go_wp2_with fail
          refine hK.out _ _ HS (fun hHeld => ?_)
          clear hK K HS
          try simp only [Act.put, List.setIfInBounds_toArray, List.set_cons_zero, List.set_cons_succ]
          refine wpAnyW_take (i := 45) (v := ?_) (by simp only [List.getElem?_toArray, List.getElem?_cons_succ, List.getElem?_cons_zero]; rfl) (by kernel_rfl) (by kernel_rfl) (by kernel_rfl) (by kernel_rfl) (by kernel_rfl) (fun _ _ _ h => h) (Or.inl ⟨by rfl, ?_⟩) (by assumption) ?_
          rotate_left 1
          · (intro w' hSw; go_simp; try with_reducible rfl)
          try simp only [Act.put, List.setIfInBounds_toArray, List.set_cons_zero, List.set_cons_succ]
          refine wpAnyW_take (i := 46) (v := ?_) (by simp only [List.getElem?_toArray, List.getElem?_cons_succ, List.getElem?_cons_zero]; rfl) (by kernel_rfl) (by kernel_rfl) (by kernel_rfl) (by kernel_rfl) (by kernel_rfl) (fun _ _ _ h => h) (Or.inl ⟨by rfl, ?_⟩) (by assumption) ?_
          rotate_left 1
          · (intro w' hSw; go_simp; try with_reducible rfl)
          try simp only [Act.put, List.setIfInBounds_toArray, List.set_cons_zero, List.set_cons_succ]
          refine wpAnyW_take (i := 47) (v := ?_) (by simp only [List.getElem?_toArray, List.getElem?_cons_succ, List.getElem?_cons_zero]; rfl) (by kernel_rfl) (by kernel_rfl) (by kernel_rfl) (by kernel_rfl) (by kernel_rfl) (fun _ _ _ h => h) (Or.inl ⟨by rfl, ?_⟩) (by assumption) ?_
          rotate_left 1
          · (intro w' hSw; go_simp; try with_reducible rfl)
          try simp only [Act.put, List.setIfInBounds_toArray, List.set_cons_zero, List.set_cons_succ]
          refine wpAnyW_take (i := 48) (v := _) (by simp only [List.getElem?_toArray, List.getElem?_cons_succ, List.getElem?_cons_zero]; rfl) (by kernel_rfl) (by kernel_rfl) (by kernel_rfl) (by kernel_rfl) (by kernel_rfl) (fun _ _ _ h => h) (yB (ty := 27) (by rfl) rfl rfl (fun V h => h.1) Try.underlying27 rfl infoS) (by assumption) ?_
          try simp only [Act.put, List.setIfInBounds_toArray, List.set_cons_zero, List.set_cons_succ]
          refine wpAnyW_take (i := 50) (v := _) (by simp only [List.getElem?_toArray, List.getElem?_cons_succ, List.getElem?_cons_zero]; rfl) (by kernel_rfl) (by kernel_rfl) (by kernel_rfl) (by kernel_rfl) (by kernel_rfl) (fun _ _ _ h => h) (yB (ty := 27) (by rfl) rfl rfl (fun V h => h.2.2.1) Try.underlying27 rfl infoS) (by assumption) ?_
          try simp only [Act.put, List.setIfInBounds_toArray, List.set_cons_zero, List.set_cons_succ]
          refine wpAnyW_held (i := 49) (by kernel_rfl) (by simp only [List.getElem?_toArray, List.getElem?_cons_succ, List.getElem?_cons_zero]; rfl) (fun K hK => ?_)
          rw [if_pos (by rfl)]
          go_simp
          refine (HNX0.out A5 k5 _).mono ?_
          rintro _ w9 ⟨rfl, hb⟩
          have HS : (fun V => Bx V g15 27 #[.int .u32 (cn.toNat : Int), .slice A5 0 k5] ∧ Bx V g16 42 #[.int .i64 all, .int .i64 all, .bool m5, .bool f5, .slice A6 n k6, .slice A7 0 k7, .slice A8 n k8] ∧ Bx V g8 27 #[.int .u32 (c.toNat : Int), .slice A n k] ∧ Below wc.heap.size wc V) _ := ⟨hHeld.1.later hb, hHeld.2.1.later hb, hHeld.2.2.1.later hb, hHeld.2.2.2.trans (hb.mono hHeld.2.2.2.size)⟩
          clear hHeld hb
          go_wp2_with fail
          refine hK.out _ _ HS (fun hHeld => ?_)
          clear hK K HS
          try simp only [Act.put, List.setIfInBounds_toArray, List.set_cons_zero, List.set_cons_succ]
          refine wpAnyW_held (i := 51) (by kernel_rfl) (by simp only [List.getElem?_toArray, List.getElem?_cons_succ, List.getElem?_cons_zero]; rfl) (fun K hK => ?_)
          rw [if_pos (by rfl)]
          go_simp
          refine (HNX.out A k _).mono ?_
          rintro _ w9 ⟨rfl, hb⟩
          have HS : (fun V => Bx V g15 27 #[.int .u32 (cn.toNat : Int), .slice A5 0 k5] ∧ Bx V g16 42 #[.int .i64 all, .int .i64 all, .bool m5, .bool f5, .slice A6 n k6, .slice A7 0 k7, .slice A8 n k8] ∧ Bx V g8 27 #[.int .u32 (c.toNat : Int), .slice A n k] ∧ Below wc.heap.size wc V) _ := ⟨hHeld.1.later hb, hHeld.2.1.later hb, hHeld.2.2.1.later hb, hHeld.2.2.2.trans (hb.mono hHeld.2.2.2.size)⟩
          clear hHeld hb
          go_wp2_with fail
          refine hK.out _ _ HS (fun hHeld => ?_)
          clear hK K HS
          try simp only [Act.put, List.setIfInBounds_toArray, List.set_cons_zero, List.set_cons_succ]
          refine wpAnyW_take (i := 52) (v := ?_) (by simp only [List.getElem?_toArray, List.getElem?_cons_succ, List.getElem?_cons_zero]; rfl) (by kernel_rfl) (by kernel_rfl) (by kernel_rfl) (by kernel_rfl) (by kernel_rfl) (fun _ _ _ h => h) (Or.inl ⟨by rfl, ?_⟩) (by assumption) ?_
          rotate_left 1
          · (intro w' hSw; go_simp; try with_reducible rfl)
          try simp only [Act.put, List.setIfInBounds_toArray, List.set_cons_zero, List.set_cons_succ]
          refine wpAnyW_take (i := 53) (v := ?_) (by simp only [List.getElem?_toArray, List.getElem?_cons_succ, List.getElem?_cons_zero]; rfl) (by kernel_rfl) (by kernel_rfl) (by kernel_rfl) (by kernel_rfl) (by kernel_rfl) (fun _ _ _ h => h) (Or.inl ⟨by rfl, ?_⟩) (by assumption) ?_
          rotate_left 1
          · (intro w' hSw; go_simp; try with_reducible rfl)
          try simp only [Act.put, List.setIfInBounds_toArray, List.set_cons_zero, List.set_cons_succ]
          have HD15 := Lib.hid hHeld.1
          have HD8 := Lib.hid hHeld.2.2.1
          have HBD := Lib.hid (HBC.out.trans (hHeld.2.2.2.mono HBC.out.size))
          clear hHeld
          refine wpAnyW_done (by kernel_rfl) ?_ _
          refine NoPanic.normal ?_
          go_wp2_with fail
          have h15 := HD15.out.lt
          have h8 := HD8.out.lt
          clear HH
          go_cut [18, 19, 20] from 21 (fun v18 v19 v20 wx => ∃ (g19 : Nat) (A6 : Option Addr) (k6 : Nat) (A7 : Option Addr) (k7 : Nat) (A8 : Option Addr) (k8 : Nat), v19 = .pointer (some ⟨g19, 0, none⟩) ∧ v20 = .bool true ∧ Hid (Bx wx g19 42 #[.int .i64 0, .int .i64 0, .bool false, .bool false, .slice A6 0 k6, .slice A7 0 k7, .slice A8 0 k8] ∧ Below w9.heap.size w9 wx))
          case first =>
            have HS : (fun V => Bx V g15 27 #[.int .u32 (cn.toNat : Int), .slice A5 0 k5] ∧ Bx V g8 27 #[.int .u32 (c.toNat : Int), .slice A n k] ∧ Below w9.heap.size w9 V) _ := ⟨HD15.out.drew, HD8.out.drew, below_drawn (Below.refl _ _)⟩
            refine wp_region_noPanic ?_
            refine wp_region_waits (S := (fun V => Bx V g15 27 #[.int .u32 (cn.toNat : Int), .slice A5 0 k5] ∧ Bx V g8 27 #[.int .u32 (c.toNat : Int), .slice A n k] ∧ Below w9.heap.size w9 V)) [14] (by kernel_rfl) HS (fun hHeld => ?_)
            clear HS
            refine wpAnyW_take (i := 0) (v := _) (by simp only [List.getElem?_toArray, List.getElem?_cons_zero]; rfl) (by kernel_rfl) (by kernel_rfl) (by kernel_rfl) (by kernel_rfl) (by kernel_rfl) (fun _ _ _ h => h) (yB (ty := 27) (by rfl) rfl rfl (fun V h => h.1) Try.underlying27 rfl infoS) (by assumption) ?_
            try simp only [Act.put, List.setIfInBounds_toArray, List.set_cons_zero, List.set_cons_succ]
            refine wpAnyW_take (i := 1) (v := _) (by simp only [List.getElem?_toArray, List.getElem?_cons_succ, List.getElem?_cons_zero]; rfl) (by kernel_rfl) (by kernel_rfl) (by kernel_rfl) (by kernel_rfl) (by kernel_rfl) (fun _ _ _ h => h) (yB (ty := 27) (by rfl) rfl rfl (fun V h => h.2.1) Try.underlying27 rfl infoS) (by assumption) ?_
            try simp only [Act.put, List.setIfInBounds_toArray, List.set_cons_zero, List.set_cons_succ]
            refine wpAnyW_take (i := 4) (v := ?_) (by simp only [List.getElem?_toArray, List.getElem?_cons_succ, List.getElem?_cons_zero]; rfl) (by kernel_rfl) (by kernel_rfl) (by kernel_rfl) (by kernel_rfl) (by kernel_rfl) (fun _ _ _ h => h) (Or.inl ⟨by rfl, ?_⟩) (by assumption) ?_
            rotate_left 1
            · (intro w' hSw; go_simp; try with_reducible rfl)
            try simp only [Act.put, List.setIfInBounds_toArray, List.set_cons_zero, List.set_cons_succ]
            refine wpAnyW_three (i := 2) (i2 := 10) (i3 := 11) (by kernel_rfl) (by simp only [List.getElem?_toArray, List.getElem?_cons_succ, List.getElem?_cons_zero]; rfl) (by simp only [List.getElem?_toArray, List.getElem?_cons_succ, List.getElem?_cons_zero]; rfl) (by simp only [List.getElem?_toArray, List.getElem?_cons_succ, List.getElem?_cons_zero]; rfl) (fun K hK => ?_) (fun K hK => ?_) (fun K hK => ?_)
            · as_aux_lemma =>
                rw [if_pos (by rfl)]
                go_simp
                refine (HNX.out A k _).mono ?_
                rintro _ uq0 ⟨rfl, hb⟩
                have HS : (fun V => Bx V g15 27 #[.int .u32 (cn.toNat : Int), .slice A5 0 k5] ∧ Bx V g8 27 #[.int .u32 (c.toNat : Int), .slice A n k] ∧ Below w9.heap.size w9 V) _ := ⟨hHeld.1.later hb, hHeld.2.1.later hb, hHeld.2.2.trans (hb.mono hHeld.2.2.size)⟩
                clear hHeld hb
                go_wp2_with fail
                refine hK.out _ _ HS (fun hHeld => ?_)
                clear hK K HS
                try simp only [Act.put, List.setIfInBounds_toArray, List.set_cons_zero, List.set_cons_succ]
                refine wpAnyW_take (i := 3) (v := ?_) (by simp only [List.getElem?_toArray, List.getElem?_cons_succ, List.getElem?_cons_zero]; rfl) (by kernel_rfl) (by kernel_rfl) (by kernel_rfl) (by kernel_rfl) (by kernel_rfl) (fun _ _ _ h => h) (Or.inl ⟨by rfl, ?_⟩) (by assumption) ?_
                rotate_left 1
                · (intro w' hSw; go_simp; try with_reducible rfl)
                try simp only [Act.put, List.setIfInBounds_toArray, List.set_cons_zero, List.set_cons_succ]
                refine wpAnyW_three (i := 5) (i2 := 10) (i3 := 11) (by kernel_rfl) (by simp only [List.getElem?_toArray, List.getElem?_cons_succ, List.getElem?_cons_zero]; rfl) (by simp only [List.getElem?_toArray, List.getElem?_cons_succ, List.getElem?_cons_zero]; rfl) (by simp only [List.getElem?_toArray, List.getElem?_cons_succ, List.getElem?_cons_zero]; rfl) (fun K hK => ?_) (fun K hK => ?_) (fun K hK => ?_)
                · as_aux_lemma =>
                    rw [if_pos (by rfl)]
                    go_simp
                    refine (HAK2.out _ _ (HR5.out _)).mono ?_
                    rintro _ uq1 ⟨A9, k9, A6, k6, A7, k7, A8, k8, rfl, hb⟩
                    have HS : (fun V => Bx V g15 27 #[.int .u32 (cn.toNat : Int), .slice A5 0 k5] ∧ Bx V g8 27 #[.int .u32 (c.toNat : Int), .slice A n k] ∧ Below w9.heap.size w9 V) _ := ⟨hHeld.1.later hb, hHeld.2.1.later hb, hHeld.2.2.trans (hb.mono hHeld.2.2.size)⟩
                    clear hHeld hb
                    go_wp2_with fail
                    refine hK.out _ _ HS (fun hHeld => ?_)
                    clear hK K HS
                    try simp only [Act.put, List.setIfInBounds_toArray, List.set_cons_zero, List.set_cons_succ]
                    refine wpAnyW_take (i := 6) (v := ?_) (by simp only [List.getElem?_toArray, List.getElem?_cons_succ, List.getElem?_cons_zero]; rfl) (by kernel_rfl) (by kernel_rfl) (by kernel_rfl) (by kernel_rfl) (by kernel_rfl) (fun _ _ _ h => h) (Or.inl ⟨by rfl, ?_⟩) (by assumption) ?_
                    rotate_left 1
                    · (intro w' hSw; go_simp; try with_reducible rfl)
                    try simp only [Act.put, List.setIfInBounds_toArray, List.set_cons_zero, List.set_cons_succ]
                    refine wpAnyW_take (i := 7) (v := ?_) (by simp only [List.getElem?_toArray, List.getElem?_cons_succ, List.getElem?_cons_zero]; rfl) (by kernel_rfl) (by kernel_rfl) (by kernel_rfl) (by kernel_rfl) (by kernel_rfl) (fun _ _ _ h => h) (Or.inl ⟨by rfl, ?_⟩) (by assumption) ?_
                    rotate_left 1
                    · (intro w' hSw; go_simp; try with_reducible rfl)
                    try simp only [Act.put, List.setIfInBounds_toArray, List.set_cons_zero, List.set_cons_succ]
                    refine wpAnyW_take (i := 8) (v := ?_) (by simp only [List.getElem?_toArray, List.getElem?_cons_succ, List.getElem?_cons_zero]; rfl) (by kernel_rfl) (by kernel_rfl) (by kernel_rfl) (by kernel_rfl) (by kernel_rfl) (fun _ _ _ h => h) (Or.inl ⟨by rfl, ?_⟩) (by assumption) ?_
                    rotate_left 1
                    · (intro w' hSw; go_simp; try with_reducible rfl)
                    try simp only [Act.put, List.setIfInBounds_toArray, List.set_cons_zero, List.set_cons_succ]
                    refine wpAnyW_take (i := 9) (v := ?_) (by simp only [List.getElem?_toArray, List.getElem?_cons_succ, List.getElem?_cons_zero]; rfl) (by kernel_rfl) (by kernel_rfl) (by kernel_rfl) (by kernel_rfl) (by kernel_rfl) (fun _ _ _ h => h) (Or.inl ⟨by rfl, ?_⟩) (by assumption) ?_
                    rotate_left 1
                    · (intro w' hSw; go_simp; try with_reducible rfl)
                    try simp only [Act.put, List.setIfInBounds_toArray, List.set_cons_zero, List.set_cons_succ]
                    refine wpAnyW_two (i := 10) (i2 := 11) (by kernel_rfl) (by simp only [List.getElem?_toArray, List.getElem?_cons_succ, List.getElem?_cons_zero]; rfl) (by simp only [List.getElem?_toArray, List.getElem?_cons_succ, List.getElem?_cons_zero]; rfl) (fun K hK => ?_) (fun K hK => ?_)
                    · rw [if_pos (by rfl)]
                      obtain ⟨vq2, hvq2, HXqa, HBvq2, hsvq2⟩ := one_open uq1 27 #[.int .u32 0, .slice none 0 0]
                      obtain ⟨gqa, hgqa⟩ : ∃ g, uq1.heap.size = g := ⟨_, rfl⟩
                      rw [hgqa] at HXqa hsvq2
                      have HS : (fun V => Bx V g15 27 #[.int .u32 (cn.toNat : Int), .slice A5 0 k5] ∧ Bx V g8 27 #[.int .u32 (c.toNat : Int), .slice A n k] ∧ Below w9.heap.size w9 V) _ := ⟨hHeld.1.later HBvq2.out, hHeld.2.1.later HBvq2.out, hHeld.2.2.trans (HBvq2.out.mono hHeld.2.2.size)⟩
                      have hzgqa : w9.heap.size ≤ gqa := by have := hHeld.2.2.size; omega
                      clear hHeld HBvq2 hsvq2
                      go_simp
                      refine hK.out _ _ HS (fun hHeld => ?_)
                      clear hK K HS
                      try simp only [Act.put, List.setIfInBounds_toArray, List.set_cons_zero, List.set_cons_succ]
                      refine wpAnyW_held (i := 11) (by kernel_rfl) (by simp only [List.getElem?_toArray, List.getElem?_cons_succ, List.getElem?_cons_zero]; rfl) (fun K hK => ?_)
                      rw [if_pos (by rfl)]
                      obtain ⟨vq3, hvq3, HXqb, HBvq3, hsvq3⟩ := one_open vq2 42 #[.int .i64 0, .int .i64 0, .bool false, .bool false, .slice none 0 0, .slice none 0 0, .slice none 0 0]
                      obtain ⟨gqb, hgqb⟩ : ∃ g, vq2.heap.size = g := ⟨_, rfl⟩
                      rw [hgqb] at HXqb hsvq3
                      have HS : (fun V => Bx V g15 27 #[.int .u32 (cn.toNat : Int), .slice A5 0 k5] ∧ Bx V g8 27 #[.int .u32 (c.toNat : Int), .slice A n k] ∧ Below w9.heap.size w9 V) _ := ⟨hHeld.1.later HBvq3.out, hHeld.2.1.later HBvq3.out, hHeld.2.2.trans (HBvq3.out.mono hHeld.2.2.size)⟩
                      have hzgqb : w9.heap.size ≤ gqb := by have := hHeld.2.2.size; omega
                      have hneq : gqa < gqb := by have := HXqa.out.lt; omega
                      replace HXqa := Lib.hid (HXqa.out.later HBvq3.out)
                      clear hHeld HBvq3 hsvq3
                      go_simp
                      refine hK.out _ _ HS (fun hHeld => ?_)
                      clear hK K HS
                      try simp only [Act.put, List.setIfInBounds_toArray, List.set_cons_zero, List.set_cons_succ]
                      refine wpAnyW_held (i := 12) (by kernel_rfl) (by simp only [List.getElem?_toArray, List.getElem?_cons_succ, List.getElem?_cons_zero]; rfl) (fun K hK => ?_)
                      rw [if_pos (by rfl)]
                      refine wpB (ty := 27) #[.int .u32 (cn.toNat : Int), .slice A9 0 k9] rfl rfl rfl HXqa.out infoS rfl (cellsS_one _ _ _ _) ?_
                      intro y1 ht hg
                      have HS : (fun V => Bx V g15 27 #[.int .u32 (cn.toNat : Int), .slice A5 0 k5] ∧ Bx V g8 27 #[.int .u32 (c.toNat : Int), .slice A n k] ∧ Below w9.heap.size w9 V) _ := ⟨hHeld.1.kept hg (by omega), hHeld.2.1.kept hg (by omega), below_of_grown1 hHeld.2.2 hg hHeld.2.2.size hzgqa⟩
                      replace HXqb := Lib.hid (HXqb.out.kept hg (by omega))
                      replace HXqa := Lib.hid ht
                      clear ht hg hHeld
                      refine hK.out _ _ HS (fun hHeld => ?_)
                      clear hK K HS
                      try simp only [Act.put, List.setIfInBounds_toArray, List.set_cons_zero, List.set_cons_succ]
                      refine wpAnyW_held (i := 13) (by kernel_rfl) (by simp only [List.getElem?_toArray, List.getElem?_cons_succ, List.getElem?_cons_zero]; rfl) (fun K hK => ?_)
                      rw [if_pos (by rfl)]
                      refine wpB (ty := 42) #[.int .i64 0, .int .i64 0, .bool false, .bool false, .slice A6 0 k6, .slice A7 0 k7, .slice A8 0 k8] rfl rfl rfl HXqb.out infoR rfl (cellsR_one _ _ _ _ _ _ _ _ _ _ _ _ _) ?_
                      intro y2 ht hg
                      have HS : (fun V => Bx V g15 27 #[.int .u32 (cn.toNat : Int), .slice A5 0 k5] ∧ Bx V g8 27 #[.int .u32 (c.toNat : Int), .slice A n k] ∧ Below w9.heap.size w9 V) _ := ⟨hHeld.1.kept hg (by omega), hHeld.2.1.kept hg (by omega), below_of_grown1 hHeld.2.2 hg hHeld.2.2.size hzgqb⟩
                      replace HXqa := Lib.hid (HXqa.out.kept hg (by omega))
                      replace HXqb := Lib.hid ht
                      clear ht hg hHeld
                      refine hK.out _ _ HS (fun hHeld => ?_)
                      clear hK K HS
                      try simp only [Act.put, List.setIfInBounds_toArray, List.set_cons_zero, List.set_cons_succ]
                      refine wpAnyW_freed (i := 14) (by kernel_rfl) (by kernel_rfl) (by simp only [List.getElem?_toArray, List.getElem?_cons_succ, List.getElem?_cons_zero]; rfl) (fun K hK => ?_)
                      rw [if_pos (by rfl)]
                      go_simp
                      have HE := Lib.hid hHeld
                      refine hK.out _ _ ?_
                      clear hK K hHeld
                      try simp only [Act.put, List.setIfInBounds_toArray, List.set_cons_zero, List.set_cons_succ]
                      refine wpAnyW_done (by kernel_rfl) ?_ _
                      refine NoPanic.normal ?_
                      go_wp2_with fail
                      go_meet
                      exact ⟨gqb, A6, k6, A7, k7, A8, k8, rfl, rfl, Lib.hid ⟨HXqb.out, HE.out.2.2⟩⟩
                    · rw [if_pos (by rfl)]
                      obtain ⟨vq2, hvq2, HXqb, HBvq2, hsvq2⟩ := one_open uq1 42 #[.int .i64 0, .int .i64 0, .bool false, .bool false, .slice none 0 0, .slice none 0 0, .slice none 0 0]
                      obtain ⟨gqb, hgqb⟩ : ∃ g, uq1.heap.size = g := ⟨_, rfl⟩
                      rw [hgqb] at HXqb hsvq2
                      have HS : (fun V => Bx V g15 27 #[.int .u32 (cn.toNat : Int), .slice A5 0 k5] ∧ Bx V g8 27 #[.int .u32 (c.toNat : Int), .slice A n k] ∧ Below w9.heap.size w9 V) _ := ⟨hHeld.1.later HBvq2.out, hHeld.2.1.later HBvq2.out, hHeld.2.2.trans (HBvq2.out.mono hHeld.2.2.size)⟩
                      have hzgqb : w9.heap.size ≤ gqb := by have := hHeld.2.2.size; omega
                      clear hHeld HBvq2 hsvq2
                      go_simp
                      refine hK.out _ _ HS (fun hHeld => ?_)
                      clear hK K HS
                      try simp only [Act.put, List.setIfInBounds_toArray, List.set_cons_zero, List.set_cons_succ]
                      refine wpAnyW_held (i := 10) (by kernel_rfl) (by simp only [List.getElem?_toArray, List.getElem?_cons_succ, List.getElem?_cons_zero]; rfl) (fun K hK => ?_)
                      rw [if_pos (by rfl)]
                      obtain ⟨vq3, hvq3, HXqa, HBvq3, hsvq3⟩ := one_open vq2 27 #[.int .u32 0, .slice none 0 0]
                      obtain ⟨gqa, hgqa⟩ : ∃ g, vq2.heap.size = g := ⟨_, rfl⟩
                      rw [hgqa] at HXqa hsvq3
                      have HS : (fun V => Bx V g15 27 #[.int .u32 (cn.toNat : Int), .slice A5 0 k5] ∧ Bx V g8 27 #[.int .u32 (c.toNat : Int), .slice A n k] ∧ Below w9.heap.size w9 V) _ := ⟨hHeld.1.later HBvq3.out, hHeld.2.1.later HBvq3.out, hHeld.2.2.trans (HBvq3.out.mono hHeld.2.2.size)⟩
                      have hzgqa : w9.heap.size ≤ gqa := by have := hHeld.2.2.size; omega
                      have hneq : gqb < gqa := by have := HXqb.out.lt; omega
                      replace HXqb := Lib.hid (HXqb.out.later HBvq3.out)
                      clear hHeld HBvq3 hsvq3
                      go_simp
                      refine hK.out _ _ HS (fun hHeld => ?_)
                      clear hK K HS
                      try simp only [Act.put, List.setIfInBounds_toArray, List.set_cons_zero, List.set_cons_succ]
                      refine wpAnyW_held (i := 12) (by kernel_rfl) (by simp only [List.getElem?_toArray, List.getElem?_cons_succ, List.getElem?_cons_zero]; rfl) (fun K hK => ?_)
                      rw [if_pos (by rfl)]
                      refine wpB (ty := 27) #[.int .u32 (cn.toNat : Int), .slice A9 0 k9] rfl rfl rfl HXqa.out infoS rfl (cellsS_one _ _ _ _) ?_
                      intro y1 ht hg
                      have HS : (fun V => Bx V g15 27 #[.int .u32 (cn.toNat : Int), .slice A5 0 k5] ∧ Bx V g8 27 #[.int .u32 (c.toNat : Int), .slice A n k] ∧ Below w9.heap.size w9 V) _ := ⟨hHeld.1.kept hg (by omega), hHeld.2.1.kept hg (by omega), below_of_grown1 hHeld.2.2 hg hHeld.2.2.size hzgqa⟩
                      replace HXqb := Lib.hid (HXqb.out.kept hg (by omega))
                      replace HXqa := Lib.hid ht
                      clear ht hg hHeld
                      refine hK.out _ _ HS (fun hHeld => ?_)
                      clear hK K HS
                      try simp only [Act.put, List.setIfInBounds_toArray, List.set_cons_zero, List.set_cons_succ]
                      refine wpAnyW_held (i := 13) (by kernel_rfl) (by simp only [List.getElem?_toArray, List.getElem?_cons_succ, List.getElem?_cons_zero]; rfl) (fun K hK => ?_)
                      rw [if_pos (by rfl)]
                      refine wpB (ty := 42) #[.int .i64 0, .int .i64 0, .bool false, .bool false, .slice A6 0 k6, .slice A7 0 k7, .slice A8 0 k8] rfl rfl rfl HXqb.out infoR rfl (cellsR_one _ _ _ _ _ _ _ _ _ _ _ _ _) ?_
                      intro y2 ht hg
                      have HS : (fun V => Bx V g15 27 #[.int .u32 (cn.toNat : Int), .slice A5 0 k5] ∧ Bx V g8 27 #[.int .u32 (c.toNat : Int), .slice A n k] ∧ Below w9.heap.size w9 V) _ := ⟨hHeld.1.kept hg (by omega), hHeld.2.1.kept hg (by omega), below_of_grown1 hHeld.2.2 hg hHeld.2.2.size hzgqb⟩
                      replace HXqa := Lib.hid (HXqa.out.kept hg (by omega))
                      replace HXqb := Lib.hid ht
                      clear ht hg hHeld
                      refine hK.out _ _ HS (fun hHeld => ?_)
                      clear hK K HS
                      try simp only [Act.put, List.setIfInBounds_toArray, List.set_cons_zero, List.set_cons_succ]
                      refine wpAnyW_freed (i := 14) (by kernel_rfl) (by kernel_rfl) (by simp only [List.getElem?_toArray, List.getElem?_cons_succ, List.getElem?_cons_zero]; rfl) (fun K hK => ?_)
                      rw [if_pos (by rfl)]
                      go_simp
                      have HE := Lib.hid hHeld
                      refine hK.out _ _ ?_
                      clear hK K hHeld
                      try simp only [Act.put, List.setIfInBounds_toArray, List.set_cons_zero, List.set_cons_succ]
                      refine wpAnyW_done (by kernel_rfl) ?_ _
                      refine NoPanic.normal ?_
                      go_wp2_with fail
                      go_meet
                      exact ⟨gqb, A6, k6, A7, k7, A8, k8, rfl, rfl, Lib.hid ⟨HXqb.out, HE.out.2.2⟩⟩
                · as_aux_lemma =>
                    rw [if_pos (by rfl)]
                    obtain ⟨vq1, hvq1, HXqa, HBvq1, hsvq1⟩ := one_open uq0 27 #[.int .u32 0, .slice none 0 0]
                    obtain ⟨gqa, hgqa⟩ : ∃ g, uq0.heap.size = g := ⟨_, rfl⟩
                    rw [hgqa] at HXqa hsvq1
                    have HS : (fun V => Bx V g15 27 #[.int .u32 (cn.toNat : Int), .slice A5 0 k5] ∧ Bx V g8 27 #[.int .u32 (c.toNat : Int), .slice A n k] ∧ Below w9.heap.size w9 V) _ := ⟨hHeld.1.later HBvq1.out, hHeld.2.1.later HBvq1.out, hHeld.2.2.trans (HBvq1.out.mono hHeld.2.2.size)⟩
                    have hzgqa : w9.heap.size ≤ gqa := by have := hHeld.2.2.size; omega
                    clear hHeld HBvq1 hsvq1
                    go_simp
                    refine hK.out _ _ HS (fun hHeld => ?_)
                    clear hK K HS
                    try simp only [Act.put, List.setIfInBounds_toArray, List.set_cons_zero, List.set_cons_succ]
                    refine wpAnyW_two (i := 5) (i2 := 11) (by kernel_rfl) (by simp only [List.getElem?_toArray, List.getElem?_cons_succ, List.getElem?_cons_zero]; rfl) (by simp only [List.getElem?_toArray, List.getElem?_cons_succ, List.getElem?_cons_zero]; rfl) (fun K hK => ?_) (fun K hK => ?_)
                    · rw [if_pos (by rfl)]
                      go_simp
                      refine (HAK2.out _ _ (HR5.out _)).mono ?_
                      rintro _ uq2 ⟨A9, k9, A6, k6, A7, k7, A8, k8, rfl, hb⟩
                      have HS : (fun V => Bx V g15 27 #[.int .u32 (cn.toNat : Int), .slice A5 0 k5] ∧ Bx V g8 27 #[.int .u32 (c.toNat : Int), .slice A n k] ∧ Below w9.heap.size w9 V) _ := ⟨hHeld.1.later hb, hHeld.2.1.later hb, hHeld.2.2.trans (hb.mono hHeld.2.2.size)⟩
                      replace HXqa := Lib.hid (HXqa.out.later hb)
                      clear hHeld hb
                      go_wp2_with fail
                      refine hK.out _ _ HS (fun hHeld => ?_)
                      clear hK K HS
                      try simp only [Act.put, List.setIfInBounds_toArray, List.set_cons_zero, List.set_cons_succ]
                      refine wpAnyW_take (i := 6) (v := ?_) (by simp only [List.getElem?_toArray, List.getElem?_cons_succ, List.getElem?_cons_zero]; rfl) (by kernel_rfl) (by kernel_rfl) (by kernel_rfl) (by kernel_rfl) (by kernel_rfl) (fun _ _ _ h => h) (Or.inl ⟨by rfl, ?_⟩) (by assumption) ?_
                      rotate_left 1
                      · (intro w' hSw; go_simp; try with_reducible rfl)
                      try simp only [Act.put, List.setIfInBounds_toArray, List.set_cons_zero, List.set_cons_succ]
                      refine wpAnyW_take (i := 7) (v := ?_) (by simp only [List.getElem?_toArray, List.getElem?_cons_succ, List.getElem?_cons_zero]; rfl) (by kernel_rfl) (by kernel_rfl) (by kernel_rfl) (by kernel_rfl) (by kernel_rfl) (fun _ _ _ h => h) (Or.inl ⟨by rfl, ?_⟩) (by assumption) ?_
                      rotate_left 1
                      · (intro w' hSw; go_simp; try with_reducible rfl)
                      try simp only [Act.put, List.setIfInBounds_toArray, List.set_cons_zero, List.set_cons_succ]
                      refine wpAnyW_take (i := 8) (v := ?_) (by simp only [List.getElem?_toArray, List.getElem?_cons_succ, List.getElem?_cons_zero]; rfl) (by kernel_rfl) (by kernel_rfl) (by kernel_rfl) (by kernel_rfl) (by kernel_rfl) (fun _ _ _ h => h) (Or.inl ⟨by rfl, ?_⟩) (by assumption) ?_
                      rotate_left 1
                      · (intro w' hSw; go_simp; try with_reducible rfl)
                      try simp only [Act.put, List.setIfInBounds_toArray, List.set_cons_zero, List.set_cons_succ]
                      refine wpAnyW_take (i := 9) (v := ?_) (by simp only [List.getElem?_toArray, List.getElem?_cons_succ, List.getElem?_cons_zero]; rfl) (by kernel_rfl) (by kernel_rfl) (by kernel_rfl) (by kernel_rfl) (by kernel_rfl) (fun _ _ _ h => h) (Or.inl ⟨by rfl, ?_⟩) (by assumption) ?_
                      rotate_left 1
                      · (intro w' hSw; go_simp; try with_reducible rfl)
                      try simp only [Act.put, List.setIfInBounds_toArray, List.set_cons_zero, List.set_cons_succ]
                      refine wpAnyW_held (i := 11) (by kernel_rfl) (by simp only [List.getElem?_toArray, List.getElem?_cons_succ, List.getElem?_cons_zero]; rfl) (fun K hK => ?_)
                      rw [if_pos (by rfl)]
                      obtain ⟨vq3, hvq3, HXqb, HBvq3, hsvq3⟩ := one_open uq2 42 #[.int .i64 0, .int .i64 0, .bool false, .bool false, .slice none 0 0, .slice none 0 0, .slice none 0 0]
                      obtain ⟨gqb, hgqb⟩ : ∃ g, uq2.heap.size = g := ⟨_, rfl⟩
                      rw [hgqb] at HXqb hsvq3
                      have HS : (fun V => Bx V g15 27 #[.int .u32 (cn.toNat : Int), .slice A5 0 k5] ∧ Bx V g8 27 #[.int .u32 (c.toNat : Int), .slice A n k] ∧ Below w9.heap.size w9 V) _ := ⟨hHeld.1.later HBvq3.out, hHeld.2.1.later HBvq3.out, hHeld.2.2.trans (HBvq3.out.mono hHeld.2.2.size)⟩
                      have hzgqb : w9.heap.size ≤ gqb := by have := hHeld.2.2.size; omega
                      have hneq : gqa < gqb := by have := HXqa.out.lt; omega
                      replace HXqa := Lib.hid (HXqa.out.later HBvq3.out)
                      clear hHeld HBvq3 hsvq3
                      go_simp
                      refine hK.out _ _ HS (fun hHeld => ?_)
                      clear hK K HS
                      try simp only [Act.put, List.setIfInBounds_toArray, List.set_cons_zero, List.set_cons_succ]
                      refine wpAnyW_held (i := 12) (by kernel_rfl) (by simp only [List.getElem?_toArray, List.getElem?_cons_succ, List.getElem?_cons_zero]; rfl) (fun K hK => ?_)
                      rw [if_pos (by rfl)]
                      refine wpB (ty := 27) #[.int .u32 (cn.toNat : Int), .slice A9 0 k9] rfl rfl rfl HXqa.out infoS rfl (cellsS_one _ _ _ _) ?_
                      intro y1 ht hg
                      have HS : (fun V => Bx V g15 27 #[.int .u32 (cn.toNat : Int), .slice A5 0 k5] ∧ Bx V g8 27 #[.int .u32 (c.toNat : Int), .slice A n k] ∧ Below w9.heap.size w9 V) _ := ⟨hHeld.1.kept hg (by omega), hHeld.2.1.kept hg (by omega), below_of_grown1 hHeld.2.2 hg hHeld.2.2.size hzgqa⟩
                      replace HXqb := Lib.hid (HXqb.out.kept hg (by omega))
                      replace HXqa := Lib.hid ht
                      clear ht hg hHeld
                      refine hK.out _ _ HS (fun hHeld => ?_)
                      clear hK K HS
                      try simp only [Act.put, List.setIfInBounds_toArray, List.set_cons_zero, List.set_cons_succ]
                      refine wpAnyW_held (i := 13) (by kernel_rfl) (by simp only [List.getElem?_toArray, List.getElem?_cons_succ, List.getElem?_cons_zero]; rfl) (fun K hK => ?_)
                      rw [if_pos (by rfl)]
                      refine wpB (ty := 42) #[.int .i64 0, .int .i64 0, .bool false, .bool false, .slice A6 0 k6, .slice A7 0 k7, .slice A8 0 k8] rfl rfl rfl HXqb.out infoR rfl (cellsR_one _ _ _ _ _ _ _ _ _ _ _ _ _) ?_
                      intro y2 ht hg
                      have HS : (fun V => Bx V g15 27 #[.int .u32 (cn.toNat : Int), .slice A5 0 k5] ∧ Bx V g8 27 #[.int .u32 (c.toNat : Int), .slice A n k] ∧ Below w9.heap.size w9 V) _ := ⟨hHeld.1.kept hg (by omega), hHeld.2.1.kept hg (by omega), below_of_grown1 hHeld.2.2 hg hHeld.2.2.size hzgqb⟩
                      replace HXqa := Lib.hid (HXqa.out.kept hg (by omega))
                      replace HXqb := Lib.hid ht
                      clear ht hg hHeld
                      refine hK.out _ _ HS (fun hHeld => ?_)
                      clear hK K HS
                      try simp only [Act.put, List.setIfInBounds_toArray, List.set_cons_zero, List.set_cons_succ]
                      refine wpAnyW_freed (i := 14) (by kernel_rfl) (by kernel_rfl) (by simp only [List.getElem?_toArray, List.getElem?_cons_succ, List.getElem?_cons_zero]; rfl) (fun K hK => ?_)
                      rw [if_pos (by rfl)]
                      go_simp
                      have HE := Lib.hid hHeld
                      refine hK.out _ _ ?_
                      clear hK K hHeld
                      try simp only [Act.put, List.setIfInBounds_toArray, List.set_cons_zero, List.set_cons_succ]
                      refine wpAnyW_done (by kernel_rfl) ?_ _
                      refine NoPanic.normal ?_
                      go_wp2_with fail
                      go_meet
                      exact ⟨gqb, A6, k6, A7, k7, A8, k8, rfl, rfl, Lib.hid ⟨HXqb.out, HE.out.2.2⟩⟩
                    · rw [if_pos (by rfl)]
                      obtain ⟨vq2, hvq2, HXqb, HBvq2, hsvq2⟩ := one_open vq1 42 #[.int .i64 0, .int .i64 0, .bool false, .bool false, .slice none 0 0, .slice none 0 0, .slice none 0 0]
                      obtain ⟨gqb, hgqb⟩ : ∃ g, vq1.heap.size = g := ⟨_, rfl⟩
                      rw [hgqb] at HXqb hsvq2
                      have HS : (fun V => Bx V g15 27 #[.int .u32 (cn.toNat : Int), .slice A5 0 k5] ∧ Bx V g8 27 #[.int .u32 (c.toNat : Int), .slice A n k] ∧ Below w9.heap.size w9 V) _ := ⟨hHeld.1.later HBvq2.out, hHeld.2.1.later HBvq2.out, hHeld.2.2.trans (HBvq2.out.mono hHeld.2.2.size)⟩
                      have hzgqb : w9.heap.size ≤ gqb := by have := hHeld.2.2.size; omega
                      have hneq : gqa < gqb := by have := HXqa.out.lt; omega
                      replace HXqa := Lib.hid (HXqa.out.later HBvq2.out)
                      clear hHeld HBvq2 hsvq2
                      go_simp
                      refine hK.out _ _ HS (fun hHeld => ?_)
                      clear hK K HS
                      try simp only [Act.put, List.setIfInBounds_toArray, List.set_cons_zero, List.set_cons_succ]
                      refine wpAnyW_held (i := 5) (by kernel_rfl) (by simp only [List.getElem?_toArray, List.getElem?_cons_succ, List.getElem?_cons_zero]; rfl) (fun K hK => ?_)
                      rw [if_pos (by rfl)]
                      go_simp
                      refine (HAK2.out _ _ (HR5.out _)).mono ?_
                      rintro _ uq3 ⟨A9, k9, A6, k6, A7, k7, A8, k8, rfl, hb⟩
                      have HS : (fun V => Bx V g15 27 #[.int .u32 (cn.toNat : Int), .slice A5 0 k5] ∧ Bx V g8 27 #[.int .u32 (c.toNat : Int), .slice A n k] ∧ Below w9.heap.size w9 V) _ := ⟨hHeld.1.later hb, hHeld.2.1.later hb, hHeld.2.2.trans (hb.mono hHeld.2.2.size)⟩
                      replace HXqa := Lib.hid (HXqa.out.later hb)
                      replace HXqb := Lib.hid (HXqb.out.later hb)
                      clear hHeld hb
                      go_wp2_with fail
                      refine hK.out _ _ HS (fun hHeld => ?_)
                      clear hK K HS
                      try simp only [Act.put, List.setIfInBounds_toArray, List.set_cons_zero, List.set_cons_succ]
                      refine wpAnyW_take (i := 6) (v := ?_) (by simp only [List.getElem?_toArray, List.getElem?_cons_succ, List.getElem?_cons_zero]; rfl) (by kernel_rfl) (by kernel_rfl) (by kernel_rfl) (by kernel_rfl) (by kernel_rfl) (fun _ _ _ h => h) (Or.inl ⟨by rfl, ?_⟩) (by assumption) ?_
                      rotate_left 1
                      · (intro w' hSw; go_simp; try with_reducible rfl)
                      try simp only [Act.put, List.setIfInBounds_toArray, List.set_cons_zero, List.set_cons_succ]
                      refine wpAnyW_take (i := 7) (v := ?_) (by simp only [List.getElem?_toArray, List.getElem?_cons_succ, List.getElem?_cons_zero]; rfl) (by kernel_rfl) (by kernel_rfl) (by kernel_rfl) (by kernel_rfl) (by kernel_rfl) (fun _ _ _ h => h) (Or.inl ⟨by rfl, ?_⟩) (by assumption) ?_
                      rotate_left 1
                      · (intro w' hSw; go_simp; try with_reducible rfl)
                      try simp only [Act.put, List.setIfInBounds_toArray, List.set_cons_zero, List.set_cons_succ]
                      refine wpAnyW_take (i := 8) (v := ?_) (by simp only [List.getElem?_toArray, List.getElem?_cons_succ, List.getElem?_cons_zero]; rfl) (by kernel_rfl) (by kernel_rfl) (by kernel_rfl) (by kernel_rfl) (by kernel_rfl) (fun _ _ _ h => h) (Or.inl ⟨by rfl, ?_⟩) (by assumption) ?_
                      rotate_left 1
                      · (intro w' hSw; go_simp; try with_reducible rfl)
                      try simp only [Act.put, List.setIfInBounds_toArray, List.set_cons_zero, List.set_cons_succ]
                      refine wpAnyW_take (i := 9) (v := ?_) (by simp only [List.getElem?_toArray, List.getElem?_cons_succ, List.getElem?_cons_zero]; rfl) (by kernel_rfl) (by kernel_rfl) (by kernel_rfl) (by kernel_rfl) (by kernel_rfl) (fun _ _ _ h => h) (Or.inl ⟨by rfl, ?_⟩) (by assumption) ?_
                      rotate_left 1
                      · (intro w' hSw; go_simp; try with_reducible rfl)
                      try simp only [Act.put, List.setIfInBounds_toArray, List.set_cons_zero, List.set_cons_succ]
                      refine wpAnyW_held (i := 12) (by kernel_rfl) (by simp only [List.getElem?_toArray, List.getElem?_cons_succ, List.getElem?_cons_zero]; rfl) (fun K hK => ?_)
                      rw [if_pos (by rfl)]
                      refine wpB (ty := 27) #[.int .u32 (cn.toNat : Int), .slice A9 0 k9] rfl rfl rfl HXqa.out infoS rfl (cellsS_one _ _ _ _) ?_
                      intro y1 ht hg
                      have HS : (fun V => Bx V g15 27 #[.int .u32 (cn.toNat : Int), .slice A5 0 k5] ∧ Bx V g8 27 #[.int .u32 (c.toNat : Int), .slice A n k] ∧ Below w9.heap.size w9 V) _ := ⟨hHeld.1.kept hg (by omega), hHeld.2.1.kept hg (by omega), below_of_grown1 hHeld.2.2 hg hHeld.2.2.size hzgqa⟩
                      replace HXqb := Lib.hid (HXqb.out.kept hg (by omega))
                      replace HXqa := Lib.hid ht
                      clear ht hg hHeld
                      refine hK.out _ _ HS (fun hHeld => ?_)
                      clear hK K HS
                      try simp only [Act.put, List.setIfInBounds_toArray, List.set_cons_zero, List.set_cons_succ]
                      refine wpAnyW_held (i := 13) (by kernel_rfl) (by simp only [List.getElem?_toArray, List.getElem?_cons_succ, List.getElem?_cons_zero]; rfl) (fun K hK => ?_)
                      rw [if_pos (by rfl)]
                      refine wpB (ty := 42) #[.int .i64 0, .int .i64 0, .bool false, .bool false, .slice A6 0 k6, .slice A7 0 k7, .slice A8 0 k8] rfl rfl rfl HXqb.out infoR rfl (cellsR_one _ _ _ _ _ _ _ _ _ _ _ _ _) ?_
                      intro y2 ht hg
                      have HS : (fun V => Bx V g15 27 #[.int .u32 (cn.toNat : Int), .slice A5 0 k5] ∧ Bx V g8 27 #[.int .u32 (c.toNat : Int), .slice A n k] ∧ Below w9.heap.size w9 V) _ := ⟨hHeld.1.kept hg (by omega), hHeld.2.1.kept hg (by omega), below_of_grown1 hHeld.2.2 hg hHeld.2.2.size hzgqb⟩
                      replace HXqa := Lib.hid (HXqa.out.kept hg (by omega))
                      replace HXqb := Lib.hid ht
                      clear ht hg hHeld
                      refine hK.out _ _ HS (fun hHeld => ?_)
                      clear hK K HS
                      try simp only [Act.put, List.setIfInBounds_toArray, List.set_cons_zero, List.set_cons_succ]
                      refine wpAnyW_freed (i := 14) (by kernel_rfl) (by kernel_rfl) (by simp only [List.getElem?_toArray, List.getElem?_cons_succ, List.getElem?_cons_zero]; rfl) (fun K hK => ?_)
                      rw [if_pos (by rfl)]
                      go_simp
                      have HE := Lib.hid hHeld
                      refine hK.out _ _ ?_
                      clear hK K hHeld
                      try simp only [Act.put, List.setIfInBounds_toArray, List.set_cons_zero, List.set_cons_succ]
                      refine wpAnyW_done (by kernel_rfl) ?_ _
                      refine NoPanic.normal ?_
                      go_wp2_with fail
                      go_meet
                      exact ⟨gqb, A6, k6, A7, k7, A8, k8, rfl, rfl, Lib.hid ⟨HXqb.out, HE.out.2.2⟩⟩
                · as_aux_lemma =>
                    rw [if_pos (by rfl)]
                    obtain ⟨vq1, hvq1, HXqb, HBvq1, hsvq1⟩ := one_open uq0 42 #[.int .i64 0, .int .i64 0, .bool false, .bool false, .slice none 0 0, .slice none 0 0, .slice none 0 0]
                    obtain ⟨gqb, hgqb⟩ : ∃ g, uq0.heap.size = g := ⟨_, rfl⟩
                    rw [hgqb] at HXqb hsvq1
                    have HS : (fun V => Bx V g15 27 #[.int .u32 (cn.toNat : Int), .slice A5 0 k5] ∧ Bx V g8 27 #[.int .u32 (c.toNat : Int), .slice A n k] ∧ Below w9.heap.size w9 V) _ := ⟨hHeld.1.later HBvq1.out, hHeld.2.1.later HBvq1.out, hHeld.2.2.trans (HBvq1.out.mono hHeld.2.2.size)⟩
                    have hzgqb : w9.heap.size ≤ gqb := by have := hHeld.2.2.size; omega
                    clear hHeld HBvq1 hsvq1
                    go_simp
                    refine hK.out _ _ HS (fun hHeld => ?_)
                    clear hK K HS
                    try simp only [Act.put, List.setIfInBounds_toArray, List.set_cons_zero, List.set_cons_succ]
                    refine wpAnyW_two (i := 5) (i2 := 10) (by kernel_rfl) (by simp only [List.getElem?_toArray, List.getElem?_cons_succ, List.getElem?_cons_zero]; rfl) (by simp only [List.getElem?_toArray, List.getElem?_cons_succ, List.getElem?_cons_zero]; rfl) (fun K hK => ?_) (fun K hK => ?_)
                    · rw [if_pos (by rfl)]
                      go_simp
                      refine (HAK2.out _ _ (HR5.out _)).mono ?_
                      rintro _ uq2 ⟨A9, k9, A6, k6, A7, k7, A8, k8, rfl, hb⟩
                      have HS : (fun V => Bx V g15 27 #[.int .u32 (cn.toNat : Int), .slice A5 0 k5] ∧ Bx V g8 27 #[.int .u32 (c.toNat : Int), .slice A n k] ∧ Below w9.heap.size w9 V) _ := ⟨hHeld.1.later hb, hHeld.2.1.later hb, hHeld.2.2.trans (hb.mono hHeld.2.2.size)⟩
                      replace HXqb := Lib.hid (HXqb.out.later hb)
                      clear hHeld hb
                      go_wp2_with fail
                      refine hK.out _ _ HS (fun hHeld => ?_)
                      clear hK K HS
                      try simp only [Act.put, List.setIfInBounds_toArray, List.set_cons_zero, List.set_cons_succ]
                      refine wpAnyW_take (i := 6) (v := ?_) (by simp only [List.getElem?_toArray, List.getElem?_cons_succ, List.getElem?_cons_zero]; rfl) (by kernel_rfl) (by kernel_rfl) (by kernel_rfl) (by kernel_rfl) (by kernel_rfl) (fun _ _ _ h => h) (Or.inl ⟨by rfl, ?_⟩) (by assumption) ?_
                      rotate_left 1
                      · (intro w' hSw; go_simp; try with_reducible rfl)
                      try simp only [Act.put, List.setIfInBounds_toArray, List.set_cons_zero, List.set_cons_succ]
                      refine wpAnyW_take (i := 7) (v := ?_) (by simp only [List.getElem?_toArray, List.getElem?_cons_succ, List.getElem?_cons_zero]; rfl) (by kernel_rfl) (by kernel_rfl) (by kernel_rfl) (by kernel_rfl) (by kernel_rfl) (fun _ _ _ h => h) (Or.inl ⟨by rfl, ?_⟩) (by assumption) ?_
                      rotate_left 1
                      · (intro w' hSw; go_simp; try with_reducible rfl)
                      try simp only [Act.put, List.setIfInBounds_toArray, List.set_cons_zero, List.set_cons_succ]
                      refine wpAnyW_take (i := 8) (v := ?_) (by simp only [List.getElem?_toArray, List.getElem?_cons_succ, List.getElem?_cons_zero]; rfl) (by kernel_rfl) (by kernel_rfl) (by kernel_rfl) (by kernel_rfl) (by kernel_rfl) (fun _ _ _ h => h) (Or.inl ⟨by rfl, ?_⟩) (by assumption) ?_
                      rotate_left 1
                      · (intro w' hSw; go_simp; try with_reducible rfl)
                      try simp only [Act.put, List.setIfInBounds_toArray, List.set_cons_zero, List.set_cons_succ]
                      refine wpAnyW_take (i := 9) (v := ?_) (by simp only [List.getElem?_toArray, List.getElem?_cons_succ, List.getElem?_cons_zero]; rfl) (by kernel_rfl) (by kernel_rfl) (by kernel_rfl) (by kernel_rfl) (by kernel_rfl) (fun _ _ _ h => h) (Or.inl ⟨by rfl, ?_⟩) (by assumption) ?_
                      rotate_left 1
                      · (intro w' hSw; go_simp; try with_reducible rfl)
                      try simp only [Act.put, List.setIfInBounds_toArray, List.set_cons_zero, List.set_cons_succ]
                      refine wpAnyW_held (i := 10) (by kernel_rfl) (by simp only [List.getElem?_toArray, List.getElem?_cons_succ, List.getElem?_cons_zero]; rfl) (fun K hK => ?_)
                      rw [if_pos (by rfl)]
                      obtain ⟨vq3, hvq3, HXqa, HBvq3, hsvq3⟩ := one_open uq2 27 #[.int .u32 0, .slice none 0 0]
                      obtain ⟨gqa, hgqa⟩ : ∃ g, uq2.heap.size = g := ⟨_, rfl⟩
                      rw [hgqa] at HXqa hsvq3
                      have HS : (fun V => Bx V g15 27 #[.int .u32 (cn.toNat : Int), .slice A5 0 k5] ∧ Bx V g8 27 #[.int .u32 (c.toNat : Int), .slice A n k] ∧ Below w9.heap.size w9 V) _ := ⟨hHeld.1.later HBvq3.out, hHeld.2.1.later HBvq3.out, hHeld.2.2.trans (HBvq3.out.mono hHeld.2.2.size)⟩
                      have hzgqa : w9.heap.size ≤ gqa := by have := hHeld.2.2.size; omega
                      have hneq : gqb < gqa := by have := HXqb.out.lt; omega
                      replace HXqb := Lib.hid (HXqb.out.later HBvq3.out)
                      clear hHeld HBvq3 hsvq3
                      go_simp
                      refine hK.out _ _ HS (fun hHeld => ?_)
                      clear hK K HS
                      try simp only [Act.put, List.setIfInBounds_toArray, List.set_cons_zero, List.set_cons_succ]
                      refine wpAnyW_held (i := 12) (by kernel_rfl) (by simp only [List.getElem?_toArray, List.getElem?_cons_succ, List.getElem?_cons_zero]; rfl) (fun K hK => ?_)
                      rw [if_pos (by rfl)]
                      refine wpB (ty := 27) #[.int .u32 (cn.toNat : Int), .slice A9 0 k9] rfl rfl rfl HXqa.out infoS rfl (cellsS_one _ _ _ _) ?_
                      intro y1 ht hg
                      have HS : (fun V => Bx V g15 27 #[.int .u32 (cn.toNat : Int), .slice A5 0 k5] ∧ Bx V g8 27 #[.int .u32 (c.toNat : Int), .slice A n k] ∧ Below w9.heap.size w9 V) _ := ⟨hHeld.1.kept hg (by omega), hHeld.2.1.kept hg (by omega), below_of_grown1 hHeld.2.2 hg hHeld.2.2.size hzgqa⟩
                      replace HXqb := Lib.hid (HXqb.out.kept hg (by omega))
                      replace HXqa := Lib.hid ht
                      clear ht hg hHeld
                      refine hK.out _ _ HS (fun hHeld => ?_)
                      clear hK K HS
                      try simp only [Act.put, List.setIfInBounds_toArray, List.set_cons_zero, List.set_cons_succ]
                      refine wpAnyW_held (i := 13) (by kernel_rfl) (by simp only [List.getElem?_toArray, List.getElem?_cons_succ, List.getElem?_cons_zero]; rfl) (fun K hK => ?_)
                      rw [if_pos (by rfl)]
                      refine wpB (ty := 42) #[.int .i64 0, .int .i64 0, .bool false, .bool false, .slice A6 0 k6, .slice A7 0 k7, .slice A8 0 k8] rfl rfl rfl HXqb.out infoR rfl (cellsR_one _ _ _ _ _ _ _ _ _ _ _ _ _) ?_
                      intro y2 ht hg
                      have HS : (fun V => Bx V g15 27 #[.int .u32 (cn.toNat : Int), .slice A5 0 k5] ∧ Bx V g8 27 #[.int .u32 (c.toNat : Int), .slice A n k] ∧ Below w9.heap.size w9 V) _ := ⟨hHeld.1.kept hg (by omega), hHeld.2.1.kept hg (by omega), below_of_grown1 hHeld.2.2 hg hHeld.2.2.size hzgqb⟩
                      replace HXqa := Lib.hid (HXqa.out.kept hg (by omega))
                      replace HXqb := Lib.hid ht
                      clear ht hg hHeld
                      refine hK.out _ _ HS (fun hHeld => ?_)
                      clear hK K HS
                      try simp only [Act.put, List.setIfInBounds_toArray, List.set_cons_zero, List.set_cons_succ]
                      refine wpAnyW_freed (i := 14) (by kernel_rfl) (by kernel_rfl) (by simp only [List.getElem?_toArray, List.getElem?_cons_succ, List.getElem?_cons_zero]; rfl) (fun K hK => ?_)
                      rw [if_pos (by rfl)]
                      go_simp
                      have HE := Lib.hid hHeld
                      refine hK.out _ _ ?_
                      clear hK K hHeld
                      try simp only [Act.put, List.setIfInBounds_toArray, List.set_cons_zero, List.set_cons_succ]
                      refine wpAnyW_done (by kernel_rfl) ?_ _
                      refine NoPanic.normal ?_
                      go_wp2_with fail
                      go_meet
                      exact ⟨gqb, A6, k6, A7, k7, A8, k8, rfl, rfl, Lib.hid ⟨HXqb.out, HE.out.2.2⟩⟩
                    · rw [if_pos (by rfl)]
                      obtain ⟨vq2, hvq2, HXqa, HBvq2, hsvq2⟩ := one_open vq1 27 #[.int .u32 0, .slice none 0 0]
                      obtain ⟨gqa, hgqa⟩ : ∃ g, vq1.heap.size = g := ⟨_, rfl⟩
                      rw [hgqa] at HXqa hsvq2
                      have HS : (fun V => Bx V g15 27 #[.int .u32 (cn.toNat : Int), .slice A5 0 k5] ∧ Bx V g8 27 #[.int .u32 (c.toNat : Int), .slice A n k] ∧ Below w9.heap.size w9 V) _ := ⟨hHeld.1.later HBvq2.out, hHeld.2.1.later HBvq2.out, hHeld.2.2.trans (HBvq2.out.mono hHeld.2.2.size)⟩
                      have hzgqa : w9.heap.size ≤ gqa := by have := hHeld.2.2.size; omega
                      have hneq : gqb < gqa := by have := HXqb.out.lt; omega
                      replace HXqb := Lib.hid (HXqb.out.later HBvq2.out)
                      clear hHeld HBvq2 hsvq2
                      go_simp
                      refine hK.out _ _ HS (fun hHeld => ?_)
                      clear hK K HS
                      try simp only [Act.put, List.setIfInBounds_toArray, List.set_cons_zero, List.set_cons_succ]
                      refine wpAnyW_held (i := 5) (by kernel_rfl) (by simp only [List.getElem?_toArray, List.getElem?_cons_succ, List.getElem?_cons_zero]; rfl) (fun K hK => ?_)
                      rw [if_pos (by rfl)]
                      go_simp
                      refine (HAK2.out _ _ (HR5.out _)).mono ?_
                      rintro _ uq3 ⟨A9, k9, A6, k6, A7, k7, A8, k8, rfl, hb⟩
                      have HS : (fun V => Bx V g15 27 #[.int .u32 (cn.toNat : Int), .slice A5 0 k5] ∧ Bx V g8 27 #[.int .u32 (c.toNat : Int), .slice A n k] ∧ Below w9.heap.size w9 V) _ := ⟨hHeld.1.later hb, hHeld.2.1.later hb, hHeld.2.2.trans (hb.mono hHeld.2.2.size)⟩
                      replace HXqb := Lib.hid (HXqb.out.later hb)
                      replace HXqa := Lib.hid (HXqa.out.later hb)
                      clear hHeld hb
                      go_wp2_with fail
                      refine hK.out _ _ HS (fun hHeld => ?_)
                      clear hK K HS
                      try simp only [Act.put, List.setIfInBounds_toArray, List.set_cons_zero, List.set_cons_succ]
                      refine wpAnyW_take (i := 6) (v := ?_) (by simp only [List.getElem?_toArray, List.getElem?_cons_succ, List.getElem?_cons_zero]; rfl) (by kernel_rfl) (by kernel_rfl) (by kernel_rfl) (by kernel_rfl) (by kernel_rfl) (fun _ _ _ h => h) (Or.inl ⟨by rfl, ?_⟩) (by assumption) ?_
                      rotate_left 1
                      · (intro w' hSw; go_simp; try with_reducible rfl)
                      try simp only [Act.put, List.setIfInBounds_toArray, List.set_cons_zero, List.set_cons_succ]
                      refine wpAnyW_take (i := 7) (v := ?_) (by simp only [List.getElem?_toArray, List.getElem?_cons_succ, List.getElem?_cons_zero]; rfl) (by kernel_rfl) (by kernel_rfl) (by kernel_rfl) (by kernel_rfl) (by kernel_rfl) (fun _ _ _ h => h) (Or.inl ⟨by rfl, ?_⟩) (by assumption) ?_
                      rotate_left 1
                      · (intro w' hSw; go_simp; try with_reducible rfl)
                      try simp only [Act.put, List.setIfInBounds_toArray, List.set_cons_zero, List.set_cons_succ]
                      refine wpAnyW_take (i := 8) (v := ?_) (by simp only [List.getElem?_toArray, List.getElem?_cons_succ, List.getElem?_cons_zero]; rfl) (by kernel_rfl) (by kernel_rfl) (by kernel_rfl) (by kernel_rfl) (by kernel_rfl) (fun _ _ _ h => h) (Or.inl ⟨by rfl, ?_⟩) (by assumption) ?_
                      rotate_left 1
                      · (intro w' hSw; go_simp; try with_reducible rfl)
                      try simp only [Act.put, List.setIfInBounds_toArray, List.set_cons_zero, List.set_cons_succ]
                      refine wpAnyW_take (i := 9) (v := ?_) (by simp only [List.getElem?_toArray, List.getElem?_cons_succ, List.getElem?_cons_zero]; rfl) (by kernel_rfl) (by kernel_rfl) (by kernel_rfl) (by kernel_rfl) (by kernel_rfl) (fun _ _ _ h => h) (Or.inl ⟨by rfl, ?_⟩) (by assumption) ?_
                      rotate_left 1
                      · (intro w' hSw; go_simp; try with_reducible rfl)
                      try simp only [Act.put, List.setIfInBounds_toArray, List.set_cons_zero, List.set_cons_succ]
                      refine wpAnyW_held (i := 12) (by kernel_rfl) (by simp only [List.getElem?_toArray, List.getElem?_cons_succ, List.getElem?_cons_zero]; rfl) (fun K hK => ?_)
                      rw [if_pos (by rfl)]
                      refine wpB (ty := 27) #[.int .u32 (cn.toNat : Int), .slice A9 0 k9] rfl rfl rfl HXqa.out infoS rfl (cellsS_one _ _ _ _) ?_
                      intro y1 ht hg
                      have HS : (fun V => Bx V g15 27 #[.int .u32 (cn.toNat : Int), .slice A5 0 k5] ∧ Bx V g8 27 #[.int .u32 (c.toNat : Int), .slice A n k] ∧ Below w9.heap.size w9 V) _ := ⟨hHeld.1.kept hg (by omega), hHeld.2.1.kept hg (by omega), below_of_grown1 hHeld.2.2 hg hHeld.2.2.size hzgqa⟩
                      replace HXqb := Lib.hid (HXqb.out.kept hg (by omega))
                      replace HXqa := Lib.hid ht
                      clear ht hg hHeld
                      refine hK.out _ _ HS (fun hHeld => ?_)
                      clear hK K HS
                      try simp only [Act.put, List.setIfInBounds_toArray, List.set_cons_zero, List.set_cons_succ]
                      refine wpAnyW_held (i := 13) (by kernel_rfl) (by simp only [List.getElem?_toArray, List.getElem?_cons_succ, List.getElem?_cons_zero]; rfl) (fun K hK => ?_)
                      rw [if_pos (by rfl)]
                      refine wpB (ty := 42) #[.int .i64 0, .int .i64 0, .bool false, .bool false, .slice A6 0 k6, .slice A7 0 k7, .slice A8 0 k8] rfl rfl rfl HXqb.out infoR rfl (cellsR_one _ _ _ _ _ _ _ _ _ _ _ _ _) ?_
                      intro y2 ht hg
                      have HS : (fun V => Bx V g15 27 #[.int .u32 (cn.toNat : Int), .slice A5 0 k5] ∧ Bx V g8 27 #[.int .u32 (c.toNat : Int), .slice A n k] ∧ Below w9.heap.size w9 V) _ := ⟨hHeld.1.kept hg (by omega), hHeld.2.1.kept hg (by omega), below_of_grown1 hHeld.2.2 hg hHeld.2.2.size hzgqb⟩
                      replace HXqa := Lib.hid (HXqa.out.kept hg (by omega))
                      replace HXqb := Lib.hid ht
                      clear ht hg hHeld
                      refine hK.out _ _ HS (fun hHeld => ?_)
                      clear hK K HS
                      try simp only [Act.put, List.setIfInBounds_toArray, List.set_cons_zero, List.set_cons_succ]
                      refine wpAnyW_freed (i := 14) (by kernel_rfl) (by kernel_rfl) (by simp only [List.getElem?_toArray, List.getElem?_cons_succ, List.getElem?_cons_zero]; rfl) (fun K hK => ?_)
                      rw [if_pos (by rfl)]
                      go_simp
                      have HE := Lib.hid hHeld
                      refine hK.out _ _ ?_
                      clear hK K hHeld
                      try simp only [Act.put, List.setIfInBounds_toArray, List.set_cons_zero, List.set_cons_succ]
                      refine wpAnyW_done (by kernel_rfl) ?_ _
                      refine NoPanic.normal ?_
                      go_wp2_with fail
                      go_meet
                      exact ⟨gqb, A6, k6, A7, k7, A8, k8, rfl, rfl, Lib.hid ⟨HXqb.out, HE.out.2.2⟩⟩
            · as_aux_lemma =>
                rw [if_pos (by rfl)]
                obtain ⟨vq0, hvq0, HXqa, HBvq0, hsvq0⟩ := one_open w9.drew 27 #[.int .u32 0, .slice none 0 0]
                obtain ⟨gqa, hgqa⟩ : ∃ g, w9.drew.heap.size = g := ⟨_, rfl⟩
                rw [hgqa] at HXqa hsvq0
                have HS : (fun V => Bx V g15 27 #[.int .u32 (cn.toNat : Int), .slice A5 0 k5] ∧ Bx V g8 27 #[.int .u32 (c.toNat : Int), .slice A n k] ∧ Below w9.heap.size w9 V) _ := ⟨hHeld.1.later HBvq0.out, hHeld.2.1.later HBvq0.out, hHeld.2.2.trans (HBvq0.out.mono hHeld.2.2.size)⟩
                have hzgqa : w9.heap.size ≤ gqa := by have := hHeld.2.2.size; omega
                clear hHeld HBvq0 hsvq0
                go_simp
                refine hK.out _ _ HS (fun hHeld => ?_)
                clear hK K HS
                try simp only [Act.put, List.setIfInBounds_toArray, List.set_cons_zero, List.set_cons_succ]
                refine wpAnyW_two (i := 2) (i2 := 11) (by kernel_rfl) (by simp only [List.getElem?_toArray, List.getElem?_cons_succ, List.getElem?_cons_zero]; rfl) (by simp only [List.getElem?_toArray, List.getElem?_cons_succ, List.getElem?_cons_zero]; rfl) (fun K hK => ?_) (fun K hK => ?_)
                · as_aux_lemma =>
                    rw [if_pos (by rfl)]
                    go_simp
                    refine (HNX.out A k _).mono ?_
                    rintro _ uq1 ⟨rfl, hb⟩
                    have HS : (fun V => Bx V g15 27 #[.int .u32 (cn.toNat : Int), .slice A5 0 k5] ∧ Bx V g8 27 #[.int .u32 (c.toNat : Int), .slice A n k] ∧ Below w9.heap.size w9 V) _ := ⟨hHeld.1.later hb, hHeld.2.1.later hb, hHeld.2.2.trans (hb.mono hHeld.2.2.size)⟩
                    replace HXqa := Lib.hid (HXqa.out.later hb)
                    clear hHeld hb
                    go_wp2_with fail
                    refine hK.out _ _ HS (fun hHeld => ?_)
                    clear hK K HS
                    try simp only [Act.put, List.setIfInBounds_toArray, List.set_cons_zero, List.set_cons_succ]
                    refine wpAnyW_take (i := 3) (v := ?_) (by simp only [List.getElem?_toArray, List.getElem?_cons_succ, List.getElem?_cons_zero]; rfl) (by kernel_rfl) (by kernel_rfl) (by kernel_rfl) (by kernel_rfl) (by kernel_rfl) (fun _ _ _ h => h) (Or.inl ⟨by rfl, ?_⟩) (by assumption) ?_
                    rotate_left 1
                    · (intro w' hSw; go_simp; try with_reducible rfl)
                    try simp only [Act.put, List.setIfInBounds_toArray, List.set_cons_zero, List.set_cons_succ]
                    refine wpAnyW_two (i := 5) (i2 := 11) (by kernel_rfl) (by simp only [List.getElem?_toArray, List.getElem?_cons_succ, List.getElem?_cons_zero]; rfl) (by simp only [List.getElem?_toArray, List.getElem?_cons_succ, List.getElem?_cons_zero]; rfl) (fun K hK => ?_) (fun K hK => ?_)
                    · rw [if_pos (by rfl)]
                      go_simp
                      refine (HAK2.out _ _ (HR5.out _)).mono ?_
                      rintro _ uq2 ⟨A9, k9, A6, k6, A7, k7, A8, k8, rfl, hb⟩
                      have HS : (fun V => Bx V g15 27 #[.int .u32 (cn.toNat : Int), .slice A5 0 k5] ∧ Bx V g8 27 #[.int .u32 (c.toNat : Int), .slice A n k] ∧ Below w9.heap.size w9 V) _ := ⟨hHeld.1.later hb, hHeld.2.1.later hb, hHeld.2.2.trans (hb.mono hHeld.2.2.size)⟩
                      replace HXqa := Lib.hid (HXqa.out.later hb)
                      clear hHeld hb
                      go_wp2_with fail
                      refine hK.out _ _ HS (fun hHeld => ?_)
                      clear hK K HS
                      try simp only [Act.put, List.setIfInBounds_toArray, List.set_cons_zero, List.set_cons_succ]
                      refine wpAnyW_take (i := 6) (v := ?_) (by simp only [List.getElem?_toArray, List.getElem?_cons_succ, List.getElem?_cons_zero]; rfl) (by kernel_rfl) (by kernel_rfl) (by kernel_rfl) (by kernel_rfl) (by kernel_rfl) (fun _ _ _ h => h) (Or.inl ⟨by rfl, ?_⟩) (by assumption) ?_
                      rotate_left 1
                      · (intro w' hSw; go_simp; try with_reducible rfl)
                      try simp only [Act.put, List.setIfInBounds_toArray, List.set_cons_zero, List.set_cons_succ]
                      refine wpAnyW_take (i := 7) (v := ?_) (by simp only [List.getElem?_toArray, List.getElem?_cons_succ, List.getElem?_cons_zero]; rfl) (by kernel_rfl) (by kernel_rfl) (by kernel_rfl) (by kernel_rfl) (by kernel_rfl) (fun _ _ _ h => h) (Or.inl ⟨by rfl, ?_⟩) (by assumption) ?_
                      rotate_left 1
                      · (intro w' hSw; go_simp; try with_reducible rfl)
                      try simp only [Act.put, List.setIfInBounds_toArray, List.set_cons_zero, List.set_cons_succ]
                      refine wpAnyW_take (i := 8) (v := ?_) (by simp only [List.getElem?_toArray, List.getElem?_cons_succ, List.getElem?_cons_zero]; rfl) (by kernel_rfl) (by kernel_rfl) (by kernel_rfl) (by kernel_rfl) (by kernel_rfl) (fun _ _ _ h => h) (Or.inl ⟨by rfl, ?_⟩) (by assumption) ?_
                      rotate_left 1
                      · (intro w' hSw; go_simp; try with_reducible rfl)
                      try simp only [Act.put, List.setIfInBounds_toArray, List.set_cons_zero, List.set_cons_succ]
                      refine wpAnyW_take (i := 9) (v := ?_) (by simp only [List.getElem?_toArray, List.getElem?_cons_succ, List.getElem?_cons_zero]; rfl) (by kernel_rfl) (by kernel_rfl) (by kernel_rfl) (by kernel_rfl) (by kernel_rfl) (fun _ _ _ h => h) (Or.inl ⟨by rfl, ?_⟩) (by assumption) ?_
                      rotate_left 1
                      · (intro w' hSw; go_simp; try with_reducible rfl)
                      try simp only [Act.put, List.setIfInBounds_toArray, List.set_cons_zero, List.set_cons_succ]
                      refine wpAnyW_held (i := 11) (by kernel_rfl) (by simp only [List.getElem?_toArray, List.getElem?_cons_succ, List.getElem?_cons_zero]; rfl) (fun K hK => ?_)
                      rw [if_pos (by rfl)]
                      obtain ⟨vq3, hvq3, HXqb, HBvq3, hsvq3⟩ := one_open uq2 42 #[.int .i64 0, .int .i64 0, .bool false, .bool false, .slice none 0 0, .slice none 0 0, .slice none 0 0]
                      obtain ⟨gqb, hgqb⟩ : ∃ g, uq2.heap.size = g := ⟨_, rfl⟩
                      rw [hgqb] at HXqb hsvq3
                      have HS : (fun V => Bx V g15 27 #[.int .u32 (cn.toNat : Int), .slice A5 0 k5] ∧ Bx V g8 27 #[.int .u32 (c.toNat : Int), .slice A n k] ∧ Below w9.heap.size w9 V) _ := ⟨hHeld.1.later HBvq3.out, hHeld.2.1.later HBvq3.out, hHeld.2.2.trans (HBvq3.out.mono hHeld.2.2.size)⟩
                      have hzgqb : w9.heap.size ≤ gqb := by have := hHeld.2.2.size; omega
                      have hneq : gqa < gqb := by have := HXqa.out.lt; omega
                      replace HXqa := Lib.hid (HXqa.out.later HBvq3.out)
                      clear hHeld HBvq3 hsvq3
                      go_simp
                      refine hK.out _ _ HS (fun hHeld => ?_)
                      clear hK K HS
                      try simp only [Act.put, List.setIfInBounds_toArray, List.set_cons_zero, List.set_cons_succ]
                      refine wpAnyW_held (i := 12) (by kernel_rfl) (by simp only [List.getElem?_toArray, List.getElem?_cons_succ, List.getElem?_cons_zero]; rfl) (fun K hK => ?_)
                      rw [if_pos (by rfl)]
                      refine wpB (ty := 27) #[.int .u32 (cn.toNat : Int), .slice A9 0 k9] rfl rfl rfl HXqa.out infoS rfl (cellsS_one _ _ _ _) ?_
                      intro y1 ht hg
                      have HS : (fun V => Bx V g15 27 #[.int .u32 (cn.toNat : Int), .slice A5 0 k5] ∧ Bx V g8 27 #[.int .u32 (c.toNat : Int), .slice A n k] ∧ Below w9.heap.size w9 V) _ := ⟨hHeld.1.kept hg (by omega), hHeld.2.1.kept hg (by omega), below_of_grown1 hHeld.2.2 hg hHeld.2.2.size hzgqa⟩
                      replace HXqb := Lib.hid (HXqb.out.kept hg (by omega))
                      replace HXqa := Lib.hid ht
                      clear ht hg hHeld
                      refine hK.out _ _ HS (fun hHeld => ?_)
                      clear hK K HS
                      try simp only [Act.put, List.setIfInBounds_toArray, List.set_cons_zero, List.set_cons_succ]
                      refine wpAnyW_held (i := 13) (by kernel_rfl) (by simp only [List.getElem?_toArray, List.getElem?_cons_succ, List.getElem?_cons_zero]; rfl) (fun K hK => ?_)
                      rw [if_pos (by rfl)]
                      refine wpB (ty := 42) #[.int .i64 0, .int .i64 0, .bool false, .bool false, .slice A6 0 k6, .slice A7 0 k7, .slice A8 0 k8] rfl rfl rfl HXqb.out infoR rfl (cellsR_one _ _ _ _ _ _ _ _ _ _ _ _ _) ?_
                      intro y2 ht hg
                      have HS : (fun V => Bx V g15 27 #[.int .u32 (cn.toNat : Int), .slice A5 0 k5] ∧ Bx V g8 27 #[.int .u32 (c.toNat : Int), .slice A n k] ∧ Below w9.heap.size w9 V) _ := ⟨hHeld.1.kept hg (by omega), hHeld.2.1.kept hg (by omega), below_of_grown1 hHeld.2.2 hg hHeld.2.2.size hzgqb⟩
                      replace HXqa := Lib.hid (HXqa.out.kept hg (by omega))
                      replace HXqb := Lib.hid ht
                      clear ht hg hHeld
                      refine hK.out _ _ HS (fun hHeld => ?_)
                      clear hK K HS
                      try simp only [Act.put, List.setIfInBounds_toArray, List.set_cons_zero, List.set_cons_succ]
                      refine wpAnyW_freed (i := 14) (by kernel_rfl) (by kernel_rfl) (by simp only [List.getElem?_toArray, List.getElem?_cons_succ, List.getElem?_cons_zero]; rfl) (fun K hK => ?_)
                      rw [if_pos (by rfl)]
                      go_simp
                      have HE := Lib.hid hHeld
                      refine hK.out _ _ ?_
                      clear hK K hHeld
                      try simp only [Act.put, List.setIfInBounds_toArray, List.set_cons_zero, List.set_cons_succ]
                      refine wpAnyW_done (by kernel_rfl) ?_ _
                      refine NoPanic.normal ?_
                      go_wp2_with fail
                      go_meet
                      exact ⟨gqb, A6, k6, A7, k7, A8, k8, rfl, rfl, Lib.hid ⟨HXqb.out, HE.out.2.2⟩⟩
                    · rw [if_pos (by rfl)]
                      obtain ⟨vq2, hvq2, HXqb, HBvq2, hsvq2⟩ := one_open uq1 42 #[.int .i64 0, .int .i64 0, .bool false, .bool false, .slice none 0 0, .slice none 0 0, .slice none 0 0]
                      obtain ⟨gqb, hgqb⟩ : ∃ g, uq1.heap.size = g := ⟨_, rfl⟩
                      rw [hgqb] at HXqb hsvq2
                      have HS : (fun V => Bx V g15 27 #[.int .u32 (cn.toNat : Int), .slice A5 0 k5] ∧ Bx V g8 27 #[.int .u32 (c.toNat : Int), .slice A n k] ∧ Below w9.heap.size w9 V) _ := ⟨hHeld.1.later HBvq2.out, hHeld.2.1.later HBvq2.out, hHeld.2.2.trans (HBvq2.out.mono hHeld.2.2.size)⟩
                      have hzgqb : w9.heap.size ≤ gqb := by have := hHeld.2.2.size; omega
                      have hneq : gqa < gqb := by have := HXqa.out.lt; omega
                      replace HXqa := Lib.hid (HXqa.out.later HBvq2.out)
                      clear hHeld HBvq2 hsvq2
                      go_simp
                      refine hK.out _ _ HS (fun hHeld => ?_)
                      clear hK K HS
                      try simp only [Act.put, List.setIfInBounds_toArray, List.set_cons_zero, List.set_cons_succ]
                      refine wpAnyW_held (i := 5) (by kernel_rfl) (by simp only [List.getElem?_toArray, List.getElem?_cons_succ, List.getElem?_cons_zero]; rfl) (fun K hK => ?_)
                      rw [if_pos (by rfl)]
                      go_simp
                      refine (HAK2.out _ _ (HR5.out _)).mono ?_
                      rintro _ uq3 ⟨A9, k9, A6, k6, A7, k7, A8, k8, rfl, hb⟩
                      have HS : (fun V => Bx V g15 27 #[.int .u32 (cn.toNat : Int), .slice A5 0 k5] ∧ Bx V g8 27 #[.int .u32 (c.toNat : Int), .slice A n k] ∧ Below w9.heap.size w9 V) _ := ⟨hHeld.1.later hb, hHeld.2.1.later hb, hHeld.2.2.trans (hb.mono hHeld.2.2.size)⟩
                      replace HXqa := Lib.hid (HXqa.out.later hb)
                      replace HXqb := Lib.hid (HXqb.out.later hb)
                      clear hHeld hb
                      go_wp2_with fail
                      refine hK.out _ _ HS (fun hHeld => ?_)
                      clear hK K HS
                      try simp only [Act.put, List.setIfInBounds_toArray, List.set_cons_zero, List.set_cons_succ]
                      refine wpAnyW_take (i := 6) (v := ?_) (by simp only [List.getElem?_toArray, List.getElem?_cons_succ, List.getElem?_cons_zero]; rfl) (by kernel_rfl) (by kernel_rfl) (by kernel_rfl) (by kernel_rfl) (by kernel_rfl) (fun _ _ _ h => h) (Or.inl ⟨by rfl, ?_⟩) (by assumption) ?_
                      rotate_left 1
                      · (intro w' hSw; go_simp; try with_reducible rfl)
                      try simp only [Act.put, List.setIfInBounds_toArray, List.set_cons_zero, List.set_cons_succ]
                      refine wpAnyW_take (i := 7) (v := ?_) (by simp only [List.getElem?_toArray, List.getElem?_cons_succ, List.getElem?_cons_zero]; rfl) (by kernel_rfl) (by kernel_rfl) (by kernel_rfl) (by kernel_rfl) (by kernel_rfl) (fun _ _ _ h => h) (Or.inl ⟨by rfl, ?_⟩) (by assumption) ?_
                      rotate_left 1
                      · (intro w' hSw; go_simp; try with_reducible rfl)
                      try simp only [Act.put, List.setIfInBounds_toArray, List.set_cons_zero, List.set_cons_succ]
                      refine wpAnyW_take (i := 8) (v := ?_) (by simp only [List.getElem?_toArray, List.getElem?_cons_succ, List.getElem?_cons_zero]; rfl) (by kernel_rfl) (by kernel_rfl) (by kernel_rfl) (by kernel_rfl) (by kernel_rfl) (fun _ _ _ h => h) (Or.inl ⟨by rfl, ?_⟩) (by assumption) ?_
                      rotate_left 1
                      · (intro w' hSw; go_simp; try with_reducible rfl)
                      try simp only [Act.put, List.setIfInBounds_toArray, List.set_cons_zero, List.set_cons_succ]
                      refine wpAnyW_take (i := 9) (v := ?_) (by simp only [List.getElem?_toArray, List.getElem?_cons_succ, List.getElem?_cons_zero]; rfl) (by kernel_rfl) (by kernel_rfl) (by kernel_rfl) (by kernel_rfl) (by kernel_rfl) (fun _ _ _ h => h) (Or.inl ⟨by rfl, ?_⟩) (by assumption) ?_
                      rotate_left 1
                      · (intro w' hSw; go_simp; try with_reducible rfl)
                      try simp only [Act.put, List.setIfInBounds_toArray, List.set_cons_zero, List.set_cons_succ]
                      refine wpAnyW_held (i := 12) (by kernel_rfl) (by simp only [List.getElem?_toArray, List.getElem?_cons_succ, List.getElem?_cons_zero]; rfl) (fun K hK => ?_)
                      rw [if_pos (by rfl)]
                      refine wpB (ty := 27) #[.int .u32 (cn.toNat : Int), .slice A9 0 k9] rfl rfl rfl HXqa.out infoS rfl (cellsS_one _ _ _ _) ?_
                      intro y1 ht hg
                      have HS : (fun V => Bx V g15 27 #[.int .u32 (cn.toNat : Int), .slice A5 0 k5] ∧ Bx V g8 27 #[.int .u32 (c.toNat : Int), .slice A n k] ∧ Below w9.heap.size w9 V) _ := ⟨hHeld.1.kept hg (by omega), hHeld.2.1.kept hg (by omega), below_of_grown1 hHeld.2.2 hg hHeld.2.2.size hzgqa⟩
                      replace HXqb := Lib.hid (HXqb.out.kept hg (by omega))
                      replace HXqa := Lib.hid ht
                      clear ht hg hHeld
                      refine hK.out _ _ HS (fun hHeld => ?_)
                      clear hK K HS
                      try simp only [Act.put, List.setIfInBounds_toArray, List.set_cons_zero, List.set_cons_succ]
                      refine wpAnyW_held (i := 13) (by kernel_rfl) (by simp only [List.getElem?_toArray, List.getElem?_cons_succ, List.getElem?_cons_zero]; rfl) (fun K hK => ?_)
                      rw [if_pos (by rfl)]
                      refine wpB (ty := 42) #[.int .i64 0, .int .i64 0, .bool false, .bool false, .slice A6 0 k6, .slice A7 0 k7, .slice A8 0 k8] rfl rfl rfl HXqb.out infoR rfl (cellsR_one _ _ _ _ _ _ _ _ _ _ _ _ _) ?_
                      intro y2 ht hg
                      have HS : (fun V => Bx V g15 27 #[.int .u32 (cn.toNat : Int), .slice A5 0 k5] ∧ Bx V g8 27 #[.int .u32 (c.toNat : Int), .slice A n k] ∧ Below w9.heap.size w9 V) _ := ⟨hHeld.1.kept hg (by omega), hHeld.2.1.kept hg (by omega), below_of_grown1 hHeld.2.2 hg hHeld.2.2.size hzgqb⟩
                      replace HXqa := Lib.hid (HXqa.out.kept hg (by omega))
                      replace HXqb := Lib.hid ht
                      clear ht hg hHeld
                      refine hK.out _ _ HS (fun hHeld => ?_)
                      clear hK K HS
                      try simp only [Act.put, List.setIfInBounds_toArray, List.set_cons_zero, List.set_cons_succ]
                      refine wpAnyW_freed (i := 14) (by kernel_rfl) (by kernel_rfl) (by simp only [List.getElem?_toArray, List.getElem?_cons_succ, List.getElem?_cons_zero]; rfl) (fun K hK => ?_)
                      rw [if_pos (by rfl)]
                      go_simp
                      have HE := Lib.hid hHeld
                      refine hK.out _ _ ?_
                      clear hK K hHeld
                      try simp only [Act.put, List.setIfInBounds_toArray, List.set_cons_zero, List.set_cons_succ]
                      refine wpAnyW_done (by kernel_rfl) ?_ _
                      refine NoPanic.normal ?_
                      go_wp2_with fail
                      go_meet
                      exact ⟨gqb, A6, k6, A7, k7, A8, k8, rfl, rfl, Lib.hid ⟨HXqb.out, HE.out.2.2⟩⟩
                · as_aux_lemma =>
                    rw [if_pos (by rfl)]
                    obtain ⟨vq1, hvq1, HXqb, HBvq1, hsvq1⟩ := one_open vq0 42 #[.int .i64 0, .int .i64 0, .bool false, .bool false, .slice none 0 0, .slice none 0 0, .slice none 0 0]
                    obtain ⟨gqb, hgqb⟩ : ∃ g, vq0.heap.size = g := ⟨_, rfl⟩
                    rw [hgqb] at HXqb hsvq1
                    have HS : (fun V => Bx V g15 27 #[.int .u32 (cn.toNat : Int), .slice A5 0 k5] ∧ Bx V g8 27 #[.int .u32 (c.toNat : Int), .slice A n k] ∧ Below w9.heap.size w9 V) _ := ⟨hHeld.1.later HBvq1.out, hHeld.2.1.later HBvq1.out, hHeld.2.2.trans (HBvq1.out.mono hHeld.2.2.size)⟩
                    have hzgqb : w9.heap.size ≤ gqb := by have := hHeld.2.2.size; omega
                    have hneq : gqa < gqb := by have := HXqa.out.lt; omega
                    replace HXqa := Lib.hid (HXqa.out.later HBvq1.out)
                    clear hHeld HBvq1 hsvq1
                    go_simp
                    refine hK.out _ _ HS (fun hHeld => ?_)
                    clear hK K HS
                    try simp only [Act.put, List.setIfInBounds_toArray, List.set_cons_zero, List.set_cons_succ]
                    refine wpAnyW_held (i := 2) (by kernel_rfl) (by simp only [List.getElem?_toArray, List.getElem?_cons_succ, List.getElem?_cons_zero]; rfl) (fun K hK => ?_)
                    rw [if_pos (by rfl)]
                    go_simp
                    refine (HNX.out A k _).mono ?_
                    rintro _ uq2 ⟨rfl, hb⟩
                    have HS : (fun V => Bx V g15 27 #[.int .u32 (cn.toNat : Int), .slice A5 0 k5] ∧ Bx V g8 27 #[.int .u32 (c.toNat : Int), .slice A n k] ∧ Below w9.heap.size w9 V) _ := ⟨hHeld.1.later hb, hHeld.2.1.later hb, hHeld.2.2.trans (hb.mono hHeld.2.2.size)⟩
                    replace HXqa := Lib.hid (HXqa.out.later hb)
                    replace HXqb := Lib.hid (HXqb.out.later hb)
                    clear hHeld hb
                    go_wp2_with fail
                    refine hK.out _ _ HS (fun hHeld => ?_)
                    clear hK K HS
                    try simp only [Act.put, List.setIfInBounds_toArray, List.set_cons_zero, List.set_cons_succ]
                    refine wpAnyW_take (i := 3) (v := ?_) (by simp only [List.getElem?_toArray, List.getElem?_cons_succ, List.getElem?_cons_zero]; rfl) (by kernel_rfl) (by kernel_rfl) (by kernel_rfl) (by kernel_rfl) (by kernel_rfl) (fun _ _ _ h => h) (Or.inl ⟨by rfl, ?_⟩) (by assumption) ?_
                    rotate_left 1
                    · (intro w' hSw; go_simp; try with_reducible rfl)
                    try simp only [Act.put, List.setIfInBounds_toArray, List.set_cons_zero, List.set_cons_succ]
                    refine wpAnyW_held (i := 5) (by kernel_rfl) (by simp only [List.getElem?_toArray, List.getElem?_cons_succ, List.getElem?_cons_zero]; rfl) (fun K hK => ?_)
                    rw [if_pos (by rfl)]
                    go_simp
                    refine (HAK2.out _ _ (HR5.out _)).mono ?_
                    rintro _ uq3 ⟨A9, k9, A6, k6, A7, k7, A8, k8, rfl, hb⟩
                    have HS : (fun V => Bx V g15 27 #[.int .u32 (cn.toNat : Int), .slice A5 0 k5] ∧ Bx V g8 27 #[.int .u32 (c.toNat : Int), .slice A n k] ∧ Below w9.heap.size w9 V) _ := ⟨hHeld.1.later hb, hHeld.2.1.later hb, hHeld.2.2.trans (hb.mono hHeld.2.2.size)⟩
                    replace HXqa := Lib.hid (HXqa.out.later hb)
                    replace HXqb := Lib.hid (HXqb.out.later hb)
                    clear hHeld hb
                    go_wp2_with fail
                    refine hK.out _ _ HS (fun hHeld => ?_)
                    clear hK K HS
                    try simp only [Act.put, List.setIfInBounds_toArray, List.set_cons_zero, List.set_cons_succ]
                    refine wpAnyW_take (i := 6) (v := ?_) (by simp only [List.getElem?_toArray, List.getElem?_cons_succ, List.getElem?_cons_zero]; rfl) (by kernel_rfl) (by kernel_rfl) (by kernel_rfl) (by kernel_rfl) (by kernel_rfl) (fun _ _ _ h => h) (Or.inl ⟨by rfl, ?_⟩) (by assumption) ?_
                    rotate_left 1
                    · (intro w' hSw; go_simp; try with_reducible rfl)
                    try simp only [Act.put, List.setIfInBounds_toArray, List.set_cons_zero, List.set_cons_succ]
                    refine wpAnyW_take (i := 7) (v := ?_) (by simp only [List.getElem?_toArray, List.getElem?_cons_succ, List.getElem?_cons_zero]; rfl) (by kernel_rfl) (by kernel_rfl) (by kernel_rfl) (by kernel_rfl) (by kernel_rfl) (fun _ _ _ h => h) (Or.inl ⟨by rfl, ?_⟩) (by assumption) ?_
                    rotate_left 1
                    · (intro w' hSw; go_simp; try with_reducible rfl)
                    try simp only [Act.put, List.setIfInBounds_toArray, List.set_cons_zero, List.set_cons_succ]
                    refine wpAnyW_take (i := 8) (v := ?_) (by simp only [List.getElem?_toArray, List.getElem?_cons_succ, List.getElem?_cons_zero]; rfl) (by kernel_rfl) (by kernel_rfl) (by kernel_rfl) (by kernel_rfl) (by kernel_rfl) (fun _ _ _ h => h) (Or.inl ⟨by rfl, ?_⟩) (by assumption) ?_
                    rotate_left 1
                    · (intro w' hSw; go_simp; try with_reducible rfl)
                    try simp only [Act.put, List.setIfInBounds_toArray, List.set_cons_zero, List.set_cons_succ]
                    refine wpAnyW_take (i := 9) (v := ?_) (by simp only [List.getElem?_toArray, List.getElem?_cons_succ, List.getElem?_cons_zero]; rfl) (by kernel_rfl) (by kernel_rfl) (by kernel_rfl) (by kernel_rfl) (by kernel_rfl) (fun _ _ _ h => h) (Or.inl ⟨by rfl, ?_⟩) (by assumption) ?_
                    rotate_left 1
                    · (intro w' hSw; go_simp; try with_reducible rfl)
                    try simp only [Act.put, List.setIfInBounds_toArray, List.set_cons_zero, List.set_cons_succ]
                    refine wpAnyW_held (i := 12) (by kernel_rfl) (by simp only [List.getElem?_toArray, List.getElem?_cons_succ, List.getElem?_cons_zero]; rfl) (fun K hK => ?_)
                    rw [if_pos (by rfl)]
                    refine wpB (ty := 27) #[.int .u32 (cn.toNat : Int), .slice A9 0 k9] rfl rfl rfl HXqa.out infoS rfl (cellsS_one _ _ _ _) ?_
                    intro y1 ht hg
                    have HS : (fun V => Bx V g15 27 #[.int .u32 (cn.toNat : Int), .slice A5 0 k5] ∧ Bx V g8 27 #[.int .u32 (c.toNat : Int), .slice A n k] ∧ Below w9.heap.size w9 V) _ := ⟨hHeld.1.kept hg (by omega), hHeld.2.1.kept hg (by omega), below_of_grown1 hHeld.2.2 hg hHeld.2.2.size hzgqa⟩
                    replace HXqb := Lib.hid (HXqb.out.kept hg (by omega))
                    replace HXqa := Lib.hid ht
                    clear ht hg hHeld
                    refine hK.out _ _ HS (fun hHeld => ?_)
                    clear hK K HS
                    try simp only [Act.put, List.setIfInBounds_toArray, List.set_cons_zero, List.set_cons_succ]
                    refine wpAnyW_held (i := 13) (by kernel_rfl) (by simp only [List.getElem?_toArray, List.getElem?_cons_succ, List.getElem?_cons_zero]; rfl) (fun K hK => ?_)
                    rw [if_pos (by rfl)]
                    refine wpB (ty := 42) #[.int .i64 0, .int .i64 0, .bool false, .bool false, .slice A6 0 k6, .slice A7 0 k7, .slice A8 0 k8] rfl rfl rfl HXqb.out infoR rfl (cellsR_one _ _ _ _ _ _ _ _ _ _ _ _ _) ?_
                    intro y2 ht hg
                    have HS : (fun V => Bx V g15 27 #[.int .u32 (cn.toNat : Int), .slice A5 0 k5] ∧ Bx V g8 27 #[.int .u32 (c.toNat : Int), .slice A n k] ∧ Below w9.heap.size w9 V) _ := ⟨hHeld.1.kept hg (by omega), hHeld.2.1.kept hg (by omega), below_of_grown1 hHeld.2.2 hg hHeld.2.2.size hzgqb⟩
                    replace HXqa := Lib.hid (HXqa.out.kept hg (by omega))
                    replace HXqb := Lib.hid ht
                    clear ht hg hHeld
                    refine hK.out _ _ HS (fun hHeld => ?_)
                    clear hK K HS
                    try simp only [Act.put, List.setIfInBounds_toArray, List.set_cons_zero, List.set_cons_succ]
                    refine wpAnyW_freed (i := 14) (by kernel_rfl) (by kernel_rfl) (by simp only [List.getElem?_toArray, List.getElem?_cons_succ, List.getElem?_cons_zero]; rfl) (fun K hK => ?_)
                    rw [if_pos (by rfl)]
                    go_simp
                    have HE := Lib.hid hHeld
                    refine hK.out _ _ ?_
                    clear hK K hHeld
                    try simp only [Act.put, List.setIfInBounds_toArray, List.set_cons_zero, List.set_cons_succ]
                    refine wpAnyW_done (by kernel_rfl) ?_ _
                    refine NoPanic.normal ?_
                    go_wp2_with fail
                    go_meet
                    exact ⟨gqb, A6, k6, A7, k7, A8, k8, rfl, rfl, Lib.hid ⟨HXqb.out, HE.out.2.2⟩⟩
            · as_aux_lemma =>
                rw [if_pos (by rfl)]
                obtain ⟨vq0, hvq0, HXqb, HBvq0, hsvq0⟩ := one_open w9.drew 42 #[.int .i64 0, .int .i64 0, .bool false, .bool false, .slice none 0 0, .slice none 0 0, .slice none 0 0]
                obtain ⟨gqb, hgqb⟩ : ∃ g, w9.drew.heap.size = g := ⟨_, rfl⟩
                rw [hgqb] at HXqb hsvq0
                have HS : (fun V => Bx V g15 27 #[.int .u32 (cn.toNat : Int), .slice A5 0 k5] ∧ Bx V g8 27 #[.int .u32 (c.toNat : Int), .slice A n k] ∧ Below w9.heap.size w9 V) _ := ⟨hHeld.1.later HBvq0.out, hHeld.2.1.later HBvq0.out, hHeld.2.2.trans (HBvq0.out.mono hHeld.2.2.size)⟩
                have hzgqb : w9.heap.size ≤ gqb := by have := hHeld.2.2.size; omega
                clear hHeld HBvq0 hsvq0
                go_simp
                refine hK.out _ _ HS (fun hHeld => ?_)
                clear hK K HS
                try simp only [Act.put, List.setIfInBounds_toArray, List.set_cons_zero, List.set_cons_succ]
                refine wpAnyW_two (i := 2) (i2 := 10) (by kernel_rfl) (by simp only [List.getElem?_toArray, List.getElem?_cons_succ, List.getElem?_cons_zero]; rfl) (by simp only [List.getElem?_toArray, List.getElem?_cons_succ, List.getElem?_cons_zero]; rfl) (fun K hK => ?_) (fun K hK => ?_)
                · as_aux_lemma =>
                    rw [if_pos (by rfl)]
                    go_simp
                    refine (HNX.out A k _).mono ?_
                    rintro _ uq1 ⟨rfl, hb⟩
                    have HS : (fun V => Bx V g15 27 #[.int .u32 (cn.toNat : Int), .slice A5 0 k5] ∧ Bx V g8 27 #[.int .u32 (c.toNat : Int), .slice A n k] ∧ Below w9.heap.size w9 V) _ := ⟨hHeld.1.later hb, hHeld.2.1.later hb, hHeld.2.2.trans (hb.mono hHeld.2.2.size)⟩
                    replace HXqb := Lib.hid (HXqb.out.later hb)
                    clear hHeld hb
                    go_wp2_with fail
                    refine hK.out _ _ HS (fun hHeld => ?_)
                    clear hK K HS
                    try simp only [Act.put, List.setIfInBounds_toArray, List.set_cons_zero, List.set_cons_succ]
                    refine wpAnyW_take (i := 3) (v := ?_) (by simp only [List.getElem?_toArray, List.getElem?_cons_succ, List.getElem?_cons_zero]; rfl) (by kernel_rfl) (by kernel_rfl) (by kernel_rfl) (by kernel_rfl) (by kernel_rfl) (fun _ _ _ h => h) (Or.inl ⟨by rfl, ?_⟩) (by assumption) ?_
                    rotate_left 1
                    · (intro w' hSw; go_simp; try with_reducible rfl)
                    try simp only [Act.put, List.setIfInBounds_toArray, List.set_cons_zero, List.set_cons_succ]
                    refine wpAnyW_two (i := 5) (i2 := 10) (by kernel_rfl) (by simp only [List.getElem?_toArray, List.getElem?_cons_succ, List.getElem?_cons_zero]; rfl) (by simp only [List.getElem?_toArray, List.getElem?_cons_succ, List.getElem?_cons_zero]; rfl) (fun K hK => ?_) (fun K hK => ?_)
                    · rw [if_pos (by rfl)]
                      go_simp
                      refine (HAK2.out _ _ (HR5.out _)).mono ?_
                      rintro _ uq2 ⟨A9, k9, A6, k6, A7, k7, A8, k8, rfl, hb⟩
                      have HS : (fun V => Bx V g15 27 #[.int .u32 (cn.toNat : Int), .slice A5 0 k5] ∧ Bx V g8 27 #[.int .u32 (c.toNat : Int), .slice A n k] ∧ Below w9.heap.size w9 V) _ := ⟨hHeld.1.later hb, hHeld.2.1.later hb, hHeld.2.2.trans (hb.mono hHeld.2.2.size)⟩
                      replace HXqb := Lib.hid (HXqb.out.later hb)
                      clear hHeld hb
                      go_wp2_with fail
                      refine hK.out _ _ HS (fun hHeld => ?_)
                      clear hK K HS
                      try simp only [Act.put, List.setIfInBounds_toArray, List.set_cons_zero, List.set_cons_succ]
                      refine wpAnyW_take (i := 6) (v := ?_) (by simp only [List.getElem?_toArray, List.getElem?_cons_succ, List.getElem?_cons_zero]; rfl) (by kernel_rfl) (by kernel_rfl) (by kernel_rfl) (by kernel_rfl) (by kernel_rfl) (fun _ _ _ h => h) (Or.inl ⟨by rfl, ?_⟩) (by assumption) ?_
                      rotate_left 1
                      · (intro w' hSw; go_simp; try with_reducible rfl)
                      try simp only [Act.put, List.setIfInBounds_toArray, List.set_cons_zero, List.set_cons_succ]
                      refine wpAnyW_take (i := 7) (v := ?_) (by simp only [List.getElem?_toArray, List.getElem?_cons_succ, List.getElem?_cons_zero]; rfl) (by kernel_rfl) (by kernel_rfl) (by kernel_rfl) (by kernel_rfl) (by kernel_rfl) (fun _ _ _ h => h) (Or.inl ⟨by rfl, ?_⟩) (by assumption) ?_
                      rotate_left 1
                      · (intro w' hSw; go_simp; try with_reducible rfl)
                      try simp only [Act.put, List.setIfInBounds_toArray, List.set_cons_zero, List.set_cons_succ]
                      refine wpAnyW_take (i := 8) (v := ?_) (by simp only [List.getElem?_toArray, List.getElem?_cons_succ, List.getElem?_cons_zero]; rfl) (by kernel_rfl) (by kernel_rfl) (by kernel_rfl) (by kernel_rfl) (by kernel_rfl) (fun _ _ _ h => h) (Or.inl ⟨by rfl, ?_⟩) (by assumption) ?_
                      rotate_left 1
                      · (intro w' hSw; go_simp; try with_reducible rfl)
                      try simp only [Act.put, List.setIfInBounds_toArray, List.set_cons_zero, List.set_cons_succ]
                      refine wpAnyW_take (i := 9) (v := ?_) (by simp only [List.getElem?_toArray, List.getElem?_cons_succ, List.getElem?_cons_zero]; rfl) (by kernel_rfl) (by kernel_rfl) (by kernel_rfl) (by kernel_rfl) (by kernel_rfl) (fun _ _ _ h => h) (Or.inl ⟨by rfl, ?_⟩) (by assumption) ?_
                      rotate_left 1
                      · (intro w' hSw; go_simp; try with_reducible rfl)
                      try simp only [Act.put, List.setIfInBounds_toArray, List.set_cons_zero, List.set_cons_succ]
                      refine wpAnyW_held (i := 10) (by kernel_rfl) (by simp only [List.getElem?_toArray, List.getElem?_cons_succ, List.getElem?_cons_zero]; rfl) (fun K hK => ?_)
                      rw [if_pos (by rfl)]
                      obtain ⟨vq3, hvq3, HXqa, HBvq3, hsvq3⟩ := one_open uq2 27 #[.int .u32 0, .slice none 0 0]
                      obtain ⟨gqa, hgqa⟩ : ∃ g, uq2.heap.size = g := ⟨_, rfl⟩
                      rw [hgqa] at HXqa hsvq3
                      have HS : (fun V => Bx V g15 27 #[.int .u32 (cn.toNat : Int), .slice A5 0 k5] ∧ Bx V g8 27 #[.int .u32 (c.toNat : Int), .slice A n k] ∧ Below w9.heap.size w9 V) _ := ⟨hHeld.1.later HBvq3.out, hHeld.2.1.later HBvq3.out, hHeld.2.2.trans (HBvq3.out.mono hHeld.2.2.size)⟩
                      have hzgqa : w9.heap.size ≤ gqa := by have := hHeld.2.2.size; omega
                      have hneq : gqb < gqa := by have := HXqb.out.lt; omega
                      replace HXqb := Lib.hid (HXqb.out.later HBvq3.out)
                      clear hHeld HBvq3 hsvq3
                      go_simp
                      refine hK.out _ _ HS (fun hHeld => ?_)
                      clear hK K HS
                      try simp only [Act.put, List.setIfInBounds_toArray, List.set_cons_zero, List.set_cons_succ]
                      refine wpAnyW_held (i := 12) (by kernel_rfl) (by simp only [List.getElem?_toArray, List.getElem?_cons_succ, List.getElem?_cons_zero]; rfl) (fun K hK => ?_)
                      rw [if_pos (by rfl)]
                      refine wpB (ty := 27) #[.int .u32 (cn.toNat : Int), .slice A9 0 k9] rfl rfl rfl HXqa.out infoS rfl (cellsS_one _ _ _ _) ?_
                      intro y1 ht hg
                      have HS : (fun V => Bx V g15 27 #[.int .u32 (cn.toNat : Int), .slice A5 0 k5] ∧ Bx V g8 27 #[.int .u32 (c.toNat : Int), .slice A n k] ∧ Below w9.heap.size w9 V) _ := ⟨hHeld.1.kept hg (by omega), hHeld.2.1.kept hg (by omega), below_of_grown1 hHeld.2.2 hg hHeld.2.2.size hzgqa⟩
                      replace HXqb := Lib.hid (HXqb.out.kept hg (by omega))
                      replace HXqa := Lib.hid ht
                      clear ht hg hHeld
                      refine hK.out _ _ HS (fun hHeld => ?_)
                      clear hK K HS
                      try simp only [Act.put, List.setIfInBounds_toArray, List.set_cons_zero, List.set_cons_succ]
                      refine wpAnyW_held (i := 13) (by kernel_rfl) (by simp only [List.getElem?_toArray, List.getElem?_cons_succ, List.getElem?_cons_zero]; rfl) (fun K hK => ?_)
                      rw [if_pos (by rfl)]
                      refine wpB (ty := 42) #[.int .i64 0, .int .i64 0, .bool false, .bool false, .slice A6 0 k6, .slice A7 0 k7, .slice A8 0 k8] rfl rfl rfl HXqb.out infoR rfl (cellsR_one _ _ _ _ _ _ _ _ _ _ _ _ _) ?_
                      intro y2 ht hg
                      have HS : (fun V => Bx V g15 27 #[.int .u32 (cn.toNat : Int), .slice A5 0 k5] ∧ Bx V g8 27 #[.int .u32 (c.toNat : Int), .slice A n k] ∧ Below w9.heap.size w9 V) _ := ⟨hHeld.1.kept hg (by omega), hHeld.2.1.kept hg (by omega), below_of_grown1 hHeld.2.2 hg hHeld.2.2.size hzgqb⟩
                      replace HXqa := Lib.hid (HXqa.out.kept hg (by omega))
                      replace HXqb := Lib.hid ht
                      clear ht hg hHeld
                      refine hK.out _ _ HS (fun hHeld => ?_)
                      clear hK K HS
                      try simp only [Act.put, List.setIfInBounds_toArray, List.set_cons_zero, List.set_cons_succ]
                      refine wpAnyW_freed (i := 14) (by kernel_rfl) (by kernel_rfl) (by simp only [List.getElem?_toArray, List.getElem?_cons_succ, List.getElem?_cons_zero]; rfl) (fun K hK => ?_)
                      rw [if_pos (by rfl)]
                      go_simp
                      have HE := Lib.hid hHeld
                      refine hK.out _ _ ?_
                      clear hK K hHeld
                      try simp only [Act.put, List.setIfInBounds_toArray, List.set_cons_zero, List.set_cons_succ]
                      refine wpAnyW_done (by kernel_rfl) ?_ _
                      refine NoPanic.normal ?_
                      go_wp2_with fail
                      go_meet
                      exact ⟨gqb, A6, k6, A7, k7, A8, k8, rfl, rfl, Lib.hid ⟨HXqb.out, HE.out.2.2⟩⟩
                    · rw [if_pos (by rfl)]
                      obtain ⟨vq2, hvq2, HXqa, HBvq2, hsvq2⟩ := one_open uq1 27 #[.int .u32 0, .slice none 0 0]
                      obtain ⟨gqa, hgqa⟩ : ∃ g, uq1.heap.size = g := ⟨_, rfl⟩
                      rw [hgqa] at HXqa hsvq2
                      have HS : (fun V => Bx V g15 27 #[.int .u32 (cn.toNat : Int), .slice A5 0 k5] ∧ Bx V g8 27 #[.int .u32 (c.toNat : Int), .slice A n k] ∧ Below w9.heap.size w9 V) _ := ⟨hHeld.1.later HBvq2.out, hHeld.2.1.later HBvq2.out, hHeld.2.2.trans (HBvq2.out.mono hHeld.2.2.size)⟩
                      have hzgqa : w9.heap.size ≤ gqa := by have := hHeld.2.2.size; omega
                      have hneq : gqb < gqa := by have := HXqb.out.lt; omega
                      replace HXqb := Lib.hid (HXqb.out.later HBvq2.out)
                      clear hHeld HBvq2 hsvq2
                      go_simp
                      refine hK.out _ _ HS (fun hHeld => ?_)
                      clear hK K HS
                      try simp only [Act.put, List.setIfInBounds_toArray, List.set_cons_zero, List.set_cons_succ]
                      refine wpAnyW_held (i := 5) (by kernel_rfl) (by simp only [List.getElem?_toArray, List.getElem?_cons_succ, List.getElem?_cons_zero]; rfl) (fun K hK => ?_)
                      rw [if_pos (by rfl)]
                      go_simp
                      refine (HAK2.out _ _ (HR5.out _)).mono ?_
                      rintro _ uq3 ⟨A9, k9, A6, k6, A7, k7, A8, k8, rfl, hb⟩
                      have HS : (fun V => Bx V g15 27 #[.int .u32 (cn.toNat : Int), .slice A5 0 k5] ∧ Bx V g8 27 #[.int .u32 (c.toNat : Int), .slice A n k] ∧ Below w9.heap.size w9 V) _ := ⟨hHeld.1.later hb, hHeld.2.1.later hb, hHeld.2.2.trans (hb.mono hHeld.2.2.size)⟩
                      replace HXqb := Lib.hid (HXqb.out.later hb)
                      replace HXqa := Lib.hid (HXqa.out.later hb)
                      clear hHeld hb
                      go_wp2_with fail
                      refine hK.out _ _ HS (fun hHeld => ?_)
                      clear hK K HS
                      try simp only [Act.put, List.setIfInBounds_toArray, List.set_cons_zero, List.set_cons_succ]
                      refine wpAnyW_take (i := 6) (v := ?_) (by simp only [List.getElem?_toArray, List.getElem?_cons_succ, List.getElem?_cons_zero]; rfl) (by kernel_rfl) (by kernel_rfl) (by kernel_rfl) (by kernel_rfl) (by kernel_rfl) (fun _ _ _ h => h) (Or.inl ⟨by rfl, ?_⟩) (by assumption) ?_
                      rotate_left 1
                      · (intro w' hSw; go_simp; try with_reducible rfl)
                      try simp only [Act.put, List.setIfInBounds_toArray, List.set_cons_zero, List.set_cons_succ]
                      refine wpAnyW_take (i := 7) (v := ?_) (by simp only [List.getElem?_toArray, List.getElem?_cons_succ, List.getElem?_cons_zero]; rfl) (by kernel_rfl) (by kernel_rfl) (by kernel_rfl) (by kernel_rfl) (by kernel_rfl) (fun _ _ _ h => h) (Or.inl ⟨by rfl, ?_⟩) (by assumption) ?_
                      rotate_left 1
                      · (intro w' hSw; go_simp; try with_reducible rfl)
                      try simp only [Act.put, List.setIfInBounds_toArray, List.set_cons_zero, List.set_cons_succ]
                      refine wpAnyW_take (i := 8) (v := ?_) (by simp only [List.getElem?_toArray, List.getElem?_cons_succ, List.getElem?_cons_zero]; rfl) (by kernel_rfl) (by kernel_rfl) (by kernel_rfl) (by kernel_rfl) (by kernel_rfl) (fun _ _ _ h => h) (Or.inl ⟨by rfl, ?_⟩) (by assumption) ?_
                      rotate_left 1
                      · (intro w' hSw; go_simp; try with_reducible rfl)
                      try simp only [Act.put, List.setIfInBounds_toArray, List.set_cons_zero, List.set_cons_succ]
                      refine wpAnyW_take (i := 9) (v := ?_) (by simp only [List.getElem?_toArray, List.getElem?_cons_succ, List.getElem?_cons_zero]; rfl) (by kernel_rfl) (by kernel_rfl) (by kernel_rfl) (by kernel_rfl) (by kernel_rfl) (fun _ _ _ h => h) (Or.inl ⟨by rfl, ?_⟩) (by assumption) ?_
                      rotate_left 1
                      · (intro w' hSw; go_simp; try with_reducible rfl)
                      try simp only [Act.put, List.setIfInBounds_toArray, List.set_cons_zero, List.set_cons_succ]
                      refine wpAnyW_held (i := 12) (by kernel_rfl) (by simp only [List.getElem?_toArray, List.getElem?_cons_succ, List.getElem?_cons_zero]; rfl) (fun K hK => ?_)
                      rw [if_pos (by rfl)]
                      refine wpB (ty := 27) #[.int .u32 (cn.toNat : Int), .slice A9 0 k9] rfl rfl rfl HXqa.out infoS rfl (cellsS_one _ _ _ _) ?_
                      intro y1 ht hg
                      have HS : (fun V => Bx V g15 27 #[.int .u32 (cn.toNat : Int), .slice A5 0 k5] ∧ Bx V g8 27 #[.int .u32 (c.toNat : Int), .slice A n k] ∧ Below w9.heap.size w9 V) _ := ⟨hHeld.1.kept hg (by omega), hHeld.2.1.kept hg (by omega), below_of_grown1 hHeld.2.2 hg hHeld.2.2.size hzgqa⟩
                      replace HXqb := Lib.hid (HXqb.out.kept hg (by omega))
                      replace HXqa := Lib.hid ht
                      clear ht hg hHeld
                      refine hK.out _ _ HS (fun hHeld => ?_)
                      clear hK K HS
                      try simp only [Act.put, List.setIfInBounds_toArray, List.set_cons_zero, List.set_cons_succ]
                      refine wpAnyW_held (i := 13) (by kernel_rfl) (by simp only [List.getElem?_toArray, List.getElem?_cons_succ, List.getElem?_cons_zero]; rfl) (fun K hK => ?_)
                      rw [if_pos (by rfl)]
                      refine wpB (ty := 42) #[.int .i64 0, .int .i64 0, .bool false, .bool false, .slice A6 0 k6, .slice A7 0 k7, .slice A8 0 k8] rfl rfl rfl HXqb.out infoR rfl (cellsR_one _ _ _ _ _ _ _ _ _ _ _ _ _) ?_
                      intro y2 ht hg
                      have HS : (fun V => Bx V g15 27 #[.int .u32 (cn.toNat : Int), .slice A5 0 k5] ∧ Bx V g8 27 #[.int .u32 (c.toNat : Int), .slice A n k] ∧ Below w9.heap.size w9 V) _ := ⟨hHeld.1.kept hg (by omega), hHeld.2.1.kept hg (by omega), below_of_grown1 hHeld.2.2 hg hHeld.2.2.size hzgqb⟩
                      replace HXqa := Lib.hid (HXqa.out.kept hg (by omega))
                      replace HXqb := Lib.hid ht
                      clear ht hg hHeld
                      refine hK.out _ _ HS (fun hHeld => ?_)
                      clear hK K HS
                      try simp only [Act.put, List.setIfInBounds_toArray, List.set_cons_zero, List.set_cons_succ]
                      refine wpAnyW_freed (i := 14) (by kernel_rfl) (by kernel_rfl) (by simp only [List.getElem?_toArray, List.getElem?_cons_succ, List.getElem?_cons_zero]; rfl) (fun K hK => ?_)
                      rw [if_pos (by rfl)]
                      go_simp
                      have HE := Lib.hid hHeld
                      refine hK.out _ _ ?_
                      clear hK K hHeld
                      try simp only [Act.put, List.setIfInBounds_toArray, List.set_cons_zero, List.set_cons_succ]
                      refine wpAnyW_done (by kernel_rfl) ?_ _
                      refine NoPanic.normal ?_
                      go_wp2_with fail
                      go_meet
                      exact ⟨gqb, A6, k6, A7, k7, A8, k8, rfl, rfl, Lib.hid ⟨HXqb.out, HE.out.2.2⟩⟩
                · as_aux_lemma =>
                    rw [if_pos (by rfl)]
                    obtain ⟨vq1, hvq1, HXqa, HBvq1, hsvq1⟩ := one_open vq0 27 #[.int .u32 0, .slice none 0 0]
                    obtain ⟨gqa, hgqa⟩ : ∃ g, vq0.heap.size = g := ⟨_, rfl⟩
                    rw [hgqa] at HXqa hsvq1
                    have HS : (fun V => Bx V g15 27 #[.int .u32 (cn.toNat : Int), .slice A5 0 k5] ∧ Bx V g8 27 #[.int .u32 (c.toNat : Int), .slice A n k] ∧ Below w9.heap.size w9 V) _ := ⟨hHeld.1.later HBvq1.out, hHeld.2.1.later HBvq1.out, hHeld.2.2.trans (HBvq1.out.mono hHeld.2.2.size)⟩
                    have hzgqa : w9.heap.size ≤ gqa := by have := hHeld.2.2.size; omega
                    have hneq : gqb < gqa := by have := HXqb.out.lt; omega
                    replace HXqb := Lib.hid (HXqb.out.later HBvq1.out)
                    clear hHeld HBvq1 hsvq1
                    go_simp
                    refine hK.out _ _ HS (fun hHeld => ?_)
                    clear hK K HS
                    try simp only [Act.put, List.setIfInBounds_toArray, List.set_cons_zero, List.set_cons_succ]
                    refine wpAnyW_held (i := 2) (by kernel_rfl) (by simp only [List.getElem?_toArray, List.getElem?_cons_succ, List.getElem?_cons_zero]; rfl) (fun K hK => ?_)
                    rw [if_pos (by rfl)]
                    go_simp
                    refine (HNX.out A k _).mono ?_
                    rintro _ uq2 ⟨rfl, hb⟩
                    have HS : (fun V => Bx V g15 27 #[.int .u32 (cn.toNat : Int), .slice A5 0 k5] ∧ Bx V g8 27 #[.int .u32 (c.toNat : Int), .slice A n k] ∧ Below w9.heap.size w9 V) _ := ⟨hHeld.1.later hb, hHeld.2.1.later hb, hHeld.2.2.trans (hb.mono hHeld.2.2.size)⟩
                    replace HXqb := Lib.hid (HXqb.out.later hb)
                    replace HXqa := Lib.hid (HXqa.out.later hb)
                    clear hHeld hb
                    go_wp2_with fail
                    refine hK.out _ _ HS (fun hHeld => ?_)
                    clear hK K HS
                    try simp only [Act.put, List.setIfInBounds_toArray, List.set_cons_zero, List.set_cons_succ]
                    refine wpAnyW_take (i := 3) (v := ?_) (by simp only [List.getElem?_toArray, List.getElem?_cons_succ, List.getElem?_cons_zero]; rfl) (by kernel_rfl) (by kernel_rfl) (by kernel_rfl) (by kernel_rfl) (by kernel_rfl) (fun _ _ _ h => h) (Or.inl ⟨by rfl, ?_⟩) (by assumption) ?_
                    rotate_left 1
                    · (intro w' hSw; go_simp; try with_reducible rfl)
                    try simp only [Act.put, List.setIfInBounds_toArray, List.set_cons_zero, List.set_cons_succ]
                    refine wpAnyW_held (i := 5) (by kernel_rfl) (by simp only [List.getElem?_toArray, List.getElem?_cons_succ, List.getElem?_cons_zero]; rfl) (fun K hK => ?_)
                    rw [if_pos (by rfl)]
                    go_simp
                    refine (HAK2.out _ _ (HR5.out _)).mono ?_
                    rintro _ uq3 ⟨A9, k9, A6, k6, A7, k7, A8, k8, rfl, hb⟩
                    have HS : (fun V => Bx V g15 27 #[.int .u32 (cn.toNat : Int), .slice A5 0 k5] ∧ Bx V g8 27 #[.int .u32 (c.toNat : Int), .slice A n k] ∧ Below w9.heap.size w9 V) _ := ⟨hHeld.1.later hb, hHeld.2.1.later hb, hHeld.2.2.trans (hb.mono hHeld.2.2.size)⟩
                    replace HXqb := Lib.hid (HXqb.out.later hb)
                    replace HXqa := Lib.hid (HXqa.out.later hb)
                    clear hHeld hb
                    go_wp2_with fail
                    refine hK.out _ _ HS (fun hHeld => ?_)
                    clear hK K HS
                    try simp only [Act.put, List.setIfInBounds_toArray, List.set_cons_zero, List.set_cons_succ]
                    refine wpAnyW_take (i := 6) (v := ?_) (by simp only [List.getElem?_toArray, List.getElem?_cons_succ, List.getElem?_cons_zero]; rfl) (by kernel_rfl) (by kernel_rfl) (by kernel_rfl) (by kernel_rfl) (by kernel_rfl) (fun _ _ _ h => h) (Or.inl ⟨by rfl, ?_⟩) (by assumption) ?_
                    rotate_left 1
                    · (intro w' hSw; go_simp; try with_reducible rfl)
                    try simp only [Act.put, List.setIfInBounds_toArray, List.set_cons_zero, List.set_cons_succ]
                    refine wpAnyW_take (i := 7) (v := ?_) (by simp only [List.getElem?_toArray, List.getElem?_cons_succ, List.getElem?_cons_zero]; rfl) (by kernel_rfl) (by kernel_rfl) (by kernel_rfl) (by kernel_rfl) (by kernel_rfl) (fun _ _ _ h => h) (Or.inl ⟨by rfl, ?_⟩) (by assumption) ?_
                    rotate_left 1
                    · (intro w' hSw; go_simp; try with_reducible rfl)
                    try simp only [Act.put, List.setIfInBounds_toArray, List.set_cons_zero, List.set_cons_succ]
                    refine wpAnyW_take (i := 8) (v := ?_) (by simp only [List.getElem?_toArray, List.getElem?_cons_succ, List.getElem?_cons_zero]; rfl) (by kernel_rfl) (by kernel_rfl) (by kernel_rfl) (by kernel_rfl) (by kernel_rfl) (fun _ _ _ h => h) (Or.inl ⟨by rfl, ?_⟩) (by assumption) ?_
                    rotate_left 1
                    · (intro w' hSw; go_simp; try with_reducible rfl)
                    try simp only [Act.put, List.setIfInBounds_toArray, List.set_cons_zero, List.set_cons_succ]
                    refine wpAnyW_take (i := 9) (v := ?_) (by simp only [List.getElem?_toArray, List.getElem?_cons_succ, List.getElem?_cons_zero]; rfl) (by kernel_rfl) (by kernel_rfl) (by kernel_rfl) (by kernel_rfl) (by kernel_rfl) (fun _ _ _ h => h) (Or.inl ⟨by rfl, ?_⟩) (by assumption) ?_
                    rotate_left 1
                    · (intro w' hSw; go_simp; try with_reducible rfl)
                    try simp only [Act.put, List.setIfInBounds_toArray, List.set_cons_zero, List.set_cons_succ]
                    refine wpAnyW_held (i := 12) (by kernel_rfl) (by simp only [List.getElem?_toArray, List.getElem?_cons_succ, List.getElem?_cons_zero]; rfl) (fun K hK => ?_)
                    rw [if_pos (by rfl)]
                    refine wpB (ty := 27) #[.int .u32 (cn.toNat : Int), .slice A9 0 k9] rfl rfl rfl HXqa.out infoS rfl (cellsS_one _ _ _ _) ?_
                    intro y1 ht hg
                    have HS : (fun V => Bx V g15 27 #[.int .u32 (cn.toNat : Int), .slice A5 0 k5] ∧ Bx V g8 27 #[.int .u32 (c.toNat : Int), .slice A n k] ∧ Below w9.heap.size w9 V) _ := ⟨hHeld.1.kept hg (by omega), hHeld.2.1.kept hg (by omega), below_of_grown1 hHeld.2.2 hg hHeld.2.2.size hzgqa⟩
                    replace HXqb := Lib.hid (HXqb.out.kept hg (by omega))
                    replace HXqa := Lib.hid ht
                    clear ht hg hHeld
                    refine hK.out _ _ HS (fun hHeld => ?_)
                    clear hK K HS
                    try simp only [Act.put, List.setIfInBounds_toArray, List.set_cons_zero, List.set_cons_succ]
                    refine wpAnyW_held (i := 13) (by kernel_rfl) (by simp only [List.getElem?_toArray, List.getElem?_cons_succ, List.getElem?_cons_zero]; rfl) (fun K hK => ?_)
                    rw [if_pos (by rfl)]
                    refine wpB (ty := 42) #[.int .i64 0, .int .i64 0, .bool false, .bool false, .slice A6 0 k6, .slice A7 0 k7, .slice A8 0 k8] rfl rfl rfl HXqb.out infoR rfl (cellsR_one _ _ _ _ _ _ _ _ _ _ _ _ _) ?_
                    intro y2 ht hg
                    have HS : (fun V => Bx V g15 27 #[.int .u32 (cn.toNat : Int), .slice A5 0 k5] ∧ Bx V g8 27 #[.int .u32 (c.toNat : Int), .slice A n k] ∧ Below w9.heap.size w9 V) _ := ⟨hHeld.1.kept hg (by omega), hHeld.2.1.kept hg (by omega), below_of_grown1 hHeld.2.2 hg hHeld.2.2.size hzgqb⟩
                    replace HXqa := Lib.hid (HXqa.out.kept hg (by omega))
                    replace HXqb := Lib.hid ht
                    clear ht hg hHeld
                    refine hK.out _ _ HS (fun hHeld => ?_)
                    clear hK K HS
                    try simp only [Act.put, List.setIfInBounds_toArray, List.set_cons_zero, List.set_cons_succ]
                    refine wpAnyW_freed (i := 14) (by kernel_rfl) (by kernel_rfl) (by simp only [List.getElem?_toArray, List.getElem?_cons_succ, List.getElem?_cons_zero]; rfl) (fun K hK => ?_)
                    rw [if_pos (by rfl)]
                    go_simp
                    have HE := Lib.hid hHeld
                    refine hK.out _ _ ?_
                    clear hK K hHeld
                    try simp only [Act.put, List.setIfInBounds_toArray, List.set_cons_zero, List.set_cons_succ]
                    refine wpAnyW_done (by kernel_rfl) ?_ _
                    refine NoPanic.normal ?_
                    go_wp2_with fail
                    go_meet
                    exact ⟨gqb, A6, k6, A7, k7, A8, k8, rfl, rfl, Lib.hid ⟨HXqb.out, HE.out.2.2⟩⟩
          case rest =>
            obtain ⟨g19, A6, k6, A7, k7, A8, k8, rfl, rfl, HK9⟩ := hcut
            have e0 := HK9.out.1.cell 0 (.int .i64 0) rfl
            have e2 := HK9.out.1.cell 2 (.bool false) rfl
            have e3 := HK9.out.1.cell 3 (.bool false) rfl
            go_wp2_with fail
            go_ret
            exact ⟨rfl, HBD.out.trans (HK9.out.2.mono HBD.out.size)⟩
  · have q64 : (64 : Int) < (zs.length : Int) := by omega
    go_enter Try.func6, Try.ntmps6
    go_wp2_with (go_at_call 7; (with_reducible refine (HSH.out _).mono ?_); rintro e w1 ⟨rfl, hb⟩; replace HB := Lib.hid hb; clear hb)
    go_ret
    exact ⟨rfl, HB.out⟩

set_option maxRecDepth 100000 in
theorem lifted (os : Os) (started : os.Started) (H : Type) (enc : TypeId × Value → H) :
    ReturnsInHanded {} Try.checked os 6 .any (Rows.sentWholeSpec.pre6 enc Try.prog Try.f6 Rows.sentWholeRow.domain false) (Rows.sentWholeSpec.post enc Try.prog Try.f6 false true false false) := by
  refine returnsInHanded_of_change_sized (C := Try.checked) own started (by kernel_rfl) Try.func6
    (ChangeSpec.witness6 (enc := enc) (C := Try.checked) false ⟨#[], #[.int .u32 0, .slice none 0 0, .int .i64 0], []⟩ 8 (by kernel_rfl) (by kernel_rfl) (by kernel_rfl) (by kernel_rfl)) ?_
  intro W base args ds gs before hval0 hW _ hreach _
  have hval : ∀ (j : Nat) t v, Try.f6.params[j]? = some t → args[j]? = some v → Value.okWide Try.prog W .any base t v := hval0
  obtain ⟨p, q, hA0, _, _, _, _⟩ := id hW
  have hA : DataW.TrodAll enc Try.prog W 0 (fun _ => true) true Try.f6.params.toList args.toList ds p := hA0
  rw [Try.params6] at hA hval
  obtain ⟨v0, vs0, d0, ds0, p0, q0, hargs, rfl, rfl, h0, r0⟩ := trodAll_cons hA
  obtain ⟨v1, vs1, d1, ds1, p1, q1, rfl, rfl, rfl, h1, r1⟩ := trodAll_cons r0
  obtain ⟨v2, vs2, d2, ds2, p2, q2, rfl, rfl, rfl, h2, r2⟩ := trodAll_cons r1
  obtain ⟨rfl, rfl, rfl⟩ := trodAll_nil r2
  obtain rfl : args = #[v0, v1, v2] := by cases args; simp_all
  obtain ⟨a0, rfl, rfl, rfl, w0⟩ := open_int Try.underlying22 (hval 0 22 v0 rfl rfl) h0
  have b0 := bounds_u32 w0
  obtain ⟨n0, rfl⟩ := u32_num (n := a0) (by omega) (by omega)
  obtain ⟨l1, w1, m1⟩ := ints_in (hval 1 40 v1 rfl rfl) h1
  obtain ⟨a2, rfl, rfl, rfl, w2⟩ := open_int Try.underlying3 (hval 2 3 v2 rfl rfl) h2
  refine (walk n0 l1 v1 a2 m1 W w1).mono fun e W' ⟨he, hg⟩ => ?_
  subst he
  exact ⟨_, rfl, law_post laidOut Try.underlying4 (by kernel_rfl) (by kernel_rfl) rfl hW (by simp [Rows.sentWholeSpec]) hg⟩

theorem proved : Rows.SentWholeSaid :=
  OpenClaim.holds_of_wide 6 Try.f6 rfl rfl rfl rfl rfl rfl rfl ⟨rfl, rfl, rfl, rfl, rfl⟩ rfl rfl rfl rfl rfl (by kernel_rfl) Try.func6 (by kernel_rfl)
    (of_decide_eq_true (by kernel_rfl)) (by unfold Func.isWrapper; first | (rw [if_pos (by decide +kernel)]; kernel_rfl) | (rw [if_neg (by decide +kernel)]; exact ⟨rfl, rfl⟩))
    (fun os started H enc _ => lifted os started H enc)
#print axioms proved
end Go.Proofs.Ytghgbfdofbnegaa.sentWhole
