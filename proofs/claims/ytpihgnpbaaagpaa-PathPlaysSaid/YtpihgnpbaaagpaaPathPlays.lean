/-
  Whatever happens, what is chosen is there and confirmed: any acts.
-/
import Derived.Test.YtpihgnpbaaagpaaLift
import Derived.Test.YtpihgnpbaaagpaaArgs
import Derived.Test.YtpihgnpbaaagpaaPaT
import Derived.Test.YtpihgnpbaaagpaaPaF
import Derived.Test.YtpihgnpbaaagpaaPaG
import Derived.Test.YtpihgnpbaaagpaaPaN
import Derived.Deep.CutBlock
import Derived.Deep.CutRange
namespace Go.Proofs.Ytpihgnpbaaagpaa.pathPlays
open Go.ChangeShapes Go.WideShapes Go.ChangeAt Go.RowKit
set_option linter.unusedVariables false

/-- A cell of a path in its row. -/
theorem RowP.field {w W : World} {A : Option Addr} {n cap : Nat} {l : List Pa} (h : RowP W (.slice A n cap) l) (hn : 0 < l.length) : ∃ b off, A = some ⟨b, off, none⟩ ∧ n = l.length ∧ b < W.heap.size ∧ ∀ k, k < l.length → ∀ j v, (cellsPa (l.getD k zeroPa)).toList[j]? = some v → W.cell? ⟨b, off + k * 14 + j, none⟩ = some v := by
  obtain ⟨A', cap', hv, _, _, hc⟩ := h
  cases hv
  obtain ⟨b, off, rfl, hb, hcc⟩ := hc hn
  refine ⟨b, off, rfl, rfl, hb, fun k hk j v hj => hcc k hk j v ?_⟩
  rw [List.getD_eq_getElem?_getD, List.getElem?_eq_getElem hk] at hj
  exact hj
/-- The paths p lie in block gp; below the beginning nothing has turned. -/
structure PsB (w : World) (gp : Nat) (p : Ps) (W : World) : Prop where
  box : ∃ sl, Bx W gp 27 #[sl, .int .i64 p.pr, .int .i64 p.al] ∧ RowP W sl p.l
  below : Below w.heap.size w W
  new : w.heap.size ≤ gp
theorem PsB.later {w W W' : World} {gp : Nat} {p : Ps} (h : PsB w gp p W) (hb : Below W.heap.size W W') : PsB w gp p W' := by
  obtain ⟨sl, h1, h2⟩ := h.box
  exact ⟨⟨sl, h1.later hb, h2.below hb⟩, h.below.trans (hb.mono h.below.size), h.new⟩
theorem ackB_is {l : List Pa} {pr al : Int} {i : Nat} {x : Pa} (hl : l.length = 3) (hi : i < 3) (hx : atL l (i : Int) = x) (n now : Int) : ackB ⟨l, pr, al⟩ (i : Int) n now = (decide (x.se = 1) && decide (x.no = n) && decide (x.be ≤ now)) := by
  unfold ackB
  rw [show thereB l.length (i : Int) = true from thereB_nat (by omega), hx]
  rfl
theorem rowP_fieldI {w W : World} {b off n cap : Nat} {l : List Pa} (h : RowP W (.slice (some ⟨b, off, none⟩) n cap) l) {k : Nat} (hk : k < l.length) (j : Nat) (v : Value) (hv : (cellsPa (atL l (k : Int))).toList[j]? = some v) : W.cell? ⟨b, off + k * 14 + j, none⟩ = some v := by
  obtain ⟨b', off', he, _, _, hf⟩ := RowP.field (w := w) h (by omega)
  cases he
  refine hf k hk j v ?_
  unfold atL at hv
  rw [Int.toNat_natCast] at hv
  exact hv
/-- What holds behind an act: of the path as it was, of what was told, of the path as it is. -/
def Fair (s : Int) (gd : Bool) (s2 e2 : Int) : Prop := (s = 1 ∧ s2 = 1) ∨ (s = 1 ∧ s2 = 2 ∧ gd = true) ∨ (s ≠ 1 ∧ s2 = 2) ∨ (s ≠ 1 ∧ s2 = 3 ∧ 5 < e2)
theorem fair_of {k : Nat} {x : Pa} {s : Int} {gd : Bool} (h : OkP k x) (h1 : x.st = 1 ↔ s = 1) : Fair s gd x.st x.er := by
  have a1 := h.st1
  have a3 := h.st3
  have ai := h.ina
  unfold Fair
  by_cases e : s = 1
  · exact .inl ⟨e, h1.2 e⟩
  · have : x.st ≠ 1 := fun h => e (h1.1 h)
    by_cases e3 : x.st = 3
    · exact .inr (.inr (.inr ⟨e, e3, ai e3⟩))
    · exact .inr (.inr (.inl ⟨e, by omega⟩))
theorem fair_ack {s e2 : Int} : Fair s true 2 e2 := by
  unfold Fair
  by_cases e : s = 1
  · exact .inr (.inl ⟨e, rfl, rfl⟩)
  · exact .inr (.inr (.inl ⟨e, rfl⟩))
theorem plI_at {k : Nat} {p : Ps} (h : PlI k p) {i : Nat} (hi : i < 3) : OkP k (atL p.l (i : Int)) := h.ok _ (atL_mem (by omega) (by rw [h.len]; omega))
set_option linter.unusedSimpArgs false
set_option maxHeartbeats 4000000 in
set_option maxRecDepth 100000 in
theorem walk (l0 : List Act12) (V : Value) (w : World) (hv : RowAc w V l0) (hwf : ∀ x ∈ l0, WfAc x) : Calls Try.prog 5 #[V] w fun e w' => e = .returned (.bool true) ∧ Below w.heap.size w w' := by
  have HS := Lib.hid (fun W => shown_any W)
  have HB := Lib.hid (Below.refl w.heap.size w)
  have HWF := Lib.hid hwf
  obtain ⟨A, cap, rfl, hcap, hmax, hcells⟩ := hv
  have hml : (l0.length : Int) ≤ 9223372036854775807 := by unfold maxLen at hmax; omega
  have HC := Lib.hid hcells
  clear hcells hwf
  by_cases hl : l0.length ≤ 60
  · have hl' : ¬ (60 : Int) < (l0.length : Int) := by omega
    go_enter Try.func5, Try.ntmps5
    go_wp2_with (go_at_call 8; (with_reducible refine (HS.out _).mono ?_); rintro e w1 ⟨rfl, hb1⟩; replace HB := Lib.hid (HB.out.trans hb1); clear hb1)
    have HR := Lib.hid (row3 w1)
    replace HB := Lib.hid (HB.out.alloc HB.out.size (.cells #[.string ⟨#[97, 97, 97, 97]⟩, .string ⟨#[98, 98, 98, 98]⟩, .string ⟨#[99, 99, 99, 99]⟩] 9))
    refine (new3 _ _ HR.out).mono ?_
    rintro e w2 ⟨v1, rfl, hr1, hb, _⟩
    have HR1 := Lib.hid hr1
    replace HB := Lib.hid (HB.out.trans (hb.mono HB.out.size))
    have hw1 := HB.out.size
    clear hr1 hb HR
    obtain ⟨W3, hW3, HP, HB3, hs3⟩ := one_open w2 27 #[.slice none 0 0, .int .i64 0, .int .i64 0]
    obtain ⟨A1, c1, hv1, -, -, -⟩ := id HR1.out
    rw [l3a] at hv1
    subst hv1
    go_wp2_with ((with_reducible refine gate9 ?_); refine stB #[.slice A1 3 c1, .int .i64 0, .int .i64 0] rfl rfl rfl rfl HP.out infoPs rfl (cells3_one _ _ _ _ _) ?_; intro w4 ht hg; replace HB3 := Lib.hid (below_of_grown1 HB3.out hg HB3.out.size (Nat.le_refl _)); replace HP := Lib.hid ht; clear ht hg)
    go_loopw [6] (fun i wr => ∃ k : Nat, k ≤ l0.length ∧ i = .int .i64 k ∧ Hid (∃ p, PlI k p ∧ PsB w w2.heap.size p wr))
      (fun i _ => l0.length - (intOf i).toNat)
    case atStart => exact ⟨0, Nat.zero_le _, rfl, Lib.hid ⟨p3, start_pl, ⟨⟨_, HP.out, HR1.out.below HB3.out⟩, HB.out.trans (HB3.out.mono hw1), hw1⟩⟩⟩
    case round =>
      clear HP HB HB3 HR1
      obtain ⟨k, hk, rfl, HR⟩ := hrel
      obtain ⟨p, hpl, hps⟩ := HR.out
      have HPL := Lib.hid hpl
      have HPS := Lib.hid hps
      clear hpl hps HR
      by_cases hlt : k < l0.length
      · have hk1000 : k ≤ 1000 := by omega
        have hwx := HWF.out l0[k] (List.getElem_mem hlt)
        obtain ⟨b, off, rfl, hb, hc⟩ := HC.out (by omega)
        have hcx := hc k hlt
        clear hc
        generalize l0[k] = xa at *
        obtain ⟨op, ix, now, nn⟩ := xa
        have HX : Hid (∀ W, Below w.heap.size w W → ∀ j v, (cellsAc ⟨op, ix, now, nn⟩).toList[j]? = some v → W.cell? ⟨b, off + k * 4 + j, none⟩ = some v) := Lib.hid fun W h => range_below hcx hb h
        clear hcx
        have HPI := Lib.hid (fun W => pick_any ix 3 hwx.i (by omega) (by omega) W)
        have HPO := Lib.hid (fun W => pick_any op 5 hwx.op (by omega) (by omega) W)
        have hp := pickI_le (c := ix) (n := 3) (by omega)
        have ho := pickI_le (c := op) (n := 5) (by omega)
        clear hwx
        obtain ⟨i, hi⟩ : ∃ i : Nat, pickI ix 3 = (i : Int) := ⟨(pickI ix 3).toNat, by omega⟩
        rw [hi] at HPI hp
        have hi3 : i < 3 := by omega
        clear hi
        generalize pickI op 5 = o at *
        obtain ⟨l, pr, al⟩ := p
        obtain ⟨sl, hbx, hrow⟩ := HPS.out.box
        have hlen : l.length = 3 := HPL.out.len
        obtain ⟨A4, c4, hv4, -, -, -⟩ := id hrow
        replace hv4 : sl = .slice A4 l.length c4 := hv4
        rw [hlen] at hv4
        subst hv4
        obtain ⟨b4, off4, rfl, -, hb4, -⟩ := RowP.field (w := w) hrow (by show 0 < l.length; omega)
        have HP : Hid (Bx wr w2.heap.size 27 #[.slice (some ⟨b4, off4, none⟩) 3 c4, .int .i64 pr, .int .i64 al]) := Lib.hid hbx
        have HRW : Hid (RowP wr (.slice (some ⟨b4, off4, none⟩) 3 c4) l) := Lib.hid hrow
        have HBW := Lib.hid HPS.out.below
        have hnew := HPS.out.new
        clear hbx hrow HPS
        have q4 : (0 : Int) ≤ (k : Int) := by omega
        have q5 : (k : Int) < (l0.length : Int) := by omega
        have q6 : (0 : Int) ≤ (i : Int) := by omega
        have q7 : (i : Int) < 3 := by omega
        have e1 := HX.out _ HBW.out 1 (.int .i64 ix) rfl
        have c0 := HP.out.cell 0 (.slice (some ⟨b4, off4, none⟩) 3 c4) rfl
        obtain ⟨x, hxx⟩ : ∃ x, atL l (i : Int) = x := ⟨_, rfl⟩
        have hox : OkP k x := hxx ▸ plI_at HPL.out hi3
        obtain ⟨s, hs0⟩ : ∃ s, x.st = s := ⟨_, rfl⟩
        have hrx : wr.rangeAt b4 (off4 + i * 14) (cellsPa x).toList := fun j v hv => rowP_fieldI (w := w) HRW.out (k := i) (by omega) j v (by rw [hxx]; exact hv)
        obtain ⟨W2, hW2, HQ, HB2, hs2⟩ := one_open wr 47 #[.string ⟨#[]⟩, .int .i64 0, .int .i64 0, .int .i64 0, .int .i64 0, .int .i64 0, .int .i64 0, .bool false, .int .i64 0, .int .i64 0, .int .i64 0, .int .u32 0, .int .i64 0, .int .i64 0]
        obtain ⟨gq, hgq0⟩ : ∃ g, wr.heap.size = g := ⟨_, rfl⟩
        rw [hgq0] at HQ
        have hgp := HP.out.lt
        have hgq : w2.heap.size ≠ gq := by omega
        go_upto_block 2 with (first
    | (go_at_call 28; (with_reducible refine (HPI.out _).mono ?_); rintro e w5 ⟨rfl, rfl⟩)
    | ((with_reducible refine gate9 ?_); refine ldP (ty := 47) rfl rfl rfl hrx Try.underlying47 rfl infoPa ?_)
    | ((with_reducible refine gate9 ?_); refine stB (ty := 47) (cellsPa x) rfl rfl rfl rfl HQ.out infoPa rfl (cellsPa_one x) ?_; intro w3 ht hg; replace HB2 := Lib.hid (below_of_grown1 HB2.out hg HB2.out.size (Nat.le_of_eq hgq0)); replace HP := Lib.hid (HP.out.later HB2.out); replace HRW := Lib.hid (HRW.out.below HB2.out); replace HBW := Lib.hid (HBW.out.trans (HB2.out.mono HBW.out.size)); replace HQ := Lib.hid ht; clear ht hg HB2 hrx; have e0 : w3.cell? ⟨b, off + k * 4, none⟩ = some (.int .i64 op) := HX.out _ HBW.out 0 _ rfl)
    | (go_at_call 28; (with_reducible refine (HPO.out _).mono ?_); rintro e w5 ⟨rfl, rfl⟩))
        clear HPI hW2 hs2
        have HL := Lib.hid hxx
        clear hxx
        go_cut [9] from 53 to 166 (fun vg wx => ∃ (g : Bool) (l2 : List Pa) (pr2 al2 : Int) (b5 off5 c5 : Nat), vg = .bool g ∧ Hid (PlI (k + 1) ⟨l2, pr2, al2⟩ ∧ Fair s g (atL l2 (i : Int)).st (atL l2 (i : Int)).er ∧ Bx wx w2.heap.size 27 #[.slice (some ⟨b5, off5, none⟩) 3 c5, .int .i64 pr2, .int .i64 al2] ∧ RowP wx (.slice (some ⟨b5, off5, none⟩) 3 c5) l2 ∧ Bx wx gq 47 (cellsPa x) ∧ Below w.heap.size w wx))
        case first =>
          have ho' : o = 0 ∨ o = 1 ∨ o = 2 ∨ o = 3 ∨ o = 4 := by omega
          clear ho HPO
          rcases ho' with rfl | rfl | rfl | rfl | rfl
          · as_aux_lemma =>
            go_wp2_with fail
            have hpl2 := HPL.out.beat (i := (i : Int)) (by omega) (by omega) nn now
            have HCA := Lib.hid (fun W h => beat_any l (by omega) (.slice (some ⟨b4, off4, none⟩) 3 c4) pr al (i : Int) nn now W h)
            generalize beatP ⟨l, pr, al⟩ (i : Int) nn now = P2 at *
            obtain ⟨l2, pr2, al2⟩ := P2
            obtain ⟨hpl2, hst2⟩ := hpl2
            have hlen2 : l2.length = 3 := hpl2.len
            have HFR : Hid (Fair s false (atL l2 (i : Int)).st (atL l2 (i : Int)).er) := Lib.hid (fair_of (plI_at hpl2 hi3) (by show (atL l2 (i : Int)).st = 1 ↔ _; rw [show (atL l2 (i : Int)).st = (atL l (i : Int)).st from hst2, HL.out, hs0]))
            have HPL2 := Lib.hid hpl2
            clear hpl2 hst2
            refine wp_region_noPanic ?_
            have HS : (fun V => Bx V w2.heap.size 27 #[.slice (some ⟨b4, off4, none⟩) 3 c4, .int .i64 pr, .int .i64 al] ∧ RowP V (.slice (some ⟨b4, off4, none⟩) 3 c4) l ∧ Bx V gq 47 (cellsPa x) ∧ Below w.heap.size w V) _ := ⟨HP.out.drew, HRW.out, HQ.out.drew, below_drawn HBW.out⟩
            clear HP HRW HQ HBW
            refine wp_region_waits (S := (fun V => Bx V w2.heap.size 27 #[.slice (some ⟨b4, off4, none⟩) 3 c4, .int .i64 pr, .int .i64 al] ∧ RowP V (.slice (some ⟨b4, off4, none⟩) 3 c4) l ∧ Bx V gq 47 (cellsPa x) ∧ Below w.heap.size w V)) [13] (by kernel_rfl) HS (fun hHeld => ?_)
            clear HS
            refine wpAnyW_take (i := 0) (v := _) (by simp only [List.getElem?_toArray, List.getElem?_cons_zero]; rfl) (by kernel_rfl) (by kernel_rfl) (by kernel_rfl) (by kernel_rfl) (by kernel_rfl) (fun _ _ _ h => h) (yB (ty := 27) (by rfl) rfl rfl (fun V h => h.1) Try.underlying27 rfl infoPs) (by assumption) ?_
            try simp only [Act.put, List.setIfInBounds_toArray, List.set_cons_zero, List.set_cons_succ]
            refine wpAnyW_take (i := 1) (v := ?_) (by simp only [List.getElem?_toArray, List.getElem?_cons_succ, List.getElem?_cons_zero]; rfl) (by kernel_rfl) (by kernel_rfl) (by kernel_rfl) (by kernel_rfl) (by kernel_rfl) (fun _ _ _ h => h) (Or.inl ⟨by rfl, ?_⟩) (by assumption) ?_
            rotate_left 1
            · (intro w' hSw; go_simp; try with_reducible rfl)
            try simp only [Act.put, List.setIfInBounds_toArray, List.set_cons_zero, List.set_cons_succ]
            refine wpAnyW_take (i := 2) (v := ?_) (by simp only [List.getElem?_toArray, List.getElem?_cons_succ, List.getElem?_cons_zero]; rfl) (by kernel_rfl) (by kernel_rfl) (by kernel_rfl) (by kernel_rfl) (by kernel_rfl) (fun _ _ _ h => h) (Or.inl ⟨by rfl, ?_⟩) (by assumption) ?_
            rotate_left 1
            · (intro w' hSw; go_simp; try with_reducible rfl)
            try simp only [Act.put, List.setIfInBounds_toArray, List.set_cons_zero, List.set_cons_succ]
            refine wpAnyW_take (i := 3) (v := ?_) (by simp only [List.getElem?_toArray, List.getElem?_cons_succ, List.getElem?_cons_zero]; rfl) (by kernel_rfl) (by kernel_rfl) (by kernel_rfl) (by kernel_rfl) (by kernel_rfl) (fun _ _ _ h => h) (Or.inl ⟨by rfl, ?_⟩) (by assumption) ?_
            rotate_left 1
            · (intro w' hSw; go_simp; try with_reducible rfl)
            try simp only [Act.put, List.setIfInBounds_toArray, List.set_cons_zero, List.set_cons_succ]
            refine wpAnyW_take (i := 4) (v := ?_) (by simp only [List.getElem?_toArray, List.getElem?_cons_succ, List.getElem?_cons_zero]; rfl) (by kernel_rfl) (by kernel_rfl) (by kernel_rfl) (by kernel_rfl) (by kernel_rfl) (fun _ _ _ h => h) (Or.inl ⟨by rfl, ?_⟩) (by assumption) ?_
            rotate_left 1
            · (intro w' hSw; go_simp; try with_reducible rfl)
            try simp only [Act.put, List.setIfInBounds_toArray, List.set_cons_zero, List.set_cons_succ]
            refine wpAnyW_take (i := 5) (v := ?_) (by simp only [List.getElem?_toArray, List.getElem?_cons_succ, List.getElem?_cons_zero]; rfl) (by kernel_rfl) (by kernel_rfl) (by kernel_rfl) (by kernel_rfl) (by kernel_rfl) (fun _ _ _ h => h) (Or.inl ⟨by rfl, ?_⟩) (by assumption) ?_
            rotate_left 1
            · (intro w' hSw; go_simp; try with_reducible rfl)
            try simp only [Act.put, List.setIfInBounds_toArray, List.set_cons_zero, List.set_cons_succ]
            refine wpAnyW_take (i := 6) (v := ?_) (by simp only [List.getElem?_toArray, List.getElem?_cons_succ, List.getElem?_cons_zero]; rfl) (by kernel_rfl) (by kernel_rfl) (by kernel_rfl) (by kernel_rfl) (by kernel_rfl) (fun _ _ _ h => h) (Or.inl ⟨by rfl, ?_⟩) (by assumption) ?_
            rotate_left 1
            · (intro w' hSw; have hq : w'.cell? ⟨b, off + k * 4 + 3, none⟩ = some (.int .u32 nn) := HX.out _ hSw.2.2.2 3 _ rfl; go_simp; try with_reducible rfl)
            try simp only [Act.put, List.setIfInBounds_toArray, List.set_cons_zero, List.set_cons_succ]
            refine wpAnyW_take (i := 7) (v := ?_) (by simp only [List.getElem?_toArray, List.getElem?_cons_succ, List.getElem?_cons_zero]; rfl) (by kernel_rfl) (by kernel_rfl) (by kernel_rfl) (by kernel_rfl) (by kernel_rfl) (fun _ _ _ h => h) (Or.inl ⟨by rfl, ?_⟩) (by assumption) ?_
            rotate_left 1
            · (intro w' hSw; go_simp; try with_reducible rfl)
            try simp only [Act.put, List.setIfInBounds_toArray, List.set_cons_zero, List.set_cons_succ]
            refine wpAnyW_take (i := 8) (v := ?_) (by simp only [List.getElem?_toArray, List.getElem?_cons_succ, List.getElem?_cons_zero]; rfl) (by kernel_rfl) (by kernel_rfl) (by kernel_rfl) (by kernel_rfl) (by kernel_rfl) (fun _ _ _ h => h) (Or.inl ⟨by rfl, ?_⟩) (by assumption) ?_
            rotate_left 1
            · (intro w' hSw; go_simp; try with_reducible rfl)
            try simp only [Act.put, List.setIfInBounds_toArray, List.set_cons_zero, List.set_cons_succ]
            refine wpAnyW_take (i := 9) (v := ?_) (by simp only [List.getElem?_toArray, List.getElem?_cons_succ, List.getElem?_cons_zero]; rfl) (by kernel_rfl) (by kernel_rfl) (by kernel_rfl) (by kernel_rfl) (by kernel_rfl) (fun _ _ _ h => h) (Or.inl ⟨by rfl, ?_⟩) (by assumption) ?_
            rotate_left 1
            · (intro w' hSw; go_simp; try with_reducible rfl)
            try simp only [Act.put, List.setIfInBounds_toArray, List.set_cons_zero, List.set_cons_succ]
            refine wpAnyW_take (i := 10) (v := ?_) (by simp only [List.getElem?_toArray, List.getElem?_cons_succ, List.getElem?_cons_zero]; rfl) (by kernel_rfl) (by kernel_rfl) (by kernel_rfl) (by kernel_rfl) (by kernel_rfl) (fun _ _ _ h => h) (Or.inl ⟨by rfl, ?_⟩) (by assumption) ?_
            rotate_left 1
            · (intro w' hSw; go_simp; try with_reducible rfl)
            try simp only [Act.put, List.setIfInBounds_toArray, List.set_cons_zero, List.set_cons_succ]
            refine wpAnyW_take (i := 11) (v := ?_) (by simp only [List.getElem?_toArray, List.getElem?_cons_succ, List.getElem?_cons_zero]; rfl) (by kernel_rfl) (by kernel_rfl) (by kernel_rfl) (by kernel_rfl) (by kernel_rfl) (fun _ _ _ h => h) (Or.inl ⟨by rfl, ?_⟩) (by assumption) ?_
            rotate_left 1
            · (intro w' hSw; have hq : w'.cell? ⟨b, off + k * 4 + 2, none⟩ = some (.int .i64 now) := HX.out _ hSw.2.2.2 2 _ rfl; go_simp; try with_reducible rfl)
            try simp only [Act.put, List.setIfInBounds_toArray, List.set_cons_zero, List.set_cons_succ]
            refine wpAnyW_held (i := 12) (by kernel_rfl) (by simp only [List.getElem?_toArray, List.getElem?_cons_succ, List.getElem?_cons_zero]; rfl) (fun K hK => ?_)
            rw [if_pos (by rfl)]
            go_simp
            refine (HCA.out _ hHeld.2.1).mono ?_
            rintro _ w5 ⟨v5, rfl, hr5, hb5, hf5⟩
            have HP := Lib.hid hHeld.1
            have HQ := Lib.hid hHeld.2.2.1
            have HBW := Lib.hid hHeld.2.2.2
            have HS : (fun V => Bx V w2.heap.size 27 #[.slice (some ⟨b4, off4, none⟩) 3 c4, .int .i64 pr, .int .i64 al] ∧ RowP V (.slice (some ⟨b4, off4, none⟩) 3 c4) l ∧ Bx V gq 47 (cellsPa x) ∧ Below w.heap.size w V) w5 := ⟨hHeld.1.later hb5, hHeld.2.1.below hb5, hHeld.2.2.1.later hb5, hHeld.2.2.2.trans (hb5.mono hHeld.2.2.2.size)⟩
            clear hHeld
            have hgp : w2.heap.size < _ := HP.out.lt
            replace HP := Lib.hid (HP.out.later hb5)
            replace HQ := Lib.hid (HQ.out.later hb5)
            replace HBW := Lib.hid (HBW.out.trans (hb5.mono HBW.out.size))
            obtain ⟨A5, c5, hv5, -, -, -⟩ := id hr5
            replace hv5 : v5 = .slice A5 l2.length c5 := hv5
            rw [hlen2] at hv5
            subst hv5
            obtain ⟨b5, off5, rfl, -, -, -⟩ := RowP.field (w := w) hr5 (by show 0 < l2.length; omega)
            have HR5 := Lib.hid hr5
            have HF5 := Lib.hid hf5
            have hgw : w.heap.size ≤ w5.heap.size := HBW.out.size
            clear hr5 hb5 hf5
            go_wp2_with fail
            refine hK.out _ _ HS (fun hHeld => ?_)
            clear hK K HS hHeld
            try simp only [Act.put, List.setIfInBounds_toArray, List.set_cons_zero, List.set_cons_succ]
            refine wpAnyW_freed (i := 13) (by kernel_rfl) (by kernel_rfl) (by simp only [List.getElem?_toArray, List.getElem?_cons_succ, List.getElem?_cons_zero]; rfl) (fun K hK => ?_)
            rw [if_pos (by rfl)]
            refine wpB (ty := 27) #[.slice (some ⟨b5, off5, none⟩) 3 c5, .int .i64 pr2, .int .i64 al2] rfl rfl rfl HP.out infoPs rfl (cells3_one _ _ _ _ _) ?_
            intro wt ht hg
            replace HBW := Lib.hid (below_of_grown1 HBW.out hg hgw hnew); replace HR5 := Lib.hid (HR5.out.stays HF5.out hg hgp); replace HQ := Lib.hid (HQ.out.kept hg (Ne.symm hgq)); replace HP := Lib.hid ht; clear ht hg
            refine hK.out _ _ ?_
            clear hK K
            try simp only [Act.put, List.setIfInBounds_toArray, List.set_cons_zero, List.set_cons_succ]
            refine wpAnyW_done (by kernel_rfl) ?_ _
            refine NoPanic.normal ?_
            go_wp2_with fail
            go_meet
            exact ⟨false, l2, pr2, al2, b5, off5, c5, rfl, Lib.hid ⟨HPL2.out, HFR.out, HP.out, HR5.out, HQ.out, HBW.out⟩⟩
          · as_aux_lemma =>
            by_cases g1 : x.se = 1
            · by_cases g2 : x.no = nn
              · by_cases g3 : x.be ≤ now
                · have hak : ackB ⟨l, pr, al⟩ (i : Int) nn now = true := by rw [ackB_is hlen hi3 HL.out]; simp [g1, g2, g3]
                  have hpl2 := HPL.out.ack (i := (i : Int)) (by omega) (by omega) hak
                  have HCA := Lib.hid (fun W h => ack_any l (by omega) (.slice (some ⟨b4, off4, none⟩) 3 c4) pr al (i : Int) nn now W h)
                  rw [hak] at HCA
                  clear hak
                  generalize ackP ⟨l, pr, al⟩ (i : Int) nn now = P2 at *
                  obtain ⟨l2, pr2, al2⟩ := P2
                  obtain ⟨hpl2, hst2, her2, hal2⟩ := hpl2
                  have hal2' : al2 = 0 := hal2
                  subst hal2'
                  dsimp only at HCA hst2 her2
                  have hlen2 : l2.length = 3 := hpl2.len
                  have HFR : Hid (Fair s true (atL l2 (i : Int)).st (atL l2 (i : Int)).er) := Lib.hid (by rw [hst2]; exact fair_ack)
                  have HPL2 := Lib.hid hpl2
                  have HSE := Lib.hid (And.intro hst2 her2)
                  clear hpl2 hst2 her2 hal2
                  go_wp2_with fail
                  refine wp_region_noPanic ?_
                  have HS : (fun V => Bx V w2.heap.size 27 #[.slice (some ⟨b4, off4, none⟩) 3 c4, .int .i64 pr, .int .i64 al] ∧ RowP V (.slice (some ⟨b4, off4, none⟩) 3 c4) l ∧ Bx V gq 47 (cellsPa x) ∧ Below w.heap.size w V) _ := ⟨HP.out.drew, HRW.out, HQ.out.drew, below_drawn HBW.out⟩
                  clear HP HRW HQ HBW
                  refine wp_region_waits (S := (fun V => Bx V w2.heap.size 27 #[.slice (some ⟨b4, off4, none⟩) 3 c4, .int .i64 pr, .int .i64 al] ∧ RowP V (.slice (some ⟨b4, off4, none⟩) 3 c4) l ∧ Bx V gq 47 (cellsPa x) ∧ Below w.heap.size w V)) [16, 17] (by kernel_rfl) HS (fun hHeld => ?_)
                  clear HS
                  refine wpAnyW_take (i := 0) (v := _) (by simp only [List.getElem?_toArray, List.getElem?_cons_zero]; rfl) (by kernel_rfl) (by kernel_rfl) (by kernel_rfl) (by kernel_rfl) (by kernel_rfl) (fun _ _ _ h => h) (yB (ty := 27) (by rfl) rfl rfl (fun V h => h.1) Try.underlying27 rfl infoPs) (by assumption) ?_
                  try simp only [Act.put, List.setIfInBounds_toArray, List.set_cons_zero, List.set_cons_succ]
                  refine wpAnyW_take (i := 1) (v := ?_) (by simp only [List.getElem?_toArray, List.getElem?_cons_succ, List.getElem?_cons_zero]; rfl) (by kernel_rfl) (by kernel_rfl) (by kernel_rfl) (by kernel_rfl) (by kernel_rfl) (fun _ _ _ h => h) (Or.inl ⟨by rfl, ?_⟩) (by assumption) ?_
                  rotate_left 1
                  · (intro w' hSw; go_simp; try with_reducible rfl)
                  try simp only [Act.put, List.setIfInBounds_toArray, List.set_cons_zero, List.set_cons_succ]
                  refine wpAnyW_take (i := 2) (v := ?_) (by simp only [List.getElem?_toArray, List.getElem?_cons_succ, List.getElem?_cons_zero]; rfl) (by kernel_rfl) (by kernel_rfl) (by kernel_rfl) (by kernel_rfl) (by kernel_rfl) (fun _ _ _ h => h) (Or.inl ⟨by rfl, ?_⟩) (by assumption) ?_
                  rotate_left 1
                  · (intro w' hSw; go_simp; try with_reducible rfl)
                  try simp only [Act.put, List.setIfInBounds_toArray, List.set_cons_zero, List.set_cons_succ]
                  refine wpAnyW_take (i := 3) (v := ?_) (by simp only [List.getElem?_toArray, List.getElem?_cons_succ, List.getElem?_cons_zero]; rfl) (by kernel_rfl) (by kernel_rfl) (by kernel_rfl) (by kernel_rfl) (by kernel_rfl) (fun _ _ _ h => h) (Or.inl ⟨by rfl, ?_⟩) (by assumption) ?_
                  rotate_left 1
                  · (intro w' hSw; go_simp; try with_reducible rfl)
                  try simp only [Act.put, List.setIfInBounds_toArray, List.set_cons_zero, List.set_cons_succ]
                  refine wpAnyW_take (i := 4) (v := ?_) (by simp only [List.getElem?_toArray, List.getElem?_cons_succ, List.getElem?_cons_zero]; rfl) (by kernel_rfl) (by kernel_rfl) (by kernel_rfl) (by kernel_rfl) (by kernel_rfl) (fun _ _ _ h => h) (Or.inl ⟨by rfl, ?_⟩) (by assumption) ?_
                  rotate_left 1
                  · (intro w' hSw; go_simp; try with_reducible rfl)
                  try simp only [Act.put, List.setIfInBounds_toArray, List.set_cons_zero, List.set_cons_succ]
                  refine wpAnyW_take (i := 5) (v := ?_) (by simp only [List.getElem?_toArray, List.getElem?_cons_succ, List.getElem?_cons_zero]; rfl) (by kernel_rfl) (by kernel_rfl) (by kernel_rfl) (by kernel_rfl) (by kernel_rfl) (fun _ _ _ h => h) (Or.inl ⟨by rfl, ?_⟩) (by assumption) ?_
                  rotate_left 1
                  · (intro w' hSw; go_simp; try with_reducible rfl)
                  try simp only [Act.put, List.setIfInBounds_toArray, List.set_cons_zero, List.set_cons_succ]
                  refine wpAnyW_take (i := 6) (v := ?_) (by simp only [List.getElem?_toArray, List.getElem?_cons_succ, List.getElem?_cons_zero]; rfl) (by kernel_rfl) (by kernel_rfl) (by kernel_rfl) (by kernel_rfl) (by kernel_rfl) (fun _ _ _ h => h) (Or.inl ⟨by rfl, ?_⟩) (by assumption) ?_
                  rotate_left 1
                  · (intro w' hSw; have hq : w'.cell? ⟨b, off + k * 4 + 3, none⟩ = some (.int .u32 nn) := HX.out _ hSw.2.2.2 3 _ rfl; go_simp; try with_reducible rfl)
                  try simp only [Act.put, List.setIfInBounds_toArray, List.set_cons_zero, List.set_cons_succ]
                  refine wpAnyW_take (i := 7) (v := ?_) (by simp only [List.getElem?_toArray, List.getElem?_cons_succ, List.getElem?_cons_zero]; rfl) (by kernel_rfl) (by kernel_rfl) (by kernel_rfl) (by kernel_rfl) (by kernel_rfl) (fun _ _ _ h => h) (Or.inl ⟨by rfl, ?_⟩) (by assumption) ?_
                  rotate_left 1
                  · (intro w' hSw; go_simp; try with_reducible rfl)
                  try simp only [Act.put, List.setIfInBounds_toArray, List.set_cons_zero, List.set_cons_succ]
                  refine wpAnyW_take (i := 8) (v := ?_) (by simp only [List.getElem?_toArray, List.getElem?_cons_succ, List.getElem?_cons_zero]; rfl) (by kernel_rfl) (by kernel_rfl) (by kernel_rfl) (by kernel_rfl) (by kernel_rfl) (fun _ _ _ h => h) (Or.inl ⟨by rfl, ?_⟩) (by assumption) ?_
                  rotate_left 1
                  · (intro w' hSw; go_simp; try with_reducible rfl)
                  try simp only [Act.put, List.setIfInBounds_toArray, List.set_cons_zero, List.set_cons_succ]
                  refine wpAnyW_take (i := 9) (v := ?_) (by simp only [List.getElem?_toArray, List.getElem?_cons_succ, List.getElem?_cons_zero]; rfl) (by kernel_rfl) (by kernel_rfl) (by kernel_rfl) (by kernel_rfl) (by kernel_rfl) (fun _ _ _ h => h) (Or.inl ⟨by rfl, ?_⟩) (by assumption) ?_
                  rotate_left 1
                  · (intro w' hSw; go_simp; try with_reducible rfl)
                  try simp only [Act.put, List.setIfInBounds_toArray, List.set_cons_zero, List.set_cons_succ]
                  refine wpAnyW_take (i := 10) (v := ?_) (by simp only [List.getElem?_toArray, List.getElem?_cons_succ, List.getElem?_cons_zero]; rfl) (by kernel_rfl) (by kernel_rfl) (by kernel_rfl) (by kernel_rfl) (by kernel_rfl) (fun _ _ _ h => h) (Or.inl ⟨by rfl, ?_⟩) (by assumption) ?_
                  rotate_left 1
                  · (intro w' hSw; go_simp; try with_reducible rfl)
                  try simp only [Act.put, List.setIfInBounds_toArray, List.set_cons_zero, List.set_cons_succ]
                  refine wpAnyW_take (i := 11) (v := ?_) (by simp only [List.getElem?_toArray, List.getElem?_cons_succ, List.getElem?_cons_zero]; rfl) (by kernel_rfl) (by kernel_rfl) (by kernel_rfl) (by kernel_rfl) (by kernel_rfl) (fun _ _ _ h => h) (Or.inl ⟨by rfl, ?_⟩) (by assumption) ?_
                  rotate_left 1
                  · (intro w' hSw; have hq : w'.cell? ⟨b, off + k * 4 + 2, none⟩ = some (.int .i64 now) := HX.out _ hSw.2.2.2 2 _ rfl; go_simp; try with_reducible rfl)
                  try simp only [Act.put, List.setIfInBounds_toArray, List.set_cons_zero, List.set_cons_succ]
                  refine wpAnyW_held (i := 12) (by kernel_rfl) (by simp only [List.getElem?_toArray, List.getElem?_cons_succ, List.getElem?_cons_zero]; rfl) (fun K hK => ?_)
                  rw [if_pos (by rfl)]
                  go_simp
                  refine (HCA.out _ hHeld.2.1).mono ?_
                  rintro _ w5 ⟨v5, rfl, hr5, hb5, hf5⟩
                  have HP := Lib.hid hHeld.1
                  have HQ := Lib.hid hHeld.2.2.1
                  have HBW := Lib.hid hHeld.2.2.2
                  have HS : (fun V => Bx V w2.heap.size 27 #[.slice (some ⟨b4, off4, none⟩) 3 c4, .int .i64 pr, .int .i64 al] ∧ RowP V (.slice (some ⟨b4, off4, none⟩) 3 c4) l ∧ Bx V gq 47 (cellsPa x) ∧ Below w.heap.size w V) w5 := ⟨hHeld.1.later hb5, hHeld.2.1.below hb5, hHeld.2.2.1.later hb5, hHeld.2.2.2.trans (hb5.mono hHeld.2.2.2.size)⟩
                  clear hHeld
                  have hgp : w2.heap.size < _ := HP.out.lt
                  replace HP := Lib.hid (HP.out.later hb5)
                  replace HQ := Lib.hid (HQ.out.later hb5)
                  replace HBW := Lib.hid (HBW.out.trans (hb5.mono HBW.out.size))
                  obtain ⟨A5, c5, hv5, -, -, -⟩ := id hr5
                  replace hv5 : v5 = .slice A5 l2.length c5 := hv5
                  rw [hlen2] at hv5
                  subst hv5
                  obtain ⟨b5, off5, rfl, -, -, -⟩ := RowP.field (w := w) hr5 (by show 0 < l2.length; omega)
                  have HR5 := Lib.hid hr5
                  have HF5 := Lib.hid hf5
                  have hgw : w.heap.size ≤ w5.heap.size := HBW.out.size
                  clear hr5 hb5 hf5
                  go_wp2_with fail
                  refine hK.out _ _ HS (fun hHeld => ?_)
                  clear hK K HS
                  try simp only [Act.put, List.setIfInBounds_toArray, List.set_cons_zero, List.set_cons_succ]
                  refine wpAnyW_take (i := 13) (v := ?_) (by simp only [List.getElem?_toArray, List.getElem?_cons_succ, List.getElem?_cons_zero]; rfl) (by kernel_rfl) (by kernel_rfl) (by kernel_rfl) (by kernel_rfl) (by kernel_rfl) (fun _ _ _ h => h) (Or.inl ⟨by rfl, ?_⟩) (by assumption) ?_
                  rotate_left 1
                  · (intro w' hSw; go_simp; try with_reducible rfl)
                  try simp only [Act.put, List.setIfInBounds_toArray, List.set_cons_zero, List.set_cons_succ]
                  refine wpAnyW_take (i := 14) (v := ?_) (by simp only [List.getElem?_toArray, List.getElem?_cons_succ, List.getElem?_cons_zero]; rfl) (by kernel_rfl) (by kernel_rfl) (by kernel_rfl) (by kernel_rfl) (by kernel_rfl) (fun _ _ _ h => h) (Or.inl ⟨by rfl, ?_⟩) (by assumption) ?_
                  rotate_left 1
                  · (intro w' hSw; go_simp; try with_reducible rfl)
                  try simp only [Act.put, List.setIfInBounds_toArray, List.set_cons_zero, List.set_cons_succ]
                  refine wpAnyW_takeY (i := 15) (v := ?_) (by simp only [List.getElem?_toArray, List.getElem?_cons_succ, List.getElem?_cons_zero]; rfl) (by kernel_rfl) (by kernel_rfl) (by kernel_rfl) (by kernel_rfl) (fun _ _ _ h => h) (Or.inl ⟨by rfl, ?_⟩) (fun _ => by assumption) ?_
                  rotate_left 1
                  · (intro w' _; go_simp; try with_reducible rfl)
                  try simp only [Act.put, List.setIfInBounds_toArray, List.set_cons_zero, List.set_cons_succ]
                  clear hHeld
                  refine wpAnyW_freed (i := 16) (by kernel_rfl) (by kernel_rfl) (by simp only [List.getElem?_toArray, List.getElem?_cons_succ, List.getElem?_cons_zero]; rfl) (fun K hK => ?_)
                  rw [if_pos (by rfl)]
                  refine wpB (ty := 27) #[.slice (some ⟨b5, off5, none⟩) 3 c5, .int .i64 pr2, .int .i64 0] rfl rfl rfl HP.out infoPs rfl (cells3_one _ _ _ _ _) ?_
                  intro wt ht hg
                  replace HBW := Lib.hid (below_of_grown1 HBW.out hg hgw hnew); replace HR5 := Lib.hid (HR5.out.stays HF5.out hg hgp); replace HQ := Lib.hid (HQ.out.kept hg (Ne.symm hgq)); replace HP := Lib.hid ht; clear ht hg
                  refine hK.out _ _ ?_
                  clear hK K
                  try simp only [Act.put, List.setIfInBounds_toArray, List.set_cons_zero, List.set_cons_succ]
                  refine wpAnyW_freed (i := 17) (by kernel_rfl) (by kernel_rfl) (by simp only [List.getElem?_toArray, List.getElem?_cons_succ, List.getElem?_cons_zero]; rfl) (fun K hK => ?_)
                  rw [if_pos (by rfl)]
                  go_simp
                  refine hK.out _ _ ?_
                  clear hK K
                  try simp only [Act.put, List.setIfInBounds_toArray, List.set_cons_zero, List.set_cons_succ]
                  refine wpAnyW_done (by kernel_rfl) ?_ _
                  refine NoPanic.normal ?_
                  have y13 : wt.cell? ⟨gq, 13, none⟩ = some (.int .i64 x.se) := HQ.out.cell 13 _ rfl
                  have y11 : wt.cell? ⟨gq, 11, none⟩ = some (.int .u32 x.no) := HQ.out.cell 11 _ rfl
                  have y12 : wt.cell? ⟨gq, 12, none⟩ = some (.int .i64 x.be) := HQ.out.cell 12 _ rfl
                  have y3 : wt.cell? ⟨b, off + k * 4 + 3, none⟩ = some (.int .u32 nn) := HX.out _ HBW.out 3 _ rfl
                  have y2 : wt.cell? ⟨b, off + k * 4 + 2, none⟩ = some (.int .i64 now) := HX.out _ HBW.out 2 _ rfl
                  have z0 := HP.out.cell 0 (.slice (some ⟨b5, off5, none⟩) 3 c5) rfl
                  have z2 := HP.out.cell 2 (.int .i64 0) rfl
                  have z3 : _ = some (Value.int .i64 2) := (rowP_fieldI (w := w) HR5.out (k := i) (by omega) 1 _ rfl).trans (by rw [HSE.out.1])
                  have z4 : _ = some (Value.int .i64 0) := (rowP_fieldI (w := w) HR5.out (k := i) (by omega) 2 _ rfl).trans (by rw [HSE.out.2])
                  have g1' : (x.se == 1) = true := by rw [g1]; rfl
                  have g2' : (x.no == nn) = true := by rw [g2]; simp
                  have g3' : decide (x.be ≤ now) = true := decide_eq_true g3
                  clear g1 g2 g3 HSE
                  go_wp2_with fail
                  go_quiet (fail)
                  go_wp2_with fail
                  go_meet
                  exact ⟨true, l2, pr2, 0, b5, off5, c5, rfl, Lib.hid ⟨HPL2.out, HFR.out, HP.out, HR5.out, HQ.out, (by first | exact HBW.out | exact below_drawn HBW.out | exact below_drawnN HBW.out _)⟩⟩
                · skip
                  have hak : ackB ⟨l, pr, al⟩ (i : Int) nn now = false := by rw [ackB_is hlen hi3 HL.out]; simp [g3]
                  have HCA : Hid (∀ W : World, RowP W (.slice (some ⟨b4, off4, none⟩) 3 c4) l → Calls Try.prog 16 #[.agg #[.slice (some ⟨b4, off4, none⟩) 3 c4, .int .i64 pr, .int .i64 al], .int .i64 (i : Int), .int .u32 nn, .int .i64 now] W fun e W' => ∃ v', e = .returned (.tuple #[.agg #[v', .int .i64 pr, .int .i64 al], .bool false]) ∧ RowP W' v' l ∧ Below W.heap.size W W' ∧ Fresh W.heap.size v') := Lib.hid fun W h => by
                    have h9 := ack_any l (by omega) (.slice (some ⟨b4, off4, none⟩) 3 c4) pr al (i : Int) nn now W h
                    rw [hak, HPL.out.notAck hak] at h9
                    exact h9
                  have HFR : Hid (Fair s false (atL l (i : Int)).st (atL l (i : Int)).er) := Lib.hid (fair_of (plI_at HPL.out.up hi3) (by show (atL l (i : Int)).st = 1 ↔ _; rw [HL.out, hs0]))
                  have HPL2 := Lib.hid HPL.out.up
                  clear hak
                  go_wp2_with fail
                  refine wp_region_noPanic ?_
                  have HS : (fun V => Bx V w2.heap.size 27 #[.slice (some ⟨b4, off4, none⟩) 3 c4, .int .i64 pr, .int .i64 al] ∧ RowP V (.slice (some ⟨b4, off4, none⟩) 3 c4) l ∧ Bx V gq 47 (cellsPa x) ∧ Below w.heap.size w V) _ := ⟨HP.out.drew, HRW.out, HQ.out.drew, below_drawn HBW.out⟩
                  clear HP HRW HQ HBW
                  refine wp_region_waits (S := (fun V => Bx V w2.heap.size 27 #[.slice (some ⟨b4, off4, none⟩) 3 c4, .int .i64 pr, .int .i64 al] ∧ RowP V (.slice (some ⟨b4, off4, none⟩) 3 c4) l ∧ Bx V gq 47 (cellsPa x) ∧ Below w.heap.size w V)) [16, 17] (by kernel_rfl) HS (fun hHeld => ?_)
                  clear HS
                  refine wpAnyW_take (i := 0) (v := _) (by simp only [List.getElem?_toArray, List.getElem?_cons_zero]; rfl) (by kernel_rfl) (by kernel_rfl) (by kernel_rfl) (by kernel_rfl) (by kernel_rfl) (fun _ _ _ h => h) (yB (ty := 27) (by rfl) rfl rfl (fun V h => h.1) Try.underlying27 rfl infoPs) (by assumption) ?_
                  try simp only [Act.put, List.setIfInBounds_toArray, List.set_cons_zero, List.set_cons_succ]
                  refine wpAnyW_take (i := 1) (v := ?_) (by simp only [List.getElem?_toArray, List.getElem?_cons_succ, List.getElem?_cons_zero]; rfl) (by kernel_rfl) (by kernel_rfl) (by kernel_rfl) (by kernel_rfl) (by kernel_rfl) (fun _ _ _ h => h) (Or.inl ⟨by rfl, ?_⟩) (by assumption) ?_
                  rotate_left 1
                  · (intro w' hSw; go_simp; try with_reducible rfl)
                  try simp only [Act.put, List.setIfInBounds_toArray, List.set_cons_zero, List.set_cons_succ]
                  refine wpAnyW_take (i := 2) (v := ?_) (by simp only [List.getElem?_toArray, List.getElem?_cons_succ, List.getElem?_cons_zero]; rfl) (by kernel_rfl) (by kernel_rfl) (by kernel_rfl) (by kernel_rfl) (by kernel_rfl) (fun _ _ _ h => h) (Or.inl ⟨by rfl, ?_⟩) (by assumption) ?_
                  rotate_left 1
                  · (intro w' hSw; go_simp; try with_reducible rfl)
                  try simp only [Act.put, List.setIfInBounds_toArray, List.set_cons_zero, List.set_cons_succ]
                  refine wpAnyW_take (i := 3) (v := ?_) (by simp only [List.getElem?_toArray, List.getElem?_cons_succ, List.getElem?_cons_zero]; rfl) (by kernel_rfl) (by kernel_rfl) (by kernel_rfl) (by kernel_rfl) (by kernel_rfl) (fun _ _ _ h => h) (Or.inl ⟨by rfl, ?_⟩) (by assumption) ?_
                  rotate_left 1
                  · (intro w' hSw; go_simp; try with_reducible rfl)
                  try simp only [Act.put, List.setIfInBounds_toArray, List.set_cons_zero, List.set_cons_succ]
                  refine wpAnyW_take (i := 4) (v := ?_) (by simp only [List.getElem?_toArray, List.getElem?_cons_succ, List.getElem?_cons_zero]; rfl) (by kernel_rfl) (by kernel_rfl) (by kernel_rfl) (by kernel_rfl) (by kernel_rfl) (fun _ _ _ h => h) (Or.inl ⟨by rfl, ?_⟩) (by assumption) ?_
                  rotate_left 1
                  · (intro w' hSw; go_simp; try with_reducible rfl)
                  try simp only [Act.put, List.setIfInBounds_toArray, List.set_cons_zero, List.set_cons_succ]
                  refine wpAnyW_take (i := 5) (v := ?_) (by simp only [List.getElem?_toArray, List.getElem?_cons_succ, List.getElem?_cons_zero]; rfl) (by kernel_rfl) (by kernel_rfl) (by kernel_rfl) (by kernel_rfl) (by kernel_rfl) (fun _ _ _ h => h) (Or.inl ⟨by rfl, ?_⟩) (by assumption) ?_
                  rotate_left 1
                  · (intro w' hSw; go_simp; try with_reducible rfl)
                  try simp only [Act.put, List.setIfInBounds_toArray, List.set_cons_zero, List.set_cons_succ]
                  refine wpAnyW_take (i := 6) (v := ?_) (by simp only [List.getElem?_toArray, List.getElem?_cons_succ, List.getElem?_cons_zero]; rfl) (by kernel_rfl) (by kernel_rfl) (by kernel_rfl) (by kernel_rfl) (by kernel_rfl) (fun _ _ _ h => h) (Or.inl ⟨by rfl, ?_⟩) (by assumption) ?_
                  rotate_left 1
                  · (intro w' hSw; have hq : w'.cell? ⟨b, off + k * 4 + 3, none⟩ = some (.int .u32 nn) := HX.out _ hSw.2.2.2 3 _ rfl; go_simp; try with_reducible rfl)
                  try simp only [Act.put, List.setIfInBounds_toArray, List.set_cons_zero, List.set_cons_succ]
                  refine wpAnyW_take (i := 7) (v := ?_) (by simp only [List.getElem?_toArray, List.getElem?_cons_succ, List.getElem?_cons_zero]; rfl) (by kernel_rfl) (by kernel_rfl) (by kernel_rfl) (by kernel_rfl) (by kernel_rfl) (fun _ _ _ h => h) (Or.inl ⟨by rfl, ?_⟩) (by assumption) ?_
                  rotate_left 1
                  · (intro w' hSw; go_simp; try with_reducible rfl)
                  try simp only [Act.put, List.setIfInBounds_toArray, List.set_cons_zero, List.set_cons_succ]
                  refine wpAnyW_take (i := 8) (v := ?_) (by simp only [List.getElem?_toArray, List.getElem?_cons_succ, List.getElem?_cons_zero]; rfl) (by kernel_rfl) (by kernel_rfl) (by kernel_rfl) (by kernel_rfl) (by kernel_rfl) (fun _ _ _ h => h) (Or.inl ⟨by rfl, ?_⟩) (by assumption) ?_
                  rotate_left 1
                  · (intro w' hSw; go_simp; try with_reducible rfl)
                  try simp only [Act.put, List.setIfInBounds_toArray, List.set_cons_zero, List.set_cons_succ]
                  refine wpAnyW_take (i := 9) (v := ?_) (by simp only [List.getElem?_toArray, List.getElem?_cons_succ, List.getElem?_cons_zero]; rfl) (by kernel_rfl) (by kernel_rfl) (by kernel_rfl) (by kernel_rfl) (by kernel_rfl) (fun _ _ _ h => h) (Or.inl ⟨by rfl, ?_⟩) (by assumption) ?_
                  rotate_left 1
                  · (intro w' hSw; go_simp; try with_reducible rfl)
                  try simp only [Act.put, List.setIfInBounds_toArray, List.set_cons_zero, List.set_cons_succ]
                  refine wpAnyW_take (i := 10) (v := ?_) (by simp only [List.getElem?_toArray, List.getElem?_cons_succ, List.getElem?_cons_zero]; rfl) (by kernel_rfl) (by kernel_rfl) (by kernel_rfl) (by kernel_rfl) (by kernel_rfl) (fun _ _ _ h => h) (Or.inl ⟨by rfl, ?_⟩) (by assumption) ?_
                  rotate_left 1
                  · (intro w' hSw; go_simp; try with_reducible rfl)
                  try simp only [Act.put, List.setIfInBounds_toArray, List.set_cons_zero, List.set_cons_succ]
                  refine wpAnyW_take (i := 11) (v := ?_) (by simp only [List.getElem?_toArray, List.getElem?_cons_succ, List.getElem?_cons_zero]; rfl) (by kernel_rfl) (by kernel_rfl) (by kernel_rfl) (by kernel_rfl) (by kernel_rfl) (fun _ _ _ h => h) (Or.inl ⟨by rfl, ?_⟩) (by assumption) ?_
                  rotate_left 1
                  · (intro w' hSw; have hq : w'.cell? ⟨b, off + k * 4 + 2, none⟩ = some (.int .i64 now) := HX.out _ hSw.2.2.2 2 _ rfl; go_simp; try with_reducible rfl)
                  try simp only [Act.put, List.setIfInBounds_toArray, List.set_cons_zero, List.set_cons_succ]
                  refine wpAnyW_held (i := 12) (by kernel_rfl) (by simp only [List.getElem?_toArray, List.getElem?_cons_succ, List.getElem?_cons_zero]; rfl) (fun K hK => ?_)
                  rw [if_pos (by rfl)]
                  go_simp
                  refine (HCA.out _ hHeld.2.1).mono ?_
                  rintro _ w5 ⟨v5, rfl, hr5, hb5, hf5⟩
                  have HP := Lib.hid hHeld.1
                  have HQ := Lib.hid hHeld.2.2.1
                  have HBW := Lib.hid hHeld.2.2.2
                  have HS : (fun V => Bx V w2.heap.size 27 #[.slice (some ⟨b4, off4, none⟩) 3 c4, .int .i64 pr, .int .i64 al] ∧ RowP V (.slice (some ⟨b4, off4, none⟩) 3 c4) l ∧ Bx V gq 47 (cellsPa x) ∧ Below w.heap.size w V) w5 := ⟨hHeld.1.later hb5, hHeld.2.1.below hb5, hHeld.2.2.1.later hb5, hHeld.2.2.2.trans (hb5.mono hHeld.2.2.2.size)⟩
                  clear hHeld
                  have hgp : w2.heap.size < _ := HP.out.lt
                  replace HP := Lib.hid (HP.out.later hb5)
                  replace HQ := Lib.hid (HQ.out.later hb5)
                  replace HBW := Lib.hid (HBW.out.trans (hb5.mono HBW.out.size))
                  obtain ⟨A5, c5, hv5, -, -, -⟩ := id hr5
                  replace hv5 : v5 = .slice A5 l.length c5 := hv5
                  rw [hlen] at hv5
                  subst hv5
                  obtain ⟨b5, off5, rfl, -, -, -⟩ := RowP.field (w := w) hr5 (by show 0 < l.length; omega)
                  have HR5 := Lib.hid hr5
                  have HF5 := Lib.hid hf5
                  have hgw : w.heap.size ≤ w5.heap.size := HBW.out.size
                  clear hr5 hb5 hf5
                  go_wp2_with fail
                  refine hK.out _ _ HS (fun hHeld => ?_)
                  clear hK K HS
                  try simp only [Act.put, List.setIfInBounds_toArray, List.set_cons_zero, List.set_cons_succ]
                  refine wpAnyW_take (i := 13) (v := ?_) (by simp only [List.getElem?_toArray, List.getElem?_cons_succ, List.getElem?_cons_zero]; rfl) (by kernel_rfl) (by kernel_rfl) (by kernel_rfl) (by kernel_rfl) (by kernel_rfl) (fun _ _ _ h => h) (Or.inl ⟨by rfl, ?_⟩) (by assumption) ?_
                  rotate_left 1
                  · (intro w' hSw; go_simp; try with_reducible rfl)
                  try simp only [Act.put, List.setIfInBounds_toArray, List.set_cons_zero, List.set_cons_succ]
                  refine wpAnyW_take (i := 14) (v := ?_) (by simp only [List.getElem?_toArray, List.getElem?_cons_succ, List.getElem?_cons_zero]; rfl) (by kernel_rfl) (by kernel_rfl) (by kernel_rfl) (by kernel_rfl) (by kernel_rfl) (fun _ _ _ h => h) (Or.inl ⟨by rfl, ?_⟩) (by assumption) ?_
                  rotate_left 1
                  · (intro w' hSw; go_simp; try with_reducible rfl)
                  try simp only [Act.put, List.setIfInBounds_toArray, List.set_cons_zero, List.set_cons_succ]
                  refine wpAnyW_takeY (i := 15) (v := ?_) (by simp only [List.getElem?_toArray, List.getElem?_cons_succ, List.getElem?_cons_zero]; rfl) (by kernel_rfl) (by kernel_rfl) (by kernel_rfl) (by kernel_rfl) (fun _ _ _ h => h) (Or.inl ⟨by rfl, ?_⟩) (fun _ => by assumption) ?_
                  rotate_left 1
                  · (intro w' _; go_simp; try with_reducible rfl)
                  try simp only [Act.put, List.setIfInBounds_toArray, List.set_cons_zero, List.set_cons_succ]
                  clear hHeld
                  refine wpAnyW_freed (i := 16) (by kernel_rfl) (by kernel_rfl) (by simp only [List.getElem?_toArray, List.getElem?_cons_succ, List.getElem?_cons_zero]; rfl) (fun K hK => ?_)
                  rw [if_pos (by rfl)]
                  refine wpB (ty := 27) #[.slice (some ⟨b5, off5, none⟩) 3 c5, .int .i64 pr, .int .i64 al] rfl rfl rfl HP.out infoPs rfl (cells3_one _ _ _ _ _) ?_
                  intro wt ht hg
                  replace HBW := Lib.hid (below_of_grown1 HBW.out hg hgw hnew); replace HR5 := Lib.hid (HR5.out.stays HF5.out hg hgp); replace HQ := Lib.hid (HQ.out.kept hg (Ne.symm hgq)); replace HP := Lib.hid ht; clear ht hg
                  refine hK.out _ _ ?_
                  clear hK K
                  try simp only [Act.put, List.setIfInBounds_toArray, List.set_cons_zero, List.set_cons_succ]
                  refine wpAnyW_freed (i := 17) (by kernel_rfl) (by kernel_rfl) (by simp only [List.getElem?_toArray, List.getElem?_cons_succ, List.getElem?_cons_zero]; rfl) (fun K hK => ?_)
                  rw [if_pos (by rfl)]
                  go_simp
                  refine hK.out _ _ ?_
                  clear hK K
                  try simp only [Act.put, List.setIfInBounds_toArray, List.set_cons_zero, List.set_cons_succ]
                  refine wpAnyW_done (by kernel_rfl) ?_ _
                  refine NoPanic.normal ?_
                  have y13 : wt.cell? ⟨gq, 13, none⟩ = some (.int .i64 x.se) := HQ.out.cell 13 _ rfl
                  have y11 : wt.cell? ⟨gq, 11, none⟩ = some (.int .u32 x.no) := HQ.out.cell 11 _ rfl
                  have y12 : wt.cell? ⟨gq, 12, none⟩ = some (.int .i64 x.be) := HQ.out.cell 12 _ rfl
                  have y3 : wt.cell? ⟨b, off + k * 4 + 3, none⟩ = some (.int .u32 nn) := HX.out _ HBW.out 3 _ rfl
                  have y2 : wt.cell? ⟨b, off + k * 4 + 2, none⟩ = some (.int .i64 now) := HX.out _ HBW.out 2 _ rfl
                  have g1' : (x.se == 1) = true := by rw [g1]; rfl
                  have g2' : (x.no == nn) = true := by rw [g2]; simp
                  have g3' : decide (x.be ≤ now) = false := decide_eq_false (by omega)
                  have g3'' : ¬ x.be ≤ now := by omega
                  clear g1 g2 g3
                  go_wp2_with fail
                  go_quiet (fail)
                  go_wp2_with fail
                  go_meet
                  exact ⟨false, l, pr, al, b5, off5, c5, rfl, Lib.hid ⟨HPL2.out, HFR.out, HP.out, HR5.out, HQ.out, (by first | exact HBW.out | exact below_drawn HBW.out | exact below_drawnN HBW.out _)⟩⟩
              · skip
                have hak : ackB ⟨l, pr, al⟩ (i : Int) nn now = false := by rw [ackB_is hlen hi3 HL.out]; simp [g2]
                have HCA : Hid (∀ W : World, RowP W (.slice (some ⟨b4, off4, none⟩) 3 c4) l → Calls Try.prog 16 #[.agg #[.slice (some ⟨b4, off4, none⟩) 3 c4, .int .i64 pr, .int .i64 al], .int .i64 (i : Int), .int .u32 nn, .int .i64 now] W fun e W' => ∃ v', e = .returned (.tuple #[.agg #[v', .int .i64 pr, .int .i64 al], .bool false]) ∧ RowP W' v' l ∧ Below W.heap.size W W' ∧ Fresh W.heap.size v') := Lib.hid fun W h => by
                  have h9 := ack_any l (by omega) (.slice (some ⟨b4, off4, none⟩) 3 c4) pr al (i : Int) nn now W h
                  rw [hak, HPL.out.notAck hak] at h9
                  exact h9
                have HFR : Hid (Fair s false (atL l (i : Int)).st (atL l (i : Int)).er) := Lib.hid (fair_of (plI_at HPL.out.up hi3) (by show (atL l (i : Int)).st = 1 ↔ _; rw [HL.out, hs0]))
                have HPL2 := Lib.hid HPL.out.up
                clear hak
                go_wp2_with fail
                refine wp_region_noPanic ?_
                have HS : (fun V => Bx V w2.heap.size 27 #[.slice (some ⟨b4, off4, none⟩) 3 c4, .int .i64 pr, .int .i64 al] ∧ RowP V (.slice (some ⟨b4, off4, none⟩) 3 c4) l ∧ Bx V gq 47 (cellsPa x) ∧ Below w.heap.size w V) _ := ⟨HP.out.drew, HRW.out, HQ.out.drew, below_drawn HBW.out⟩
                clear HP HRW HQ HBW
                refine wp_region_waits (S := (fun V => Bx V w2.heap.size 27 #[.slice (some ⟨b4, off4, none⟩) 3 c4, .int .i64 pr, .int .i64 al] ∧ RowP V (.slice (some ⟨b4, off4, none⟩) 3 c4) l ∧ Bx V gq 47 (cellsPa x) ∧ Below w.heap.size w V)) [16, 17] (by kernel_rfl) HS (fun hHeld => ?_)
                clear HS
                refine wpAnyW_take (i := 0) (v := _) (by simp only [List.getElem?_toArray, List.getElem?_cons_zero]; rfl) (by kernel_rfl) (by kernel_rfl) (by kernel_rfl) (by kernel_rfl) (by kernel_rfl) (fun _ _ _ h => h) (yB (ty := 27) (by rfl) rfl rfl (fun V h => h.1) Try.underlying27 rfl infoPs) (by assumption) ?_
                try simp only [Act.put, List.setIfInBounds_toArray, List.set_cons_zero, List.set_cons_succ]
                refine wpAnyW_take (i := 1) (v := ?_) (by simp only [List.getElem?_toArray, List.getElem?_cons_succ, List.getElem?_cons_zero]; rfl) (by kernel_rfl) (by kernel_rfl) (by kernel_rfl) (by kernel_rfl) (by kernel_rfl) (fun _ _ _ h => h) (Or.inl ⟨by rfl, ?_⟩) (by assumption) ?_
                rotate_left 1
                · (intro w' hSw; go_simp; try with_reducible rfl)
                try simp only [Act.put, List.setIfInBounds_toArray, List.set_cons_zero, List.set_cons_succ]
                refine wpAnyW_take (i := 2) (v := ?_) (by simp only [List.getElem?_toArray, List.getElem?_cons_succ, List.getElem?_cons_zero]; rfl) (by kernel_rfl) (by kernel_rfl) (by kernel_rfl) (by kernel_rfl) (by kernel_rfl) (fun _ _ _ h => h) (Or.inl ⟨by rfl, ?_⟩) (by assumption) ?_
                rotate_left 1
                · (intro w' hSw; go_simp; try with_reducible rfl)
                try simp only [Act.put, List.setIfInBounds_toArray, List.set_cons_zero, List.set_cons_succ]
                refine wpAnyW_take (i := 3) (v := ?_) (by simp only [List.getElem?_toArray, List.getElem?_cons_succ, List.getElem?_cons_zero]; rfl) (by kernel_rfl) (by kernel_rfl) (by kernel_rfl) (by kernel_rfl) (by kernel_rfl) (fun _ _ _ h => h) (Or.inl ⟨by rfl, ?_⟩) (by assumption) ?_
                rotate_left 1
                · (intro w' hSw; go_simp; try with_reducible rfl)
                try simp only [Act.put, List.setIfInBounds_toArray, List.set_cons_zero, List.set_cons_succ]
                refine wpAnyW_take (i := 4) (v := ?_) (by simp only [List.getElem?_toArray, List.getElem?_cons_succ, List.getElem?_cons_zero]; rfl) (by kernel_rfl) (by kernel_rfl) (by kernel_rfl) (by kernel_rfl) (by kernel_rfl) (fun _ _ _ h => h) (Or.inl ⟨by rfl, ?_⟩) (by assumption) ?_
                rotate_left 1
                · (intro w' hSw; go_simp; try with_reducible rfl)
                try simp only [Act.put, List.setIfInBounds_toArray, List.set_cons_zero, List.set_cons_succ]
                refine wpAnyW_take (i := 5) (v := ?_) (by simp only [List.getElem?_toArray, List.getElem?_cons_succ, List.getElem?_cons_zero]; rfl) (by kernel_rfl) (by kernel_rfl) (by kernel_rfl) (by kernel_rfl) (by kernel_rfl) (fun _ _ _ h => h) (Or.inl ⟨by rfl, ?_⟩) (by assumption) ?_
                rotate_left 1
                · (intro w' hSw; go_simp; try with_reducible rfl)
                try simp only [Act.put, List.setIfInBounds_toArray, List.set_cons_zero, List.set_cons_succ]
                refine wpAnyW_take (i := 6) (v := ?_) (by simp only [List.getElem?_toArray, List.getElem?_cons_succ, List.getElem?_cons_zero]; rfl) (by kernel_rfl) (by kernel_rfl) (by kernel_rfl) (by kernel_rfl) (by kernel_rfl) (fun _ _ _ h => h) (Or.inl ⟨by rfl, ?_⟩) (by assumption) ?_
                rotate_left 1
                · (intro w' hSw; have hq : w'.cell? ⟨b, off + k * 4 + 3, none⟩ = some (.int .u32 nn) := HX.out _ hSw.2.2.2 3 _ rfl; go_simp; try with_reducible rfl)
                try simp only [Act.put, List.setIfInBounds_toArray, List.set_cons_zero, List.set_cons_succ]
                refine wpAnyW_take (i := 7) (v := ?_) (by simp only [List.getElem?_toArray, List.getElem?_cons_succ, List.getElem?_cons_zero]; rfl) (by kernel_rfl) (by kernel_rfl) (by kernel_rfl) (by kernel_rfl) (by kernel_rfl) (fun _ _ _ h => h) (Or.inl ⟨by rfl, ?_⟩) (by assumption) ?_
                rotate_left 1
                · (intro w' hSw; go_simp; try with_reducible rfl)
                try simp only [Act.put, List.setIfInBounds_toArray, List.set_cons_zero, List.set_cons_succ]
                refine wpAnyW_take (i := 8) (v := ?_) (by simp only [List.getElem?_toArray, List.getElem?_cons_succ, List.getElem?_cons_zero]; rfl) (by kernel_rfl) (by kernel_rfl) (by kernel_rfl) (by kernel_rfl) (by kernel_rfl) (fun _ _ _ h => h) (Or.inl ⟨by rfl, ?_⟩) (by assumption) ?_
                rotate_left 1
                · (intro w' hSw; go_simp; try with_reducible rfl)
                try simp only [Act.put, List.setIfInBounds_toArray, List.set_cons_zero, List.set_cons_succ]
                refine wpAnyW_take (i := 9) (v := ?_) (by simp only [List.getElem?_toArray, List.getElem?_cons_succ, List.getElem?_cons_zero]; rfl) (by kernel_rfl) (by kernel_rfl) (by kernel_rfl) (by kernel_rfl) (by kernel_rfl) (fun _ _ _ h => h) (Or.inl ⟨by rfl, ?_⟩) (by assumption) ?_
                rotate_left 1
                · (intro w' hSw; go_simp; try with_reducible rfl)
                try simp only [Act.put, List.setIfInBounds_toArray, List.set_cons_zero, List.set_cons_succ]
                refine wpAnyW_take (i := 10) (v := ?_) (by simp only [List.getElem?_toArray, List.getElem?_cons_succ, List.getElem?_cons_zero]; rfl) (by kernel_rfl) (by kernel_rfl) (by kernel_rfl) (by kernel_rfl) (by kernel_rfl) (fun _ _ _ h => h) (Or.inl ⟨by rfl, ?_⟩) (by assumption) ?_
                rotate_left 1
                · (intro w' hSw; go_simp; try with_reducible rfl)
                try simp only [Act.put, List.setIfInBounds_toArray, List.set_cons_zero, List.set_cons_succ]
                refine wpAnyW_take (i := 11) (v := ?_) (by simp only [List.getElem?_toArray, List.getElem?_cons_succ, List.getElem?_cons_zero]; rfl) (by kernel_rfl) (by kernel_rfl) (by kernel_rfl) (by kernel_rfl) (by kernel_rfl) (fun _ _ _ h => h) (Or.inl ⟨by rfl, ?_⟩) (by assumption) ?_
                rotate_left 1
                · (intro w' hSw; have hq : w'.cell? ⟨b, off + k * 4 + 2, none⟩ = some (.int .i64 now) := HX.out _ hSw.2.2.2 2 _ rfl; go_simp; try with_reducible rfl)
                try simp only [Act.put, List.setIfInBounds_toArray, List.set_cons_zero, List.set_cons_succ]
                refine wpAnyW_held (i := 12) (by kernel_rfl) (by simp only [List.getElem?_toArray, List.getElem?_cons_succ, List.getElem?_cons_zero]; rfl) (fun K hK => ?_)
                rw [if_pos (by rfl)]
                go_simp
                refine (HCA.out _ hHeld.2.1).mono ?_
                rintro _ w5 ⟨v5, rfl, hr5, hb5, hf5⟩
                have HP := Lib.hid hHeld.1
                have HQ := Lib.hid hHeld.2.2.1
                have HBW := Lib.hid hHeld.2.2.2
                have HS : (fun V => Bx V w2.heap.size 27 #[.slice (some ⟨b4, off4, none⟩) 3 c4, .int .i64 pr, .int .i64 al] ∧ RowP V (.slice (some ⟨b4, off4, none⟩) 3 c4) l ∧ Bx V gq 47 (cellsPa x) ∧ Below w.heap.size w V) w5 := ⟨hHeld.1.later hb5, hHeld.2.1.below hb5, hHeld.2.2.1.later hb5, hHeld.2.2.2.trans (hb5.mono hHeld.2.2.2.size)⟩
                clear hHeld
                have hgp : w2.heap.size < _ := HP.out.lt
                replace HP := Lib.hid (HP.out.later hb5)
                replace HQ := Lib.hid (HQ.out.later hb5)
                replace HBW := Lib.hid (HBW.out.trans (hb5.mono HBW.out.size))
                obtain ⟨A5, c5, hv5, -, -, -⟩ := id hr5
                replace hv5 : v5 = .slice A5 l.length c5 := hv5
                rw [hlen] at hv5
                subst hv5
                obtain ⟨b5, off5, rfl, -, -, -⟩ := RowP.field (w := w) hr5 (by show 0 < l.length; omega)
                have HR5 := Lib.hid hr5
                have HF5 := Lib.hid hf5
                have hgw : w.heap.size ≤ w5.heap.size := HBW.out.size
                clear hr5 hb5 hf5
                go_wp2_with fail
                refine hK.out _ _ HS (fun hHeld => ?_)
                clear hK K HS
                try simp only [Act.put, List.setIfInBounds_toArray, List.set_cons_zero, List.set_cons_succ]
                refine wpAnyW_take (i := 13) (v := ?_) (by simp only [List.getElem?_toArray, List.getElem?_cons_succ, List.getElem?_cons_zero]; rfl) (by kernel_rfl) (by kernel_rfl) (by kernel_rfl) (by kernel_rfl) (by kernel_rfl) (fun _ _ _ h => h) (Or.inl ⟨by rfl, ?_⟩) (by assumption) ?_
                rotate_left 1
                · (intro w' hSw; go_simp; try with_reducible rfl)
                try simp only [Act.put, List.setIfInBounds_toArray, List.set_cons_zero, List.set_cons_succ]
                refine wpAnyW_take (i := 14) (v := ?_) (by simp only [List.getElem?_toArray, List.getElem?_cons_succ, List.getElem?_cons_zero]; rfl) (by kernel_rfl) (by kernel_rfl) (by kernel_rfl) (by kernel_rfl) (by kernel_rfl) (fun _ _ _ h => h) (Or.inl ⟨by rfl, ?_⟩) (by assumption) ?_
                rotate_left 1
                · (intro w' hSw; go_simp; try with_reducible rfl)
                try simp only [Act.put, List.setIfInBounds_toArray, List.set_cons_zero, List.set_cons_succ]
                refine wpAnyW_takeY (i := 15) (v := ?_) (by simp only [List.getElem?_toArray, List.getElem?_cons_succ, List.getElem?_cons_zero]; rfl) (by kernel_rfl) (by kernel_rfl) (by kernel_rfl) (by kernel_rfl) (fun _ _ _ h => h) (Or.inl ⟨by rfl, ?_⟩) (fun _ => by assumption) ?_
                rotate_left 1
                · (intro w' _; go_simp; try with_reducible rfl)
                try simp only [Act.put, List.setIfInBounds_toArray, List.set_cons_zero, List.set_cons_succ]
                clear hHeld
                refine wpAnyW_freed (i := 16) (by kernel_rfl) (by kernel_rfl) (by simp only [List.getElem?_toArray, List.getElem?_cons_succ, List.getElem?_cons_zero]; rfl) (fun K hK => ?_)
                rw [if_pos (by rfl)]
                refine wpB (ty := 27) #[.slice (some ⟨b5, off5, none⟩) 3 c5, .int .i64 pr, .int .i64 al] rfl rfl rfl HP.out infoPs rfl (cells3_one _ _ _ _ _) ?_
                intro wt ht hg
                replace HBW := Lib.hid (below_of_grown1 HBW.out hg hgw hnew); replace HR5 := Lib.hid (HR5.out.stays HF5.out hg hgp); replace HQ := Lib.hid (HQ.out.kept hg (Ne.symm hgq)); replace HP := Lib.hid ht; clear ht hg
                refine hK.out _ _ ?_
                clear hK K
                try simp only [Act.put, List.setIfInBounds_toArray, List.set_cons_zero, List.set_cons_succ]
                refine wpAnyW_freed (i := 17) (by kernel_rfl) (by kernel_rfl) (by simp only [List.getElem?_toArray, List.getElem?_cons_succ, List.getElem?_cons_zero]; rfl) (fun K hK => ?_)
                rw [if_pos (by rfl)]
                go_simp
                refine hK.out _ _ ?_
                clear hK K
                try simp only [Act.put, List.setIfInBounds_toArray, List.set_cons_zero, List.set_cons_succ]
                refine wpAnyW_done (by kernel_rfl) ?_ _
                refine NoPanic.normal ?_
                have y13 : wt.cell? ⟨gq, 13, none⟩ = some (.int .i64 x.se) := HQ.out.cell 13 _ rfl
                have y11 : wt.cell? ⟨gq, 11, none⟩ = some (.int .u32 x.no) := HQ.out.cell 11 _ rfl
                have y12 : wt.cell? ⟨gq, 12, none⟩ = some (.int .i64 x.be) := HQ.out.cell 12 _ rfl
                have y3 : wt.cell? ⟨b, off + k * 4 + 3, none⟩ = some (.int .u32 nn) := HX.out _ HBW.out 3 _ rfl
                have y2 : wt.cell? ⟨b, off + k * 4 + 2, none⟩ = some (.int .i64 now) := HX.out _ HBW.out 2 _ rfl
                have g1' : (x.se == 1) = true := by rw [g1]; rfl
                have g2' : (x.no == nn) = false := by rw [beq_eq_false_iff_ne]; exact g2
                clear g1 g2
                go_wp2_with fail
                go_quiet (fail)
                go_wp2_with fail
                go_meet
                exact ⟨false, l, pr, al, b5, off5, c5, rfl, Lib.hid ⟨HPL2.out, HFR.out, HP.out, HR5.out, HQ.out, (by first | exact HBW.out | exact below_drawn HBW.out | exact below_drawnN HBW.out _)⟩⟩
            · skip
              have hak : ackB ⟨l, pr, al⟩ (i : Int) nn now = false := by rw [ackB_is hlen hi3 HL.out]; simp [g1]
              have HCA : Hid (∀ W : World, RowP W (.slice (some ⟨b4, off4, none⟩) 3 c4) l → Calls Try.prog 16 #[.agg #[.slice (some ⟨b4, off4, none⟩) 3 c4, .int .i64 pr, .int .i64 al], .int .i64 (i : Int), .int .u32 nn, .int .i64 now] W fun e W' => ∃ v', e = .returned (.tuple #[.agg #[v', .int .i64 pr, .int .i64 al], .bool false]) ∧ RowP W' v' l ∧ Below W.heap.size W W' ∧ Fresh W.heap.size v') := Lib.hid fun W h => by
                have h9 := ack_any l (by omega) (.slice (some ⟨b4, off4, none⟩) 3 c4) pr al (i : Int) nn now W h
                rw [hak, HPL.out.notAck hak] at h9
                exact h9
              have HFR : Hid (Fair s false (atL l (i : Int)).st (atL l (i : Int)).er) := Lib.hid (fair_of (plI_at HPL.out.up hi3) (by show (atL l (i : Int)).st = 1 ↔ _; rw [HL.out, hs0]))
              have HPL2 := Lib.hid HPL.out.up
              clear hak
              go_wp2_with fail
              refine wp_region_noPanic ?_
              have HS : (fun V => Bx V w2.heap.size 27 #[.slice (some ⟨b4, off4, none⟩) 3 c4, .int .i64 pr, .int .i64 al] ∧ RowP V (.slice (some ⟨b4, off4, none⟩) 3 c4) l ∧ Bx V gq 47 (cellsPa x) ∧ Below w.heap.size w V) _ := ⟨HP.out.drew, HRW.out, HQ.out.drew, below_drawn HBW.out⟩
              clear HP HRW HQ HBW
              refine wp_region_waits (S := (fun V => Bx V w2.heap.size 27 #[.slice (some ⟨b4, off4, none⟩) 3 c4, .int .i64 pr, .int .i64 al] ∧ RowP V (.slice (some ⟨b4, off4, none⟩) 3 c4) l ∧ Bx V gq 47 (cellsPa x) ∧ Below w.heap.size w V)) [16, 17] (by kernel_rfl) HS (fun hHeld => ?_)
              clear HS
              refine wpAnyW_take (i := 0) (v := _) (by simp only [List.getElem?_toArray, List.getElem?_cons_zero]; rfl) (by kernel_rfl) (by kernel_rfl) (by kernel_rfl) (by kernel_rfl) (by kernel_rfl) (fun _ _ _ h => h) (yB (ty := 27) (by rfl) rfl rfl (fun V h => h.1) Try.underlying27 rfl infoPs) (by assumption) ?_
              try simp only [Act.put, List.setIfInBounds_toArray, List.set_cons_zero, List.set_cons_succ]
              refine wpAnyW_take (i := 1) (v := ?_) (by simp only [List.getElem?_toArray, List.getElem?_cons_succ, List.getElem?_cons_zero]; rfl) (by kernel_rfl) (by kernel_rfl) (by kernel_rfl) (by kernel_rfl) (by kernel_rfl) (fun _ _ _ h => h) (Or.inl ⟨by rfl, ?_⟩) (by assumption) ?_
              rotate_left 1
              · (intro w' hSw; go_simp; try with_reducible rfl)
              try simp only [Act.put, List.setIfInBounds_toArray, List.set_cons_zero, List.set_cons_succ]
              refine wpAnyW_take (i := 2) (v := ?_) (by simp only [List.getElem?_toArray, List.getElem?_cons_succ, List.getElem?_cons_zero]; rfl) (by kernel_rfl) (by kernel_rfl) (by kernel_rfl) (by kernel_rfl) (by kernel_rfl) (fun _ _ _ h => h) (Or.inl ⟨by rfl, ?_⟩) (by assumption) ?_
              rotate_left 1
              · (intro w' hSw; go_simp; try with_reducible rfl)
              try simp only [Act.put, List.setIfInBounds_toArray, List.set_cons_zero, List.set_cons_succ]
              refine wpAnyW_take (i := 3) (v := ?_) (by simp only [List.getElem?_toArray, List.getElem?_cons_succ, List.getElem?_cons_zero]; rfl) (by kernel_rfl) (by kernel_rfl) (by kernel_rfl) (by kernel_rfl) (by kernel_rfl) (fun _ _ _ h => h) (Or.inl ⟨by rfl, ?_⟩) (by assumption) ?_
              rotate_left 1
              · (intro w' hSw; go_simp; try with_reducible rfl)
              try simp only [Act.put, List.setIfInBounds_toArray, List.set_cons_zero, List.set_cons_succ]
              refine wpAnyW_take (i := 4) (v := ?_) (by simp only [List.getElem?_toArray, List.getElem?_cons_succ, List.getElem?_cons_zero]; rfl) (by kernel_rfl) (by kernel_rfl) (by kernel_rfl) (by kernel_rfl) (by kernel_rfl) (fun _ _ _ h => h) (Or.inl ⟨by rfl, ?_⟩) (by assumption) ?_
              rotate_left 1
              · (intro w' hSw; go_simp; try with_reducible rfl)
              try simp only [Act.put, List.setIfInBounds_toArray, List.set_cons_zero, List.set_cons_succ]
              refine wpAnyW_take (i := 5) (v := ?_) (by simp only [List.getElem?_toArray, List.getElem?_cons_succ, List.getElem?_cons_zero]; rfl) (by kernel_rfl) (by kernel_rfl) (by kernel_rfl) (by kernel_rfl) (by kernel_rfl) (fun _ _ _ h => h) (Or.inl ⟨by rfl, ?_⟩) (by assumption) ?_
              rotate_left 1
              · (intro w' hSw; go_simp; try with_reducible rfl)
              try simp only [Act.put, List.setIfInBounds_toArray, List.set_cons_zero, List.set_cons_succ]
              refine wpAnyW_take (i := 6) (v := ?_) (by simp only [List.getElem?_toArray, List.getElem?_cons_succ, List.getElem?_cons_zero]; rfl) (by kernel_rfl) (by kernel_rfl) (by kernel_rfl) (by kernel_rfl) (by kernel_rfl) (fun _ _ _ h => h) (Or.inl ⟨by rfl, ?_⟩) (by assumption) ?_
              rotate_left 1
              · (intro w' hSw; have hq : w'.cell? ⟨b, off + k * 4 + 3, none⟩ = some (.int .u32 nn) := HX.out _ hSw.2.2.2 3 _ rfl; go_simp; try with_reducible rfl)
              try simp only [Act.put, List.setIfInBounds_toArray, List.set_cons_zero, List.set_cons_succ]
              refine wpAnyW_take (i := 7) (v := ?_) (by simp only [List.getElem?_toArray, List.getElem?_cons_succ, List.getElem?_cons_zero]; rfl) (by kernel_rfl) (by kernel_rfl) (by kernel_rfl) (by kernel_rfl) (by kernel_rfl) (fun _ _ _ h => h) (Or.inl ⟨by rfl, ?_⟩) (by assumption) ?_
              rotate_left 1
              · (intro w' hSw; go_simp; try with_reducible rfl)
              try simp only [Act.put, List.setIfInBounds_toArray, List.set_cons_zero, List.set_cons_succ]
              refine wpAnyW_take (i := 8) (v := ?_) (by simp only [List.getElem?_toArray, List.getElem?_cons_succ, List.getElem?_cons_zero]; rfl) (by kernel_rfl) (by kernel_rfl) (by kernel_rfl) (by kernel_rfl) (by kernel_rfl) (fun _ _ _ h => h) (Or.inl ⟨by rfl, ?_⟩) (by assumption) ?_
              rotate_left 1
              · (intro w' hSw; go_simp; try with_reducible rfl)
              try simp only [Act.put, List.setIfInBounds_toArray, List.set_cons_zero, List.set_cons_succ]
              refine wpAnyW_take (i := 9) (v := ?_) (by simp only [List.getElem?_toArray, List.getElem?_cons_succ, List.getElem?_cons_zero]; rfl) (by kernel_rfl) (by kernel_rfl) (by kernel_rfl) (by kernel_rfl) (by kernel_rfl) (fun _ _ _ h => h) (Or.inl ⟨by rfl, ?_⟩) (by assumption) ?_
              rotate_left 1
              · (intro w' hSw; go_simp; try with_reducible rfl)
              try simp only [Act.put, List.setIfInBounds_toArray, List.set_cons_zero, List.set_cons_succ]
              refine wpAnyW_take (i := 10) (v := ?_) (by simp only [List.getElem?_toArray, List.getElem?_cons_succ, List.getElem?_cons_zero]; rfl) (by kernel_rfl) (by kernel_rfl) (by kernel_rfl) (by kernel_rfl) (by kernel_rfl) (fun _ _ _ h => h) (Or.inl ⟨by rfl, ?_⟩) (by assumption) ?_
              rotate_left 1
              · (intro w' hSw; go_simp; try with_reducible rfl)
              try simp only [Act.put, List.setIfInBounds_toArray, List.set_cons_zero, List.set_cons_succ]
              refine wpAnyW_take (i := 11) (v := ?_) (by simp only [List.getElem?_toArray, List.getElem?_cons_succ, List.getElem?_cons_zero]; rfl) (by kernel_rfl) (by kernel_rfl) (by kernel_rfl) (by kernel_rfl) (by kernel_rfl) (fun _ _ _ h => h) (Or.inl ⟨by rfl, ?_⟩) (by assumption) ?_
              rotate_left 1
              · (intro w' hSw; have hq : w'.cell? ⟨b, off + k * 4 + 2, none⟩ = some (.int .i64 now) := HX.out _ hSw.2.2.2 2 _ rfl; go_simp; try with_reducible rfl)
              try simp only [Act.put, List.setIfInBounds_toArray, List.set_cons_zero, List.set_cons_succ]
              refine wpAnyW_held (i := 12) (by kernel_rfl) (by simp only [List.getElem?_toArray, List.getElem?_cons_succ, List.getElem?_cons_zero]; rfl) (fun K hK => ?_)
              rw [if_pos (by rfl)]
              go_simp
              refine (HCA.out _ hHeld.2.1).mono ?_
              rintro _ w5 ⟨v5, rfl, hr5, hb5, hf5⟩
              have HP := Lib.hid hHeld.1
              have HQ := Lib.hid hHeld.2.2.1
              have HBW := Lib.hid hHeld.2.2.2
              have HS : (fun V => Bx V w2.heap.size 27 #[.slice (some ⟨b4, off4, none⟩) 3 c4, .int .i64 pr, .int .i64 al] ∧ RowP V (.slice (some ⟨b4, off4, none⟩) 3 c4) l ∧ Bx V gq 47 (cellsPa x) ∧ Below w.heap.size w V) w5 := ⟨hHeld.1.later hb5, hHeld.2.1.below hb5, hHeld.2.2.1.later hb5, hHeld.2.2.2.trans (hb5.mono hHeld.2.2.2.size)⟩
              clear hHeld
              have hgp : w2.heap.size < _ := HP.out.lt
              replace HP := Lib.hid (HP.out.later hb5)
              replace HQ := Lib.hid (HQ.out.later hb5)
              replace HBW := Lib.hid (HBW.out.trans (hb5.mono HBW.out.size))
              obtain ⟨A5, c5, hv5, -, -, -⟩ := id hr5
              replace hv5 : v5 = .slice A5 l.length c5 := hv5
              rw [hlen] at hv5
              subst hv5
              obtain ⟨b5, off5, rfl, -, -, -⟩ := RowP.field (w := w) hr5 (by show 0 < l.length; omega)
              have HR5 := Lib.hid hr5
              have HF5 := Lib.hid hf5
              have hgw : w.heap.size ≤ w5.heap.size := HBW.out.size
              clear hr5 hb5 hf5
              go_wp2_with fail
              refine hK.out _ _ HS (fun hHeld => ?_)
              clear hK K HS
              try simp only [Act.put, List.setIfInBounds_toArray, List.set_cons_zero, List.set_cons_succ]
              refine wpAnyW_take (i := 13) (v := ?_) (by simp only [List.getElem?_toArray, List.getElem?_cons_succ, List.getElem?_cons_zero]; rfl) (by kernel_rfl) (by kernel_rfl) (by kernel_rfl) (by kernel_rfl) (by kernel_rfl) (fun _ _ _ h => h) (Or.inl ⟨by rfl, ?_⟩) (by assumption) ?_
              rotate_left 1
              · (intro w' hSw; go_simp; try with_reducible rfl)
              try simp only [Act.put, List.setIfInBounds_toArray, List.set_cons_zero, List.set_cons_succ]
              refine wpAnyW_take (i := 14) (v := ?_) (by simp only [List.getElem?_toArray, List.getElem?_cons_succ, List.getElem?_cons_zero]; rfl) (by kernel_rfl) (by kernel_rfl) (by kernel_rfl) (by kernel_rfl) (by kernel_rfl) (fun _ _ _ h => h) (Or.inl ⟨by rfl, ?_⟩) (by assumption) ?_
              rotate_left 1
              · (intro w' hSw; go_simp; try with_reducible rfl)
              try simp only [Act.put, List.setIfInBounds_toArray, List.set_cons_zero, List.set_cons_succ]
              refine wpAnyW_takeY (i := 15) (v := ?_) (by simp only [List.getElem?_toArray, List.getElem?_cons_succ, List.getElem?_cons_zero]; rfl) (by kernel_rfl) (by kernel_rfl) (by kernel_rfl) (by kernel_rfl) (fun _ _ _ h => h) (Or.inl ⟨by rfl, ?_⟩) (fun _ => by assumption) ?_
              rotate_left 1
              · (intro w' _; go_simp; try with_reducible rfl)
              try simp only [Act.put, List.setIfInBounds_toArray, List.set_cons_zero, List.set_cons_succ]
              clear hHeld
              refine wpAnyW_freed (i := 16) (by kernel_rfl) (by kernel_rfl) (by simp only [List.getElem?_toArray, List.getElem?_cons_succ, List.getElem?_cons_zero]; rfl) (fun K hK => ?_)
              rw [if_pos (by rfl)]
              refine wpB (ty := 27) #[.slice (some ⟨b5, off5, none⟩) 3 c5, .int .i64 pr, .int .i64 al] rfl rfl rfl HP.out infoPs rfl (cells3_one _ _ _ _ _) ?_
              intro wt ht hg
              replace HBW := Lib.hid (below_of_grown1 HBW.out hg hgw hnew); replace HR5 := Lib.hid (HR5.out.stays HF5.out hg hgp); replace HQ := Lib.hid (HQ.out.kept hg (Ne.symm hgq)); replace HP := Lib.hid ht; clear ht hg
              refine hK.out _ _ ?_
              clear hK K
              try simp only [Act.put, List.setIfInBounds_toArray, List.set_cons_zero, List.set_cons_succ]
              refine wpAnyW_freed (i := 17) (by kernel_rfl) (by kernel_rfl) (by simp only [List.getElem?_toArray, List.getElem?_cons_succ, List.getElem?_cons_zero]; rfl) (fun K hK => ?_)
              rw [if_pos (by rfl)]
              go_simp
              refine hK.out _ _ ?_
              clear hK K
              try simp only [Act.put, List.setIfInBounds_toArray, List.set_cons_zero, List.set_cons_succ]
              refine wpAnyW_done (by kernel_rfl) ?_ _
              refine NoPanic.normal ?_
              have y13 : wt.cell? ⟨gq, 13, none⟩ = some (.int .i64 x.se) := HQ.out.cell 13 _ rfl
              have y11 : wt.cell? ⟨gq, 11, none⟩ = some (.int .u32 x.no) := HQ.out.cell 11 _ rfl
              have y12 : wt.cell? ⟨gq, 12, none⟩ = some (.int .i64 x.be) := HQ.out.cell 12 _ rfl
              have y3 : wt.cell? ⟨b, off + k * 4 + 3, none⟩ = some (.int .u32 nn) := HX.out _ HBW.out 3 _ rfl
              have y2 : wt.cell? ⟨b, off + k * 4 + 2, none⟩ = some (.int .i64 now) := HX.out _ HBW.out 2 _ rfl
              have g1' : (x.se == 1) = false := by rw [beq_eq_false_iff_ne]; exact g1
              clear g1
              go_wp2_with fail
              go_quiet (fail)
              go_wp2_with fail
              go_meet
              exact ⟨false, l, pr, al, b5, off5, c5, rfl, Lib.hid ⟨HPL2.out, HFR.out, HP.out, HR5.out, HQ.out, (by first | exact HBW.out | exact below_drawn HBW.out | exact below_drawnN HBW.out _)⟩⟩
          · as_aux_lemma =>
            skip
            have hpl2 := HPL.out.fail hk1000 (i := (i : Int)) (by omega) (by omega)
            have HCA := Lib.hid (fun W h => fail_any l (by omega) (.slice (some ⟨b4, off4, none⟩) 3 c4) pr al (i : Int) (fun y hy => (HPL.out.ok y hy).wf) W h)
            generalize failP ⟨l, pr, al⟩ (i : Int) = P2 at *
            obtain ⟨l2, pr2, al2⟩ := P2
            obtain ⟨hpl2, hst2⟩ := hpl2
            have hlen2 : l2.length = 3 := hpl2.len
            have HFR : Hid (Fair s false (atL l2 (i : Int)).st (atL l2 (i : Int)).er) := Lib.hid (fair_of (plI_at hpl2 hi3) (hst2.trans (by rw [HL.out, hs0])))
            have HPL2 := Lib.hid hpl2
            clear hpl2 hst2
            go_wp2_with (first
    | ((with_reducible refine gate9 ?_); refine ldB (ty := 27) rfl rfl rfl HP.out Try.underlying27 rfl infoPs ?_))
            clear hgp
            have hgp := HP.out.lt
            refine (HCA.out _ HRW.out).mono ?_
            rintro e w5 ⟨v5, rfl, hr5, hb5, hf5⟩
            replace HP := Lib.hid (HP.out.later hb5)
            replace HQ := Lib.hid (HQ.out.later hb5)
            replace HBW := Lib.hid (HBW.out.trans (hb5.mono HBW.out.size))
            obtain ⟨A5, c5, hv5, -, -, -⟩ := id hr5
            replace hv5 : v5 = .slice A5 l2.length c5 := hv5
            rw [hlen2] at hv5
            subst hv5
            obtain ⟨b5, off5, rfl, -, -, -⟩ := RowP.field (w := w) hr5 (by show 0 < l2.length; omega)
            have HR5 := Lib.hid hr5
            have HF5 := Lib.hid hf5
            have hgw : w.heap.size ≤ w5.heap.size := HBW.out.size
            clear hr5 hb5 hf5
            go_wp2_with (first
    | ((with_reducible refine gate9 ?_); refine stB (ty := 27) #[.slice (some ⟨b5, off5, none⟩) 3 c5, .int .i64 pr2, .int .i64 al2] rfl rfl rfl rfl HP.out infoPs rfl (cells3_one _ _ _ _ _) ?_; intro w6 ht hg; replace HBW := Lib.hid (below_of_grown1 HBW.out hg hgw hnew); replace HR5 := Lib.hid (HR5.out.stays HF5.out hg hgp); replace HQ := Lib.hid (HQ.out.kept hg (Ne.symm hgq)); replace HP := Lib.hid ht; clear ht hg))
            go_meet
            exact ⟨false, l2, pr2, al2, b5, off5, c5, rfl, Lib.hid ⟨HPL2.out, HFR.out, HP.out, HR5.out, HQ.out, HBW.out⟩⟩
          · as_aux_lemma =>
            skip
            have hpl2 := HPL.out.good (i := (i : Int)) (by omega) (by omega)
            have HCA := Lib.hid (fun W h => good_path l (by omega) (.slice (some ⟨b4, off4, none⟩) 3 c4) pr al (i : Int) W h)
            generalize goodP ⟨l, pr, al⟩ (i : Int) = P2 at *
            obtain ⟨l2, pr2, al2⟩ := P2
            obtain ⟨hpl2, hst2⟩ := hpl2
            have hlen2 : l2.length = 3 := hpl2.len
            have HFR : Hid (Fair s false (atL l2 (i : Int)).st (atL l2 (i : Int)).er) := Lib.hid (fair_of (plI_at hpl2 hi3) (hst2.trans (by rw [HL.out, hs0])))
            have HPL2 := Lib.hid hpl2
            clear hpl2 hst2
            go_wp2_with (first
    | ((with_reducible refine gate9 ?_); refine ldB (ty := 27) rfl rfl rfl HP.out Try.underlying27 rfl infoPs ?_))
            clear hgp
            have hgp := HP.out.lt
            refine (HCA.out _ HRW.out).mono ?_
            rintro e w5 ⟨v5, rfl, hr5, hb5, hf5⟩
            replace HP := Lib.hid (HP.out.later hb5)
            replace HQ := Lib.hid (HQ.out.later hb5)
            replace HBW := Lib.hid (HBW.out.trans (hb5.mono HBW.out.size))
            obtain ⟨A5, c5, hv5, -, -, -⟩ := id hr5
            replace hv5 : v5 = .slice A5 l2.length c5 := hv5
            rw [hlen2] at hv5
            subst hv5
            obtain ⟨b5, off5, rfl, -, -, -⟩ := RowP.field (w := w) hr5 (by show 0 < l2.length; omega)
            have HR5 := Lib.hid hr5
            have HF5 := Lib.hid hf5
            have hgw : w.heap.size ≤ w5.heap.size := HBW.out.size
            clear hr5 hb5 hf5
            go_wp2_with (first
    | ((with_reducible refine gate9 ?_); refine stB (ty := 27) #[.slice (some ⟨b5, off5, none⟩) 3 c5, .int .i64 pr2, .int .i64 al2] rfl rfl rfl rfl HP.out infoPs rfl (cells3_one _ _ _ _ _) ?_; intro w6 ht hg; replace HBW := Lib.hid (below_of_grown1 HBW.out hg hgw hnew); replace HR5 := Lib.hid (HR5.out.stays HF5.out hg hgp); replace HQ := Lib.hid (HQ.out.kept hg (Ne.symm hgq)); replace HP := Lib.hid ht; clear ht hg))
            go_meet
            exact ⟨false, l2, pr2, al2, b5, off5, c5, rfl, Lib.hid ⟨HPL2.out, HFR.out, HP.out, HR5.out, HQ.out, HBW.out⟩⟩
          · as_aux_lemma =>
            rcases HPL.out.prim (i := (i : Int)) (by omega) (by omega) with ⟨h1, he⟩ | ⟨h1, he, hpl2, hll⟩
            · have hs1 : s = 1 := by rw [← hs0, ← HL.out]; exact h1
              have r1 : (s != 1) = false := by rw [hs1]; rfl
              have HFR : Hid (Fair s false (atL l (i : Int)).st (atL l (i : Int)).er) := Lib.hid (.inl ⟨hs1, h1⟩)
              have HPL2 := Lib.hid HPL.out.up
              have HCA := Lib.hid (fun W h => prim_any l (by omega) (.slice (some ⟨b4, off4, none⟩) 3 c4) pr al (i : Int) W h)
              rw [he] at HCA
              clear h1 he hs1
              generalize primP ⟨l, pr, al⟩ (i : Int) = P5 at *
              obtain ⟨l5, pr5, al5⟩ := P5
              dsimp only at HCA
              go_wp2_with (first
    | ((with_reducible refine gate9 ?_); refine ldB (ty := 27) rfl rfl rfl HP.out Try.underlying27 rfl infoPs ?_))
              refine (HCA.out _ HRW.out).mono ?_
              rintro e w5 ⟨v5, rfl, hr5, hb5, hf5⟩
              replace HP := Lib.hid (HP.out.later hb5)
              replace HQ := Lib.hid (HQ.out.later hb5)
              replace HRW := Lib.hid (HRW.out.below hb5)
              replace HBW := Lib.hid (HBW.out.trans (hb5.mono HBW.out.size))
              obtain ⟨A5, c5, rfl, -, -, -⟩ := id hr5
              have HR5 := Lib.hid hr5
              clear hr5 hb5 hf5
              obtain ⟨W6, hW6, HQ6, HB6, hs6⟩ := one_open w5 27 #[.slice none 0 0, .int .i64 0, .int .i64 0]
              have hgw : w.heap.size ≤ w5.heap.size := HBW.out.size
              have q1 : _ = some (Value.int .i64 s) := ((HQ.out.later HB6.out).cell 1 (.int .i64 x.st) rfl).trans (by rw [hs0])
              go_wp2_with (first
    | ((with_reducible refine gate9 ?_); refine stB (ty := 27) #[.slice A5 l5.length c5, .int .i64 pr5, .int .i64 al5] rfl rfl rfl rfl HQ6.out infoPs rfl (cells3_one _ _ _ _ _) ?_; intro w7 ht hg; replace HB6 := Lib.hid (below_of_grown1 HB6.out hg HB6.out.size (Nat.le_refl _)); replace HQ6 := Lib.hid ht; clear ht hg; have q1 : w7.cell? ⟨gq, 1, none⟩ = some (.int .i64 s) := ((HQ.out.later HB6.out).cell 1 (.int .i64 x.st) rfl).trans (by rw [hs0])))
              go_meet
              exact ⟨false, l, pr, al, b4, off4, c4, rfl, Lib.hid ⟨HPL2.out, HFR.out, HP.out.later HB6.out, HRW.out.below HB6.out, HQ.out.later HB6.out, HBW.out.trans (HB6.out.mono hgw)⟩⟩
            · have hs1 : s ≠ 1 := by rw [← hs0, ← HL.out]; exact h1
              have r1 : (s != 1) = true := by rw [bne_iff_ne]; exact hs1
              have HCA := Lib.hid (fun W h => prim_any l (by omega) (.slice (some ⟨b4, off4, none⟩) 3 c4) pr al (i : Int) W h)
              rw [he] at HCA
              clear h1 he hs1
              generalize primP ⟨l, pr, al⟩ (i : Int) = P5 at *
              obtain ⟨l5, pr5, al5⟩ := P5
              have hlen5 : l5.length = 3 := hpl2.len
              have HFR : Hid (Fair s false (atL l5 (i : Int)).st (atL l5 (i : Int)).er) := Lib.hid (fair_of (plI_at hpl2 hi3) (by show (atL l5 (i : Int)).st = 1 ↔ _; rw [show l5 = l from hll, HL.out, hs0]))
              have HPL2 := Lib.hid hpl2
              clear hpl2 hll
              dsimp only at HCA
              go_wp2_with (first
    | ((with_reducible refine gate9 ?_); refine ldB (ty := 27) rfl rfl rfl HP.out Try.underlying27 rfl infoPs ?_))
              refine (HCA.out _ HRW.out).mono ?_
              rintro e w5 ⟨v5, rfl, hr5, hb5, hf5⟩
              have HF5 := Lib.hid hf5
              have hgp5 : w2.heap.size < w5.heap.size := Nat.lt_of_lt_of_le HP.out.lt hb5.size
              have hfr5 : Fresh gq v5 := hf5.less (by have := HQ.out.lt; omega)
              replace HP := Lib.hid (HP.out.later hb5)
              replace HQ := Lib.hid (HQ.out.later hb5)
              replace HRW := Lib.hid (HRW.out.below hb5)
              replace HBW := Lib.hid (HBW.out.trans (hb5.mono HBW.out.size))
              obtain ⟨A5, c5, rfl, -, -, -⟩ := id hr5
              have HR5 := Lib.hid hr5
              clear hr5 hb5 hf5
              obtain ⟨W6, hW6, HQ6, HB6, hs6⟩ := one_open w5 27 #[.slice none 0 0, .int .i64 0, .int .i64 0]
              have hgw : w.heap.size ≤ w5.heap.size := HBW.out.size
              have q1 : _ = some (Value.int .i64 s) := ((HQ.out.later HB6.out).cell 1 (.int .i64 x.st) rfl).trans (by rw [hs0])
              obtain ⟨b5, off5, rfl, -, -, -⟩ := RowP.field (w := w) HR5.out (by show 0 < l5.length; omega)
              rw [hlen5] at *
              go_wp2_with (first
    | ((with_reducible refine gate9 ?_); refine stB (ty := 27) #[.slice (some ⟨b5, off5, none⟩) 3 c5, .int .i64 pr5, .int .i64 al5] rfl rfl rfl rfl HQ6.out infoPs rfl (cells3_one _ _ _ _ _) ?_; intro w7 ht hg; replace HB6 := Lib.hid (below_of_grown1 HB6.out hg HB6.out.size (Nat.le_refl _)); replace HQ6 := Lib.hid ht; clear ht hg; have q1 : w7.cell? ⟨gq, 1, none⟩ = some (.int .i64 s) := ((HQ.out.later HB6.out).cell 1 (.int .i64 x.st) rfl).trans (by rw [hs0]))
    | ((with_reducible refine gate9 ?_); refine ldB (ty := 27) rfl rfl rfl HQ6.out Try.underlying27 rfl infoPs ?_)
    | ((with_reducible refine gate9 ?_); refine stB (ty := 27) #[.slice (some ⟨b5, off5, none⟩) 3 c5, .int .i64 pr5, .int .i64 al5] rfl rfl rfl rfl (HP.out.later HB6.out) infoPs rfl (cells3_one _ _ _ _ _) ?_; intro w8 ht hg; have HX8 := Lib.hid (show Bx w8 gq 47 (cellsPa x) ∧ Below w.heap.size w w8 from ⟨(HQ.out.later HB6.out).kept hg (Ne.symm hgq), below_of_grown1 (HBW.out.trans (HB6.out.mono hgw)) hg (by have := HB6.out.size; omega) hnew⟩); have HR8 := Lib.hid ((HR5.out.below HB6.out).stays hfr5 hg (by omega)); replace HP := Lib.hid ht; clear ht hg))
              go_meet
              exact ⟨false, l5, pr5, al5, b5, off5, c5, rfl, Lib.hid ⟨HPL2.out, HFR.out, HP.out, HR8.out, HX8.out.1, HX8.out.2⟩⟩
        case rest =>
          clear HP HRW HQ HBW ho
          as_aux_lemma =>
            obtain ⟨gd, l2, pr2, al2, b5, off5, c5, rfl, HH⟩ := hcut
            have HPL2 := Lib.hid HH.out.1
            have HFR := Lib.hid HH.out.2.1
            have HP := Lib.hid HH.out.2.2.1
            have HR5 := Lib.hid HH.out.2.2.2.1
            have HQ := Lib.hid HH.out.2.2.2.2.1
            have HBW := Lib.hid HH.out.2.2.2.2.2
            have hlen2 : l2.length = 3 := HPL2.out.len
            clear HH
            have HCH : Hid (∀ (W : World) (z : Int) (b5 off5 c5 : Nat), RowP W (.slice (some ⟨b5, off5, none⟩) 3 c5) l2 → Calls Try.prog 26 #[.agg #[.slice (some ⟨b5, off5, none⟩) 3 c5, .int .i64 pr2, .int .i64 al2], .int .i64 z] W fun e W' => ∃ c : Nat, e = .returned (.int .i64 (c : Int)) ∧ c < 3 ∧ (atL l2 (c : Int)).st ≠ 1 ∧ Below W.heap.size W W') := Lib.hid fun W z _ _ _ h => (choose_any l2 (by omega) _ pr2 al2 z W h).mono fun e W' ⟨h1, h2⟩ => by
              obtain ⟨g0, g3, gs⟩ := HPL2.out.choose z
              generalize chooseP ⟨l2, pr2, al2⟩ z = q at *
              obtain ⟨c, rfl⟩ : ∃ c : Nat, q = (c : Int) := ⟨q.toNat, by omega⟩
              exact ⟨c, h1, by omega, gs, h2⟩
            obtain ⟨s2, hs2⟩ : ∃ s2, (atL l2 (i : Int)).st = s2 := ⟨_, rfl⟩
            obtain ⟨e2, he2⟩ : ∃ e2, (atL l2 (i : Int)).er = e2 := ⟨_, rfl⟩
            have HFS : Fair s gd s2 e2 := by rw [← hs2, ← he2]; exact HFR.out
            have c0 := HP.out.cell 0 (.slice (some ⟨b5, off5, none⟩) 3 c5) rfl
            have q1 := HQ.out.cell 1 (.int .i64 x.st) rfl
            rw [hs0] at q1
            have d1 : _ = some (Value.int .i64 s2) := (rowP_fieldI (w := w) HR5.out (k := i) (by omega) 1 _ rfl).trans (by rw [hs2])
            have d2 : _ = some (Value.int .i64 e2) := (rowP_fieldI (w := w) HR5.out (k := i) (by omega) 2 _ rfl).trans (by rw [he2])
            go_upto_region 30 with fail
            go_cut [220] from 167 to 219 (fun vb wx => vb = .bool false ∧ Hid (Bx wx w2.heap.size 27 #[.slice (some ⟨b5, off5, none⟩) 3 c5, .int .i64 pr2, .int .i64 al2] ∧ RowP wx (.slice (some ⟨b5, off5, none⟩) 3 c5) l2 ∧ Below w.heap.size w wx))
            case first =>
              rcases HFS with ⟨hs, ht2⟩ | ⟨hs, ht2, hgd⟩ | ⟨hs, ht2⟩ | ⟨hs, ht2, he5⟩
              · have r1 : (s == 1) = true := by rw [hs]; rfl
                have r2 : (s2 == 1) = true := by rw [ht2]; rfl
                have r1' : (s != 1) = false := by rw [hs]; rfl
                have r2' : (s2 != 1) = false := by rw [ht2]; rfl
                have r3 : (s2 == 3) = false := by rw [ht2]; rfl
                clear hs ht2
                go_wp2_with fail
                go_meet
                exact ⟨rfl, Lib.hid ⟨HP.out, HR5.out, HBW.out⟩⟩
              · have r1 : (s == 1) = true := by rw [hs]; rfl
                have r2 : (s2 == 1) = false := by rw [ht2]; rfl
                have r1' : (s != 1) = false := by rw [hs]; rfl
                have r2' : (s2 != 1) = true := by rw [ht2]; rfl
                have r3 : (s2 == 3) = false := by rw [ht2]; rfl
                subst hgd
                clear hs ht2
                go_wp2_with fail
                go_meet
                exact ⟨rfl, Lib.hid ⟨HP.out, HR5.out, HBW.out⟩⟩
              · have r1 : (s == 1) = false := by rw [beq_eq_false_iff_ne]; exact hs
                have r2 : (s2 == 1) = false := by rw [ht2]; rfl
                have r1' : (s != 1) = true := by rw [bne_iff_ne]; exact hs
                have r2' : (s2 != 1) = true := by rw [ht2]; rfl
                have r3 : (s2 == 3) = false := by rw [ht2]; rfl
                clear hs ht2
                go_wp2_with fail
                go_meet
                exact ⟨rfl, Lib.hid ⟨HP.out, HR5.out, HBW.out⟩⟩
              · have r1 : (s == 1) = false := by rw [beq_eq_false_iff_ne]; exact hs
                have r2 : (s2 == 1) = false := by rw [ht2]; rfl
                have r1' : (s != 1) = true := by rw [bne_iff_ne]; exact hs
                have r2' : (s2 != 1) = true := by rw [ht2]; rfl
                have r3 : (s2 == 3) = true := by rw [ht2]; rfl
                have r4 : ¬ (e2 ≤ 5) := by omega
                clear he5
                clear hs ht2
                go_wp2_with fail
                go_meet
                exact ⟨rfl, Lib.hid ⟨HP.out, HR5.out, HBW.out⟩⟩
            case rest =>
              clear HP HR5 HQ HBW c0 q1 d1 d2 HFS HFR hs2 he2
              obtain ⟨rfl, HH⟩ := hcut
              have HP := Lib.hid HH.out.1
              have HR5 := Lib.hid HH.out.2.1
              have HBW := Lib.hid HH.out.2.2
              clear HH
              go_wp2_with fail
              go_loopw [12] (fun i wx => ∃ z : Int, -1 ≤ z ∧ z ≤ 3 ∧ i = .int .i64 z ∧ Hid (Below wc.heap.size wc wx))
                (fun i _ => (3 - intOf i).toNat)
              case atStart => exact ⟨-1, by omega, by omega, rfl, Lib.hid (Below.refl _ _)⟩
              case round =>
                obtain ⟨z, hz1, hz3, rfl, HWX⟩ := hrel
                by_cases hz : z < 3
                · have HPX := Lib.hid (HP.out.later HWX.out)
                  have HRX := Lib.hid (HR5.out.below HWX.out)
                  go_wp2_with ((with_reducible refine gate9 ?_); refine ldB (ty := 27) rfl rfl rfl HPX.out Try.underlying27 rfl infoPs ?_)
                  refine (HCH.out _ z _ _ _ HRX.out).mono ?_
                  rintro e w7 ⟨c, rfl, hc3, hcs, hb7⟩
                  replace HPX := Lib.hid (HPX.out.later hb7)
                  replace HRX := Lib.hid (HRX.out.below hb7)
                  replace HWX := Lib.hid (HWX.out.trans (hb7.mono HWX.out.size))
                  have k0 := HPX.out.cell 0 (.slice (some ⟨b5, off5, none⟩) 3 c5) rfl
                  obtain ⟨s3, hs3⟩ : ∃ s3, (atL l2 (c : Int)).st = s3 := ⟨_, rfl⟩
                  have k1 : _ = some (Value.int .i64 s3) := (rowP_fieldI (w := w) HRX.out (k := c) (by omega) 1 _ rfl).trans (by rw [hs3])
                  have k2 : (s3 == 1) = false := by rw [beq_eq_false_iff_ne, ← hs3]; exact hcs
                  have k3 : ¬ ((c : Int) < 0) := by omega
                  have k4 : ¬ ((2 : Int) < (c : Int)) := by omega
                  have k5 : (c : Int) < 3 := by omega
                  clear hb7 hs3 hcs
                  go_wp2_with fail
                  go_roundw
                  case rel => exact ⟨z + 1, by omega, by omega, by go_num, Lib.hid HWX.out⟩
                  case measure => simp [intOf]; omega
                · obtain rfl : z = 3 := by omega
                  go_wp2_with fail
                  go_roundw
                  case rel => exact ⟨k + 1, by omega, by go_num, Lib.hid ⟨⟨l2, pr2, al2⟩, HPL2.out, ⟨⟨_, HP.out.later HWX.out, HR5.out.below HWX.out⟩, HBW.out.trans (HWX.out.mono HBW.out.size), hnew⟩⟩⟩
                  case measure => simp [intOf]; omega
      · obtain rfl : k = l0.length := by omega
        go_wp2_with fail
        go_ret
        exact ⟨rfl, HPS.out.below⟩
  · have hl' : (60 : Int) < (l0.length : Int) := by omega
    go_enter Try.func5, Try.ntmps5
    go_wp2_with (go_at_call 8; (with_reducible refine (HS.out _).mono ?_); rintro e w1 ⟨rfl, hb1⟩; replace HB := Lib.hid (HB.out.trans hb1); clear hb1)
    go_ret
    exact ⟨rfl, HB.out⟩

set_option maxRecDepth 100000 in
theorem lifted (os : Os) (started : os.Started) (H : Type) (enc : TypeId × Value → H) :
    ReturnsInHanded {} Try.checked os 5 .any (Rows.pathPlaysSpec.pre6 enc Try.prog Try.f5 Rows.pathPlaysRow.domain false) (Rows.pathPlaysSpec.post enc Try.prog Try.f5 false true false false) := by
  refine returnsInHanded_of_change_sized (C := Try.checked) own started (by kernel_rfl) Try.func5
    (ChangeSpec.witness6 (enc := enc) (C := Try.checked) false ⟨#[], #[.slice none 0 0], []⟩ 8 (by kernel_rfl) (by kernel_rfl) (by kernel_rfl) (by kernel_rfl)) ?_
  intro W base args ds gs before hval0 hW _ hreach _
  have hval : ∀ (j : Nat) t v, Try.f5.params[j]? = some t → args[j]? = some v → Value.okWide Try.prog W .any base t v := hval0
  obtain ⟨p, q, hA0, _, _, _, _⟩ := id hW
  have hA : DataW.TrodAll enc Try.prog W 0 (fun _ => true) true Try.f5.params.toList args.toList ds p := hA0
  rw [Try.params5] at hA hval
  obtain ⟨v0, vs0, d0, ds0, p0, q0, hargs, rfl, rfl, h0, r0⟩ := trodAll_cons hA
  obtain ⟨rfl, rfl, rfl⟩ := trodAll_nil r0
  obtain rfl : args = #[v0] := by cases args; simp_all
  obtain ⟨l0, w0, s0⟩ := acts_in (hval 0 63 v0 rfl rfl) h0
  refine (walk l0 v0 W w0 s0).mono fun e W' ⟨he, hg⟩ => ?_
  subst he
  exact ⟨_, rfl, law_post laidOut Try.underlying4 (by kernel_rfl) (by kernel_rfl) rfl hW (by simp [Rows.pathPlaysSpec]) hg⟩

theorem proved : Rows.PathPlaysSaid :=
  OpenClaim.holds_of_wide 5 Try.f5 rfl rfl rfl rfl rfl rfl rfl ⟨rfl, rfl, rfl, rfl, rfl⟩ rfl rfl rfl rfl rfl (by kernel_rfl) Try.func5 (by kernel_rfl)
    (of_decide_eq_true (by kernel_rfl)) (by unfold Func.isWrapper; first | (rw [if_pos (by decide +kernel)]; kernel_rfl) | (rw [if_neg (by decide +kernel)]; exact ⟨rfl, rfl⟩))
    (fun os started H enc _ => lifted os started H enc)
#print axioms proved
end Go.Proofs.Ytpihgnpbaaagpaa.pathPlays
