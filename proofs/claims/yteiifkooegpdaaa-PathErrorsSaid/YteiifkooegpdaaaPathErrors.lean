/-
  A path that is not heard from is given up behind five errors, all of them behind ten: which path, how often.
-/
import Derived.Test.YteiifkooegpdaaaLift
import Derived.Test.YteiifkooegpdaaaArgs
namespace Go.Proofs.Yteiifkooegpdaaa.pathErrors
open Go.ChangeShapes Go.WideShapes Go.ChangeAt Go.RowKit
set_option linter.unusedVariables false

set_option linter.unusedSimpArgs false
/-- Behind j errors of path k, which was in this state. -/
structure PeI (k j : Nat) (was : Int) (p : Ps) : Prop where
  len : p.l.length = 3
  pr : p.pr = 0
  al : p.al = (j : Int)
  er : (p.l.getD k zeroPa).er = (j : Int)
  cw : 0 < j → (p.l.getD k zeroPa).wn.cw = 1500
  st : (p.l.getD k zeroPa).st = if was = 2 ∧ 5 < j then 3 else was
  kn : (p.l.getD k zeroPa).tm.known = false
  oth : ∀ m, m < 3 → m ≠ k → (p.l.getD m zeroPa).er = 0
  wf : ∀ x ∈ p.l, WfT x.tm
theorem getD_set_self {l : List Pa} {k : Nat} (h : k < l.length) (x : Pa) : (l.set k x).getD k zeroPa = x := by
  rw [List.getD_eq_getElem?_getD, List.getElem?_set_self h]
  rfl
theorem getD_set_other {l : List Pa} {k m : Nat} (h : m ≠ k) (x : Pa) : (l.set k x).getD m zeroPa = l.getD m zeroPa := by
  rw [List.getD_eq_getElem?_getD, List.getElem?_set_ne (Ne.symm h), List.getD_eq_getElem?_getD]
theorem there3 {l : List Pa} {k : Nat} (hl : l.length = 3) (hk : k < 3) : thereB l.length (k : Int) = true := thereB_nat (by omega)
theorem upd3 {l : List Pa} {k : Nat} (f : Pa → Pa) : updL l (k : Int) f = l.set k (f (l.getD k zeroPa)) := by unfold updL; rw [Int.toNat_natCast]
theorem fail3 {p : Ps} {k j : Nat} (hl : p.l.length = 3) (hk : k < 3) (ha : p.al = (j : Int)) (hj : j < 100) : failP p (k : Int) = ⟨p.l.set k (failF (p.l.getD k zeroPa)), p.pr, ((j + 1 : Nat) : Int)⟩ := by
  unfold failP
  rw [if_pos (there3 hl hk), upd3, ha]
  congr 1
  unfold wrap64
  omega
theorem failB3 {p : Ps} {k j : Nat} (hl : p.l.length = 3) (hk : k < 3) (ha : p.al = (j : Int)) (hj : j < 100) : failB p (k : Int) = decide (10 ≤ j) := by
  unfold failB
  rw [there3 hl hk, ha, Bool.true_and]
  have : wrap64 ((j : Int) + 1) = (j : Int) + 1 := by unfold wrap64; omega
  rw [this]
  by_cases h : 10 ≤ j
  · rw [decide_eq_true h, decide_eq_true (by omega)]
  · rw [decide_eq_false h, decide_eq_false (by omega)]
theorem PeI.succ {k j : Nat} {was : Int} {p : Ps} (h : PeI k j was p) (hw : was = 1 ∨ was = 2) (hk : k < 3) (hj : j < 30) : PeI k (j + 1) was (failP p (k : Int)) := by
  have hkl : k < p.l.length := by rw [h.len]; exact hk
  have he : wrap64 ((p.l.getD k zeroPa).er + 1) = ((j + 1 : Nat) : Int) := by rw [h.er]; unfold wrap64; omega
  rw [fail3 h.len hk h.al (by omega)]
  refine ⟨by rw [List.length_set]; exact h.len, h.pr, rfl, ?_, fun _ => ?_, ?_, ?_, fun m hm hne => ?_, fun x hx => ?_⟩
  · simp only [getD_set_self hkl]; exact he
  · simp only [getD_set_self hkl]; rfl
  · simp only [getD_set_self hkl]
    show downSt (wrap64 ((p.l.getD k zeroPa).er + 1)) (p.l.getD k zeroPa).st = _
    rw [he, h.st]
    unfold downSt
    rcases hw with rfl | rfl
    · simp
    · by_cases h5 : 5 < j
      · have e1 : 5 < j + 1 := by omega
        simp [h5, e1]
      · by_cases h6 : 5 < j + 1
        · simp [h5, h6]; omega
        · simp [h5, h6]; omega
  · simp only [getD_set_self hkl]; exact h.kn
  · simp only [getD_set_other hne]; exact h.oth m hm hne
  · rcases List.mem_or_eq_of_mem_set hx with hx | rfl
    · exact h.wf x hx
    · have : p.l.getD k zeroPa ∈ p.l := by rw [List.getD_eq_getElem?_getD, List.getElem?_eq_getElem hkl]; exact List.getElem_mem hkl
      exact back_wf (h.wf _ this)
theorem wf3 : ∀ x ∈ p3.l, WfT x.tm := by
  intro x hx
  have : x.tm = newT := by
    have h : x ∈ [{ freshPa 60000 ⟨#[97, 97, 97, 97]⟩ with st := 2 }, freshPa 60000 ⟨#[98, 98, 98, 98]⟩, freshPa 60000 ⟨#[99, 99, 99, 99]⟩] := hx
    simp only [List.mem_cons, List.not_mem_nil, or_false] at h
    rcases h with rfl | rfl | rfl <;> rfl
  rw [this]
  exact new_wf
def was3 (k : Nat) : Int := if k = 0 then 2 else 1
theorem start3 {k : Nat} (hk : k < 3) : PeI k 0 (was3 k) p3 := by
  refine ⟨l3a, rfl, rfl, ?_, fun h => absurd h (by omega), ?_, ?_, fun m hm hne => ?_, wf3⟩
  · rcases (by omega : k = 0 ∨ k = 1 ∨ k = 2) with rfl | rfl | rfl <;> rfl
  · rcases (by omega : k = 0 ∨ k = 1 ∨ k = 2) with rfl | rfl | rfl <;> rfl
  · rcases (by omega : k = 0 ∨ k = 1 ∨ k = 2) with rfl | rfl | rfl <;> rfl
  · rcases (by omega : m = 0 ∨ m = 1 ∨ m = 2) with rfl | rfl | rfl <;> rfl
theorem good3 {p : Ps} {k : Nat} (hl : p.l.length = 3) (hk : k < 3) : goodP p (k : Int) = ⟨p.l.set k (heardF (p.l.getD k zeroPa)), p.pr, 0⟩ := by
  unfold goodP
  rw [if_pos (there3 hl hk), upd3]
/-- A cell of a path in its row. -/
theorem RowP.field {w W : World} {A : Option Addr} {n cap : Nat} {l : List Pa} (h : RowP W (.slice A n cap) l) (hn : 0 < l.length) : ∃ b off, A = some ⟨b, off, none⟩ ∧ n = l.length ∧ b < W.heap.size ∧ ∀ k, k < l.length → ∀ j v, (cellsPa (l.getD k zeroPa)).toList[j]? = some v → W.cell? ⟨b, off + k * 14 + j, none⟩ = some v := by
  obtain ⟨A', cap', hv, _, _, hc⟩ := h
  cases hv
  obtain ⟨b, off, rfl, hb, hcc⟩ := hc hn
  refine ⟨b, off, rfl, rfl, hb, fun k hk j v hj => hcc k hk j v ?_⟩
  rw [List.getD_eq_getElem?_getD, List.getElem?_eq_getElem hk] at hj
  exact hj
theorem PeI.state {k j : Nat} {was : Int} {p : Ps} (h : PeI k (j + 1) was p) (hw : was = 1 ∨ was = 2) : ∃ s, (p.l.getD k zeroPa).st = s ∧ ((was = 1 ∧ s = 1) ∨ (was = 2 ∧ (5 : Int) ≤ (j : Int) ∧ s = 3) ∨ (was = 2 ∧ ¬ (5 : Int) ≤ (j : Int) ∧ s = 2)) := by
  refine ⟨_, rfl, ?_⟩
  rw [h.st]
  rcases hw with rfl | rfl
  · left; simp
  · right
    by_cases h5 : 5 ≤ j
    · left; exact ⟨rfl, by omega, if_pos ⟨rfl, by omega⟩⟩
    · right; exact ⟨rfl, by omega, if_neg (fun h => h5 (by omega))⟩
theorem ten_cases (j : Nat) : ∃ ob : Bool, Hid (decide (10 ≤ j) = ob) ∧ ((ob = true ∧ (10 : Int) ≤ (j : Int)) ∨ (ob = false ∧ ¬ (10 : Int) ≤ (j : Int))) := by
  by_cases h : 10 ≤ j
  · exact ⟨true, Lib.hid (decide_eq_true h), .inl ⟨rfl, by omega⟩⟩
  · exact ⟨false, Lib.hid (decide_eq_false h), .inr ⟨rfl, by omega⟩⟩
theorem PeI.end {k j : Nat} {was : Int} {p : Ps} (h : PeI k j was p) (hw : was = 1 ∨ was = 2) : (heardF (p.l.getD k zeroPa)).er = 0 ∧ (heardF (p.l.getD k zeroPa)).st = was ∧ (heardF (p.l.getD k zeroPa)).tm.rto = 1000 := by
  refine ⟨rfl, ?_, ?_⟩
  · show okSt (p.l.getD k zeroPa).st = was
    rw [h.st]
    unfold okSt
    rcases hw with rfl | rfl
    · simp
    · by_cases h5 : 5 < j
      · simp [h5]
      · simp [h5]
  · show (goodT (p.l.getD k zeroPa).tm).rto = 1000
    have hk := h.kn
    generalize (p.l.getD k zeroPa).tm = q at *
    unfold goodT
    rw [hk]
    rfl
/-- The paths p lie in block gp; below the beginning nothing has turned. -/
structure PsB (w : World) (gp : Nat) (p : Ps) (W : World) : Prop where
  box : ∃ sl, Bx W gp 27 #[sl, .int .i64 p.pr, .int .i64 p.al] ∧ RowP W sl p.l
  below : Below w.heap.size w W
  new : w.heap.size ≤ gp
theorem PsB.later {w W W' : World} {gp : Nat} {p : Ps} (h : PsB w gp p W) (hb : Below W.heap.size W W') : PsB w gp p W' := by
  obtain ⟨sl, h1, h2⟩ := h.box
  exact ⟨⟨sl, h1.later hb, h2.below hb⟩, h.below.trans (hb.mono h.below.size), h.new⟩
set_option maxHeartbeats 4000000 in
set_option maxRecDepth 100000 in
theorem walk (i n : Int) (hi : Fits i) (w : World) : Calls Try.prog 6 #[.int .i64 i, .int .i64 n] w fun e w' => e = .returned (.bool true) ∧ Below w.heap.size w w' := by
  have HS := Lib.hid (fun W => shown_any W)
  have HPK := Lib.hid (fun W => pick_any i 3 hi (by omega) (by omega) W)
  have hp := pickI_le (c := i) (n := 3) (by omega)
  obtain ⟨k, hk⟩ : ∃ k : Nat, pickI i 3 = (k : Int) := ⟨(pickI i 3).toNat, by omega⟩
  rw [hk] at HPK hp
  have hk3 : k < 3 := by omega
  clear hk hp
  have HB := Lib.hid (Below.refl w.heap.size w)
  go_enter Try.func6, Try.ntmps6
  go_wp2_with (go_at_call 8; (with_reducible refine (HS.out _).mono ?_); rintro e w1 ⟨rfl, hb1⟩; replace HB := Lib.hid (HB.out.trans hb1); clear hb1)
  have HR := Lib.hid (row3 w1)
  replace HB := Lib.hid (HB.out.alloc HB.out.size (.cells #[.string ⟨#[97, 97, 97, 97]⟩, .string ⟨#[98, 98, 98, 98]⟩, .string ⟨#[99, 99, 99, 99]⟩] 9))
  refine (new3 _ _ HR.out).mono ?_
  rintro e w2 ⟨v1, rfl, hr1, hb, _⟩
  have HR1 := Lib.hid hr1
  replace HB := Lib.hid (HB.out.trans (hb.mono HB.out.size))
  have hw1 := HB.out.size
  clear hr1 hb HR
  obtain ⟨W3, hW3, HP, HB3, hs3⟩ := one_open w2 27 #[.slice none 0 0, .int .i64 0, .int .i64 0]
  by_cases hn : 0 ≤ n ∧ n ≤ 30
  · obtain ⟨hn0, hn1⟩ := hn
    obtain ⟨m, rfl⟩ : ∃ m : Nat, n = (m : Int) := ⟨n.toNat, by omega⟩
    have HPE := Lib.hid (start3 hk3)
    have hwas : was3 k = 1 ∨ was3 k = 2 := by unfold was3; split <;> simp
    obtain ⟨A1, c1, hv1, -, -, -⟩ := id HR1.out
    rw [l3a] at hv1
    subst hv1
    obtain ⟨b1, off1, rfl, -, hb1, HF1⟩ := RowP.field (w := w) HR1.out (by rw [l3a]; omega)
    have hst := HF1 k (by rw [l3a]; exact hk3) 1 (.int .i64 (was3 k)) (by
      have h := HPE.out.st
      simp only [Nat.not_lt_zero, and_false, if_false] at h
      rw [← h]
      rfl)
    generalize was3 k = was at *
    have q4 : (0 : Int) ≤ (k : Int) := by omega
    have q5 : (k : Int) < 3 := by omega
    have q6 : ¬ (m : Int) < 0 := by omega
    have q7 : ¬ (30 : Int) < (m : Int) := by omega
    clear HF1
    go_wp2_with (first
    | ((with_reducible refine gate9 ?_); refine stB #[.slice (some ⟨b1, off1, none⟩) 3 c1, .int .i64 0, .int .i64 0] rfl rfl rfl rfl HP.out infoPs rfl (cells3_one _ _ _ _ _) ?_; intro w4 ht hg; replace HB3 := Lib.hid (below_of_grown1 HB3.out hg HB3.out.size (Nat.le_refl _)); replace HP := Lib.hid ht; clear ht hg; have c0 := HP.out.cell 0 (.slice (some ⟨b1, off1, none⟩) 3 c1) rfl; have hd := (HB3.out.cell (p := ⟨b1, off1 + k * 14 + 1, none⟩) hb1).trans hst)
    | (go_at_call 28; (with_reducible refine (HPK.out _).mono ?_); rintro e w5 ⟨rfl, rfl⟩))
    go_loopw [11] (fun i wr => ∃ j : Nat, j ≤ m ∧ i = .int .i64 j ∧ Hid (∃ p, PeI k j was p ∧ PsB w w2.heap.size p wr))
      (fun i _ => m - (intOf i).toNat)
    case atStart => exact ⟨0, Nat.zero_le _, rfl, Lib.hid ⟨p3, HPE.out, ⟨⟨_, HP.out, HR1.out.below HB3.out⟩, HB.out.trans (HB3.out.mono hw1), hw1⟩⟩⟩
    case round =>
      clear HP HPE HB HB3 HR1 hst hd c0 hb1
      obtain ⟨j, hj, rfl, HR⟩ := hrel
      obtain ⟨p, hpe, hps⟩ := HR.out
      obtain ⟨l, pr, al⟩ := p
      have hpr : pr = 0 := hpe.pr
      have hal : al = (j : Int) := hpe.al
      subst hpr
      subst hal
      obtain ⟨sl, hbx, hrow⟩ := hps.box
      have hlen : l.length = 3 := hpe.len
      obtain ⟨A4, c4, hv4, -, -, -⟩ := id hrow
      rw [hlen] at hv4
      subst hv4
      obtain ⟨b4, off4, rfl, -, hb4, -⟩ := RowP.field (w := w) hrow (by show 0 < l.length; omega)
      have HP : Hid (Bx wr w2.heap.size 27 #[.slice (some ⟨b4, off4, none⟩) 3 c4, .int .i64 0, .int .i64 (j : Int)]) := Lib.hid hbx
      have HRW := Lib.hid hrow
      have HBW := Lib.hid hps.below
      have hnew := hps.new
      have HPE := Lib.hid hpe
      clear HR hbx hrow hps hpe
      by_cases hlt : j < m
      · have hj30 : j < 30 := by omega
        have HPS := Lib.hid (HPE.out.succ hwas hk3 hj30)
        have HFA : Hid (∀ W : World, RowP W (.slice (some ⟨b4, off4, none⟩) 3 c4) l → Calls Try.prog 18 #[.agg #[.slice (some ⟨b4, off4, none⟩) 3 c4, .int .i64 0, .int .i64 (j : Int)], .int .i64 (k : Int)] W fun e W' => ∃ v', e = .returned (.tuple #[.agg #[v', .int .i64 0, .int .i64 ((j : Int) + 1)], .bool (decide (10 ≤ j))]) ∧ RowP W' v' (failP ⟨l, 0, (j : Int)⟩ (k : Int)).l ∧ Below W.heap.size W W' ∧ Fresh W.heap.size v') := Lib.hid fun W h => (fail_any l (by omega) _ 0 (j : Int) (k : Int) HPE.out.wf W h).mono fun e W' ⟨v', h1, h2, h3, h4⟩ => ⟨v', by
          rw [h1, failB3 (p := ⟨l, 0, (j : Int)⟩) (j := j) hlen hk3 rfl (by omega)]
          have e1 := HPS.out.pr
          have e2 := HPS.out.al
          rw [e1, e2]
          simp, h2, h3, h4⟩
        generalize hP' : failP ⟨l, 0, (j : Int)⟩ (k : Int) = P2 at *
        obtain ⟨l2, pr2, al2⟩ := P2
        have hlen2 : l2.length = 3 := HPS.out.len
        have h2er : (l2.getD k zeroPa).er = (j : Int) + 1 := by have := HPS.out.er; simpa using this
        have h2cw : (l2.getD k zeroPa).wn.cw = 1500 := HPS.out.cw (by omega)
        obtain ⟨stn, hstn, hcase⟩ := HPS.out.state hwas
        have hpr2 : pr2 = 0 := HPS.out.pr
        have hal2 : al2 = ((j + 1 : Nat) : Int) := HPS.out.al
        subst hpr2
        subst hal2
        clear hP' HPE
        dsimp only at hstn
        have HFC := Lib.hid (fun (W : World) (b off c : Nat) (h : RowP W (.slice (some ⟨b, off, none⟩) 3 c) l2) => show (W.cell? ⟨b, off + k * 14 + 1, none⟩ = some (.int .i64 stn) ∧ W.cell? ⟨b, off + k * 14 + 2, none⟩ = some (.int .i64 ((j : Int) + 1))) ∧ W.cell? ⟨b, off + k * 14 + 8, none⟩ = some (.int .i64 1500) from by
          obtain ⟨b', off', he, _, _, hf⟩ := RowP.field (w := w) h (by omega)
          cases he
          refine ⟨⟨hf k (by omega) 1 _ ?_, hf k (by omega) 2 _ ?_⟩, hf k (by omega) 8 _ ?_⟩
          · rw [← hstn]; rfl
          · rw [← h2er]; rfl
          · rw [← h2cw]; rfl)
        clear h2er h2cw hstn
        obtain ⟨ob, HOB, h10⟩ := ten_cases j
        rw [HOB.out] at HFA
        clear HOB
        go_wp2_with ((with_reducible refine gate9 ?_); refine ldB rfl rfl rfl HP.out Try.underlying27 rfl infoPs ?_)
        have hgp := HP.out.lt
        refine (HFA.out _ HRW.out).mono ?_
        rintro e w5 ⟨v5, rfl, hr5, hb5, hf5⟩
        replace HP := Lib.hid (HP.out.later hb5)
        replace HBW := Lib.hid (HBW.out.trans (hb5.mono HBW.out.size))
        obtain ⟨A5, c5, hv5, -, -, -⟩ := id hr5
        replace hv5 : v5 = .slice A5 l2.length c5 := hv5
        rw [hlen2] at hv5
        subst hv5
        obtain ⟨b5, off5, rfl, -, -, -⟩ := RowP.field (w := w) hr5 (by show 0 < l2.length; omega)
        have HR5 := Lib.hid hr5
        have HF5 := Lib.hid hf5
        have hgw : w.heap.size ≤ w5.heap.size := HBW.out.size
        clear hr5 hb5 hf5 HFA HRW
        rcases hcase with ⟨hw1, hs1⟩ | ⟨hw1, h5, hs1⟩ | ⟨hw1, h5, hs1⟩
        all_goals
          subst hs1
          subst hw1
          rcases h10 with ⟨rfl, h10⟩ | ⟨rfl, h10⟩
          all_goals try (exfalso; omega)
          all_goals
            go_wp2_with ((with_reducible refine gate9 ?_); refine stB #[.slice (some ⟨b5, off5, none⟩) 3 c5, .int .i64 0, .int .i64 ((j : Int) + 1)] rfl rfl rfl rfl HP.out infoPs rfl (cells3_one _ _ _ _ _) ?_; intro w6 ht hg; replace HBW := Lib.hid (below_of_grown1 HBW.out hg hgw hnew); replace HR5 := Lib.hid (HR5.out.stays HF5.out hg hgp); replace HP := Lib.hid ht; clear ht hg; obtain ⟨⟨d1, d2⟩, d8⟩ := HFC.out _ _ _ _ HR5.out; have c0 := HP.out.cell 0 (.slice (some ⟨b5, off5, none⟩) 3 c5) rfl; have c2 := HP.out.cell 2 (.int .i64 ((j : Int) + 1)) rfl)
            go_roundw
            case rel => exact ⟨j + 1, by omega, by go_num, Lib.hid ⟨_, HPS.out, ⟨⟨_, (by have h := HP.out; simpa using h), HR5.out⟩, HBW.out, hnew⟩⟩⟩
            case measure => simp [intOf]; omega
      · obtain rfl : j = m := by omega
        have hend := HPE.out.end hwas
        have hoth := HPE.out.oth
        have hgd : goodP ⟨l, 0, (j : Int)⟩ (k : Int) = ⟨l.set k (heardF (l.getD k zeroPa)), 0, 0⟩ := good3 (p := ⟨l, 0, (j : Int)⟩) hlen hk3
        have hl3 : (l.set k (heardF (l.getD k zeroPa))).length = 3 := by rw [List.length_set]; exact hlen
        have hg3 : (l.set k (heardF (l.getD k zeroPa))).getD k zeroPa = heardF (l.getD k zeroPa) := getD_set_self (by omega) _
        have HGA : Hid (∀ W : World, RowP W (.slice (some ⟨b4, off4, none⟩) 3 c4) l → Calls Try.prog 24 #[.agg #[.slice (some ⟨b4, off4, none⟩) 3 c4, .int .i64 0, .int .i64 (j : Int)], .int .i64 (k : Int)] W fun e W' => ∃ v', e = .returned (.agg #[v', .int .i64 0, .int .i64 0]) ∧ RowP W' v' (l.set k (heardF (l.getD k zeroPa))) ∧ Below W.heap.size W W') := Lib.hid fun W h => (good_path l (by omega) _ 0 (j : Int) (k : Int) W h).mono fun e W' ⟨v', h1, h2, h3, h4⟩ => by
          rw [hgd] at h1 h2
          exact ⟨v', h1, h2, h3⟩
        dsimp only at hend hoth
        rw [← hg3] at hend
        generalize l.set k (heardF (l.getD k zeroPa)) = l3 at *
        obtain ⟨he1, he2, he3⟩ := hend
        clear hgd hg3 HPE
        have HFC := Lib.hid (fun (W : World) (b off c : Nat) (h : RowP W (.slice (some ⟨b, off, none⟩) 3 c) l3) => show (W.cell? ⟨b, off + k * 14 + 1, none⟩ = some (.int .i64 was) ∧ W.cell? ⟨b, off + k * 14 + 2, none⟩ = some (.int .i64 0)) ∧ W.cell? ⟨b, off + k * 14 + 5, none⟩ = some (.int .i64 1000) from by
          obtain ⟨b', off', he, _, _, hf⟩ := RowP.field (w := w) h (by omega)
          cases he
          refine ⟨⟨hf k (by omega) 1 _ ?_, hf k (by omega) 2 _ ?_⟩, hf k (by omega) 5 _ ?_⟩
          · rw [← he2]; rfl
          · rw [← he1]; rfl
          · rw [← he3]; rfl)
        have HFO := Lib.hid (fun (W : World) (h : RowP W (.slice (some ⟨b4, off4, none⟩) 3 c4) l) (t : Nat) (ht : t < 3) (hne : t ≠ k) => show W.cell? ⟨b4, off4 + t * 14 + 2, none⟩ = some (.int .i64 0) from by
          obtain ⟨b', off', he, _, _, hf⟩ := RowP.field (w := w) h (by omega)
          cases he
          refine hf t (by omega) 2 _ ?_
          rw [← hoth t ht hne]; rfl)
        clear he1 he2 he3 hoth
        go_wp2_with ((with_reducible refine gate9 ?_); refine ldB rfl rfl rfl HP.out Try.underlying27 rfl infoPs ?_)
        refine (HGA.out _ HRW.out).mono ?_
        rintro e w5 ⟨v5, rfl, hr5, hb5⟩
        replace HP := Lib.hid (HP.out.later hb5)
        replace HRW := Lib.hid (HRW.out.below hb5)
        replace HBW := Lib.hid (HBW.out.trans (hb5.mono HBW.out.size))
        obtain ⟨A5, c5, hv5, -, -, -⟩ := id hr5
        rw [hl3] at hv5
        subst hv5
        obtain ⟨b5, off5, rfl, -, -, -⟩ := RowP.field (w := w) hr5 (by omega)
        have HR5 := Lib.hid hr5
        have hgw : w.heap.size ≤ w5.heap.size := HBW.out.size
        clear hr5 hb5 HGA
        obtain ⟨W7, hW7, HQ, HB7, hs7⟩ := one_open w5 27 #[.slice none 0 0, .int .i64 0, .int .i64 0]
        go_wp2_with ((with_reducible refine gate9 ?_); refine stB #[.slice (some ⟨b5, off5, none⟩) 3 c5, .int .i64 0, .int .i64 0] rfl rfl rfl rfl HQ.out infoPs rfl (cells3_one _ _ _ _ _) ?_; intro w8 ht hg; replace HB7 := Lib.hid (below_of_grown1 HB7.out hg HB7.out.size (Nat.le_refl _)); replace HQ := Lib.hid ht; clear ht hg)
        replace HP := Lib.hid (HP.out.later HB7.out)
        replace HRW := Lib.hid (HRW.out.below HB7.out)
        replace HR5 := Lib.hid (HR5.out.below HB7.out)
        replace HBW := Lib.hid (HBW.out.trans (HB7.out.mono hgw))
        clear HB7 hW7 hs7
        go_loopw [14] (fun i wx => ∃ t : Nat, t ≤ 3 ∧ i = .int .i64 t ∧ Hid (wx = w8))
          (fun i _ => 3 - (intOf i).toNat)
        case atStart => exact ⟨0, by omega, rfl, Lib.hid rfl⟩
        case round =>
          obtain ⟨t, ht3, rfl, HWX⟩ := hrel
          have hwx := HWX.out
          subst hwx
          have p0 := HP.out.cell 0 (.slice (some ⟨b4, off4, none⟩) 3 c4) rfl
          by_cases hlt3 : t < 3
          · have r4 : (0 : Int) ≤ (t : Int) := by omega
            have r5 : (t : Int) < 3 := by omega
            by_cases htk : t = k
            · have hq : ((t : Int) != (k : Int)) = false := by simp [htk]
              have hq2 : ((t : Int) == (k : Int)) = true := by simp [htk]
              clear htk
              go_wp2_with fail
              go_roundw
              case rel => exact ⟨t + 1, by omega, by go_num, Lib.hid (by trivial)⟩
              case measure => simp [intOf]; omega
            · have hq : ((t : Int) != (k : Int)) = true := by simp; omega
              have hq2 : ((t : Int) == (k : Int)) = false := by simp; omega
              have d0 := HFO.out _ HRW.out t hlt3 htk
              clear htk
              go_wp2_with fail
              go_roundw
              case rel => exact ⟨t + 1, by omega, by go_num, Lib.hid (by trivial)⟩
              case measure => simp [intOf]; omega
          · obtain rfl : t = 3 := by omega
            have c0 := HQ.out.cell 0 (.slice (some ⟨b5, off5, none⟩) 3 c5) rfl
            have c2 := HQ.out.cell 2 (.int .i64 0) rfl
            obtain ⟨⟨d1, d2⟩, d5⟩ := HFC.out _ _ _ _ HR5.out
            go_wp2_with fail
            go_ret
            exact ⟨rfl, HBW.out⟩
  · have hx : n < 0 ∨ (0 ≤ n ∧ 30 < n) := by omega
    obtain ⟨A1, c1, hv1, -, -, -⟩ := id HR1.out
    subst hv1
    clear hn
    rcases hx with hx | ⟨hx, hx2⟩
    all_goals
      go_wp2_with ((with_reducible refine gate9 ?_); refine stB #[.slice A1 p3.l.length c1, .int .i64 0, .int .i64 0] rfl rfl rfl rfl HP.out infoPs rfl (cells3_one _ _ _ _ _) ?_; intro w4 ht hg; replace HB3 := Lib.hid (below_of_grown1 HB3.out hg HB3.out.size (Nat.le_refl _)); clear ht hg HP)
      go_ret
      exact ⟨rfl, HB.out.trans (HB3.out.mono hw1)⟩

set_option maxRecDepth 100000 in
theorem lifted (os : Os) (started : os.Started) (H : Type) (enc : TypeId × Value → H) :
    ReturnsInHanded {} Try.checked os 6 .any (Rows.pathErrorsSpec.pre6 enc Try.prog Try.f6 Rows.pathErrorsRow.domain false) (Rows.pathErrorsSpec.post enc Try.prog Try.f6 false true false false) := by
  refine returnsInHanded_of_change_sized (C := Try.checked) own started (by kernel_rfl) Try.func6
    (ChangeSpec.witness6 (enc := enc) (C := Try.checked) false ⟨#[], #[.int .i64 0, .int .i64 0], []⟩ 8 (by kernel_rfl) (by kernel_rfl) (by kernel_rfl) (by kernel_rfl)) ?_
  intro W base args ds gs before hval0 hW _ hreach _
  have hval : ∀ (j : Nat) t v, Try.f6.params[j]? = some t → args[j]? = some v → Value.okWide Try.prog W .any base t v := hval0
  obtain ⟨p, q, hA0, _, _, _, _⟩ := id hW
  have hA : DataW.TrodAll enc Try.prog W 0 (fun _ => true) true Try.f6.params.toList args.toList ds p := hA0
  rw [Try.params6] at hA hval
  obtain ⟨v0, vs0, d0, ds0, p0, q0, hargs, rfl, rfl, h0, r0⟩ := trodAll_cons hA
  obtain ⟨v1, vs1, d1, ds1, p1, q1, rfl, rfl, rfl, h1, r1⟩ := trodAll_cons r0
  obtain ⟨rfl, rfl, rfl⟩ := trodAll_nil r1
  obtain rfl : args = #[v0, v1] := by cases args; simp_all
  obtain ⟨a0, rfl, rfl, rfl, w0⟩ := open_int Try.underlying3 (hval 0 3 v0 rfl rfl) h0
  obtain ⟨a1, rfl, rfl, rfl, w1⟩ := open_int Try.underlying3 (hval 1 3 v1 rfl rfl) h1
  refine (walk a0 a1 (bounds_i64 w0) W ).mono fun e W' ⟨he, hg⟩ => ?_
  subst he
  exact ⟨_, rfl, law_post laidOut Try.underlying4 (by kernel_rfl) (by kernel_rfl) rfl hW (by simp [Rows.pathErrorsSpec]) hg⟩

theorem proved : Rows.PathErrorsSaid :=
  OpenClaim.holds_of_wide 6 Try.f6 rfl rfl rfl rfl rfl rfl rfl ⟨rfl, rfl, rfl, rfl, rfl⟩ rfl rfl rfl rfl rfl (by kernel_rfl) Try.func6 (by kernel_rfl)
    (of_decide_eq_true (by kernel_rfl)) (by unfold Func.isWrapper; first | (rw [if_pos (by decide +kernel)]; kernel_rfl) | (rw [if_neg (by decide +kernel)]; exact ⟨rfl, rfl⟩))
    (fun os started H enc _ => lifted os started H enc)
#print axioms proved
end Go.Proofs.Yteiifkooegpdaaa.pathErrors
