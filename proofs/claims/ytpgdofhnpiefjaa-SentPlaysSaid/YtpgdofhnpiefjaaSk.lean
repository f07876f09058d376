/-
  Package sent: what is marked: contract.
-/
import Derived.Test.YtpgdofhnpiefjaaSj
import Derived.Deep.LoopGhost
import Derived.WalkMore
namespace Go.Proofs.Ytpgdofhnpiefjaa
open Go.RowKit
set_option linter.unusedVariables false
set_option linter.unusedSimpArgs false
set_option maxRecDepth 100000

def markX (h : Bool) (x : Pc) : Pc := if h then (if x.st = 2 then x else { x with st := 2 }) else if x.st = 2 then { x with st := 1, mi := 0 } else x
theorem stepM_l (gs : List (Nat × Nat)) (now : Int) (s : Mk) (x : Pc) : (stepM gs now s x).l = s.l ++ [markX (hitG gs (s.l.length + 1)) x] := by
  unfold stepM markX
  split <;> split <;> rfl
theorem tellR_frame (now : Int) (r : Rs) (x : Pc) : (tellR now r x).out = r.out ∧ (tellR now r x).mo = r.mo ∧ (tellR now r x).dn = r.dn ∧ (tellR now r x).fa = r.fa ∧ (tellR now r x).by' = r.by' + x.sz ∧ r.tk.length ≤ (tellR now r x).tk.length ∧ (tellR now r x).tk.length ≤ r.tk.length + 1 ∧ (tellR now r x).fr = true := by
  unfold tellR
  refine ⟨rfl, rfl, rfl, rfl, rfl, ?_, ?_, rfl⟩
  · show r.tk.length ≤ (if x.ti = 1 ∧ x.tm ≤ now then r.tk ++ [IntKind.i64.wrap (now - x.tm)] else r.tk).length
    split <;> simp
  · show (if x.ti = 1 ∧ x.tm ≤ now then r.tk ++ [IntKind.i64.wrap (now - x.tm)] else r.tk).length ≤ _
    split <;> simp
theorem stepM_a {gs : List (Nat × Nat)} {now : Int} {ml : List Pc} {mr : Rs} {ma j : Nat} {x : Pc} (hm : ml.length = j) (h : hitG gs (j + 1) = true) (h2 : x.st = 2) : stepM gs now ⟨ml, mr, ma⟩ x = ⟨ml ++ [x], mr, ma⟩ := by
  subst hm; unfold stepM; rw [if_pos h, if_pos h2]
theorem stepM_b {gs : List (Nat × Nat)} {now : Int} {ml : List Pc} {mr : Rs} {ma j : Nat} {x : Pc} (hm : ml.length = j) (h : hitG gs (j + 1) = true) (h2 : x.st ≠ 2) : stepM gs now ⟨ml, mr, ma⟩ x = ⟨ml ++ [{ x with st := 2 }], tellR now mr x, j⟩ := by
  subst hm; unfold stepM; rw [if_pos h, if_neg h2]
theorem stepM_c {gs : List (Nat × Nat)} {now : Int} {ml : List Pc} {mr : Rs} {ma j : Nat} {x : Pc} (hm : ml.length = j) (h : hitG gs (j + 1) = false) (h2 : x.st = 2) : stepM gs now ⟨ml, mr, ma⟩ x = ⟨ml ++ [{ x with st := 1, mi := 0 }], mr, ma⟩ := by
  subst hm; unfold stepM; rw [if_neg (by rw [h]; decide), if_pos h2]
theorem stepM_d {gs : List (Nat × Nat)} {now : Int} {ml : List Pc} {mr : Rs} {ma j : Nat} {x : Pc} (hm : ml.length = j) (h : hitG gs (j + 1) = false) (h2 : x.st ≠ 2) : stepM gs now ⟨ml, mr, ma⟩ x = ⟨ml ++ [x], mr, ma⟩ := by
  subst hm; unfold stepM; rw [if_neg (by rw [h]; decide), if_neg h2]
/-- What stands behind j pieces. -/
structure MkI (r : Rs) (j : Nat) (s : Mk) : Prop where
  len : s.l.length = j
  lo : r.by' ≤ s.r.by'
  hi : s.r.by' ≤ r.by' + 1500 * (j : Int)
  tk : s.r.tk.length ≤ r.tk.length + j
  out : s.r.out = r.out
  mo : s.r.mo = r.mo
  dn : s.r.dn = r.dn
  fa : s.r.fa = r.fa
  ah : s.a ≤ j
theorem MkI.zero (r : Rs) : MkI r 0 ⟨[], r, 0⟩ := ⟨rfl, by simp, by simp, by simp, rfl, rfl, rfl, rfl, by simp⟩
theorem MkI.step {r : Rs} {j : Nat} {s : Mk} (h : MkI r j s) (gs : List (Nat × Nat)) (now : Int) {x : Pc} (hz : 1 ≤ x.sz ∧ x.sz ≤ 1500) : MkI r (j + 1) (stepM gs now s x) := by
  have hl : (stepM gs now s x).l.length = j + 1 := by rw [stepM_l]; simp [h.len]
  obtain ⟨t1, t2, t3, t4, t5, t6, t7, _⟩ := tellR_frame now s.r x
  have h1 := h.lo; have h2 := h.hi; have h3 := h.tk; have h4 := h.ah; have h5 := h.len
  refine ⟨hl, ?_, ?_, ?_, ?_, ?_, ?_, ?_, ?_⟩
  all_goals unfold stepM
  all_goals (split <;> split)
  all_goals first
    | exact h.out | exact h.mo | exact h.dn | exact h.fa | (show s.a ≤ j + 1; omega)
    | (show (tellR now s.r x).out = _; rw [t1]; exact h.out)
    | (show (tellR now s.r x).mo = _; rw [t2]; exact h.mo)
    | (show (tellR now s.r x).dn = _; rw [t3]; exact h.dn)
    | (show (tellR now s.r x).fa = _; rw [t4]; exact h.fa)
    | (show s.l.length ≤ _; omega)
    | (show _ ≤ (tellR now s.r x).by'; rw [t5]; omega)
    | (show (tellR now s.r x).by' ≤ _; rw [t5]; omega)
    | (show (tellR now s.r x).tk.length ≤ _; omega)
    | (show r.by' ≤ s.r.by'; omega)
    | (show s.r.by' ≤ _; omega)
    | (show s.r.tk.length ≤ _; omega)
def mkTo (gs : List (Nat × Nat)) (now : Int) (r : Rs) (l : List Pc) (j : Nat) : Mk := (l.take j).foldl (stepM gs now) ⟨[], r, 0⟩
theorem mkTo_succ (gs : List (Nat × Nat)) (now : Int) (r : Rs) (l : List Pc) (j : Nat) (h : j < l.length) : mkTo gs now r l (j + 1) = stepM gs now (mkTo gs now r l j) l[j] := foldl_take _ _ l j h
theorem mkTo_I (gs : List (Nat × Nat)) (now : Int) (r : Rs) {l : List Pc} (hok : ∀ x ∈ l, OkPc x) : ∀ j, j ≤ l.length → MkI r j (mkTo gs now r l j)
  | 0, _ => MkI.zero r
  | j + 1, h => by
    rw [mkTo_succ gs now r l j (by omega)]
    have hx := hok _ (List.getElem_mem (show j < l.length by omega))
    exact (mkTo_I gs now r hok j (by omega)).step gs now ⟨hx.z1, hx.z2⟩
theorem row_next {p r : List Pc} {l : List Pc} {j : Nat} (hp : p.length = j) (h : j < l.length) (y : Pc) : (p ++ l.drop j).set j y = (p ++ [y]) ++ l.drop (j + 1) := by
  rw [drop_at l j h]
  exact set_at p (l.drop (j + 1)) l[j] y j hp
theorem row_atq {p : List Pc} {l : List Pc} {j : Nat} (hp : p.length = j) (h : j < l.length) : (p ++ l.drop j)[j]? = some l[j] := by
  rw [drop_at l j h, List.getElem?_append_right (by omega), hp, Nat.sub_self]
  rfl
theorem row_self {p : List Pc} {l : List Pc} {j : Nat} (hp : p.length = j) (h : j < l.length) : (p ++ l.drop j).set j l[j] = p ++ l.drop j := by
  rw [row_next (r := []) hp h, drop_at l j h]
  simp
set_option maxHeartbeats 1000000 in
theorem mark_any (L : List Pc) (gs : List (Nat × Nat)) (now : Int) (gr Br n c B D : Nat) (A : Option Addr) (r : Rs) (A1 : Option Addr) (k1 : Nat) (A2 : Option Addr) (k2 : Nat) (hok : ∀ x ∈ L, OkPc x) (hn : n ≤ 64) (hgl : gs.length ≤ 1000) (hsm : SmallG gs) (hb0 : 0 ≤ r.by') (hb1 : r.by' ≤ 500000) (htk : r.tk.length ≤ 500) (vg : Value) (w : World)
    (h : RAt w gr Br r A1 k1 A2 k2) (hv : OwnV w B 58 A c n L) (hvg : ∀ W, Below D w W → RowGp W vg gs) (hD : D ≤ gr) (hD2 : D ≤ B) (hDw : D ≤ w.heap.size) (hng : ∀ z, A = some ⟨z, 0, none⟩ → z ≠ gr ∧ (Value.slice A1 r.dn.length k1).ownBlock ≠ some z ∧ (Value.slice A2 r.tk.length k2).ownBlock ≠ some z) :
    Calls Try.prog 23 #[.pointer (some ⟨gr, 0, none⟩), .slice A n c, vg, .int .i64 now] w fun e w' => ∃ A3 k3, e = .returned (.int .i64 ((mkTo gs now r L n).a : Int)) ∧ RAt w' gr Br (mkTo gs now r L n).r A1 k1 A3 k3 ∧ OwnV w' B 58 A c n (mkTo gs now r L n).l ∧ Ch (fun z => z = gr ∨ (Value.slice A2 r.tk.length k2).ownBlock = some z ∨ A = some ⟨z, 0, none⟩) w w' ∧ (∀ z, (Value.slice A3 (mkTo gs now r L n).r.tk.length k3).ownBlock = some z → (Value.slice A2 r.tk.length k2).ownBlock = some z ∨ w.heap.size ≤ z) := by
  have hL := hv.len
  have hcap := hv.le
  have hcm := hv.max
  have HH := Lib.hid h
  have HV0 := Lib.hid hv
  have HSD : Hid (∀ z, (z = gr ∨ (Value.slice A2 r.tk.length k2).ownBlock = some z ∨ A = some ⟨z, 0, none⟩) → D ≤ z) := Lib.hid (fun z e => by
    rcases e with e | e | e
    · omega
    · have := (HH.out.tk.lt z e).1; have := HH.out.lt; omega
    · have := HV0.out.base _ e; simp at this; omega)
  have HGP := Lib.hid (fun W (hc : Ch (fun z => z = gr ∨ (Value.slice A2 r.tk.length k2).ownBlock = some z ∨ A = some ⟨z, 0, none⟩) w W) => hvg W (below_ch (Below.refl D w) hc hDw HSD.out))
  have HNG := Lib.hid hng
  have HST := Lib.hid (show (mkTo gs now r L 0).a = 0 from rfl)
  have HMI := Lib.hid (mkTo_I gs now r hok)
  have HSM := Lib.hid hsm
  have HOK := Lib.hid hok
  obtain ⟨Ag, kg, rfl, hgk, hgm, -⟩ := id (hvg w (Below.refl _ _))
  have hgm' : (kg : Int) ≤ 9223372036854775807 := by unfold maxLen at hgm; omega
  clear h hv hvg hng hok hsm
  have hcm' : (c : Int) ≤ 9223372036854775807 := by unfold maxLen at hcm; omega
  go_enter Try.func23, Try.ntmps23
  go_wp2_with fail
  go_step3
  go_wp2_with fail
  go_step3
  go_wp2_with fail
  go_loopg [9, 16] n (fun gh a i wr => ∃ (j : Nat) (A3 : Option Addr) (k3 : Nat), gh = n - j ∧ j ≤ n ∧ a = .int .i64 ((mkTo gs now r L j).a : Int) ∧ i = .int .i64 j ∧ Hid (MkI r j (mkTo gs now r L j)) ∧ Hid (RAt wr gr Br (mkTo gs now r L j).r A1 k1 A3 k3) ∧ Hid (OwnV wr B 58 A c n ((mkTo gs now r L j).l ++ L.drop j)) ∧ Hid (Ch (fun z => z = gr ∨ (Value.slice A2 r.tk.length k2).ownBlock = some z ∨ A = some ⟨z, 0, none⟩) w wr) ∧ Hid (∀ z, (Value.slice A3 (mkTo gs now r L j).r.tk.length k3).ownBlock = some z → (Value.slice A2 r.tk.length k2).ownBlock = some z ∨ w.heap.size ≤ z))
  case atStart => exact ⟨0, A2, k2, by omega, Nat.zero_le _, by rw [HST.out]; rfl, rfl, Lib.hid (MkI.zero r), HH, HV0, Lib.hid (Ch.refl _ _), Lib.hid (fun z hz => .inl hz)⟩
  case round =>
    have HLT0 := Lib.hid (fun (hn0 : 0 < n) => HV0.out.low hn0)
    have HDNL := Lib.hid HH.out.dn.lt
    clear HV0
    obtain ⟨j, A3, k3, rfl, hj, rfl, rfl, HMJ, HRA, HO, HC, HWH⟩ := hrel
    by_cases hlt : j < n
    · have hjl : j < L.length := by omega
      have hjn : j < n := hlt
      obtain ⟨g, rfl, hgB, hgl', hos⟩ := HO.out.low (by omega)
      obtain ⟨g', e9, -, hgw, -⟩ := HLT0.out (by omega)
      cases e9
      have HNGg := Lib.hid (HNG.out g rfl)
      have hggr : g ≠ gr := HNGg.out.1
      have HNX := Lib.hid (mkTo_succ gs now r L j hjl)
      have hx0 := HOK.out _ (List.getElem_mem hjl)
      have HRW := Lib.hid (fun y => row_next (r := []) (p := (mkTo gs now r L j).l) HMJ.out.len hjl y)
      have HS : Hid (OwnS wr g 58 c n (((mkTo gs now r L j).l ++ L.drop j).set j L[j])) := Lib.hid (by rw [row_self HMJ.out.len hjl]; exact hos)
      have hjs : j < ((mkTo gs now r L j).l ++ L.drop j).length := by rw [hos.len]; exact hlt
      have hwr := HC.out.size
      have HND : Hid ((Value.slice A1 r.dn.length k1).ownBlock ≠ some g) := Lib.hid HNGg.out.2.1
      have HNT : Hid ((Value.slice A3 (mkTo gs now r L j).r.tk.length k3).ownBlock ≠ some g) := Lib.hid (fun e => (HWH.out g e).elim (fun e => HNGg.out.2.2 e) (fun e => by omega))
      have HMS := Lib.hid (HMJ.out.step gs now (x := L[j]) ⟨hx0.z1, hx0.z2⟩)
      have hmlen := HMJ.out.len
      have hmb1 := HMJ.out.lo
      have hmb2 := HMJ.out.hi
      have hmtk := HMJ.out.tk
      have HDN9 := Lib.hid HMJ.out.dn
      have HGJ := Lib.hid (HGP.out wr HC.out)
      have q1 : (0 : Int) ≤ (j : Int) := by omega
      have q2 : (j : Int) < (n : Int) := by omega
      have q3 : (n : Int) ≤ 64 := by omega
      have q4 : (gs.length : Int) ≤ 1000 := by omega
      have HIN := Lib.hid (fun (a b : Nat) (ha : a < 65536) (hb : b < 65536) (W : World) => show Calls Try.prog 31 #[.agg #[.int .u16 (a : Int), .int .u16 (b : Int)], .int .i64 ((j : Int) + 1)] W fun e w' => e = .returned (.bool (inG (j + 1) (a, b))) ∧ Below W.heap.size W w' from in_any a b (j + 1) ha hb (by omega) W)
      clear hos hgl' HLT0 HNGg HNG HO
      generalize hmj : mkTo gs now r L j = mj at *
      generalize L[j] = x at *
      obtain ⟨ml, mr, ma⟩ := mj
      obtain ⟨ts, sz, sta, mi, ti, pa, tm⟩ := x
      simp only at *
      go_wp2_with fail
      go_loopg [9, 24] gs.length (fun gh a i wr2 => ∃ t : Nat, gh = gs.length - t ∧ t ≤ gs.length ∧ a = .int .i64 (ma : Int) ∧ i = .int .i64 t ∧ Hid (NoneG (inG (j + 1)) gs t) ∧ Hid (Below wr.heap.size wr wr2))
      case atStart => exact ⟨0, by omega, Nat.zero_le _, rfl, rfl, Lib.hid (NoneG.zero _ _), Lib.hid (Below.refl _ _)⟩
      case round =>
        obtain ⟨t, rfl, ht0, rfl, rfl, HN, HW2⟩ := hrel
        by_cases htl : t < gs.length
        · obtain ⟨b, off, cap', e9, hb, hc1, hc2, hrg⟩ := HGJ.out.at htl
          cases e9
          have HRG := Lib.hid (range_below hrg hb HW2.out)
          have HS2 := Lib.hid (HSM.out _ (List.getElem_mem htl))
          have HXQ := Lib.hid (any_hit (f := inG (j + 1)) htl)
          have HNX2 := Lib.hid (HN.out.next htl)
          have r1 : (0 : Int) ≤ (t : Int) := by omega
          have r2 : (t : Int) < (gs.length : Int) := by omega
          clear hrg
          generalize gs[t] = xg at *
          obtain ⟨x1, x2⟩ := xg
          cases hbo : inG (j + 1) (x1, x2) with
          | true =>
            have HBO := Lib.hid hbo
            have hhit : hitG gs (j + 1) = true := HXQ.out hbo
            clear hbo HXQ HNX2
            by_cases h2 : sta = 2
            · subst h2
              have hstep : stepM gs now ⟨ml, mr, ma⟩ ⟨ts, sz, 2, mi, ti, pa, tm⟩ = ⟨ml ++ [⟨ts, sz, 2, mi, ti, pa, tm⟩], mr, ma⟩ := stepM_a hmlen hhit rfl
              rw [hstep] at HNX HMS
              clear hstep
              go_wp2_with (first
                | ((with_reducible refine gate9 ?_); refine ldGp (ty := 37) rfl rfl rfl HRG.out Try.underlying37 rfl infoGp ?_)
                | (go_at_call 31; (with_reducible refine (HIN.out x1 x2 HS2.out.1 HS2.out.2 _).mono ?_); rintro e w4 ⟨rfl, hb5⟩; (try rw [HBO.out]); replace HW2 := Lib.hid ((HW2.out.trans ((below_one _ _).mono HW2.out.size)).trans (hb5.mono (by have := HW2.out.size; rw [World.size_alloc]; omega))); clear hb5; have HS4 := Lib.hid (HS.out.later HW2.out); have c2 := HS4.out.celli hjn 2 (.int .i64 2) (by decide) rfl; have HRA4 := Lib.hid (HRA.out.later HW2.out); have HC4 := Lib.hid (HC.out.below HW2.out); have HRG4 := Lib.hid (HS4.out.rangeq hjn (List.getElem?_set_self hjs)); have hwr4 := Nat.le_trans hwr HW2.out.size; have hgw4 := Nat.lt_of_lt_of_le hgw hwr4))
              go_roundg (n - (j + 1))
              case measure => omega
              case rel => exact ⟨j + 1, A3, k3, rfl, by omega, by first | (rw [HNX.out]; done) | (rw [HNX.out]; rfl), by go_num, by rw [HNX.out]; exact HMS, by rw [HNX.out]; exact HRA4, by rw [HNX.out]; exact Lib.hid (by have h9 := OwnV.putS hgB HS4.out; rw [HRW.out] at h9; exact h9), HC4, by rw [HNX.out]; exact HWH⟩
            · have q9 : (sta == 2) = false := by rw [beq_eq_false_iff_ne]; exact h2
              have hstep : stepM gs now ⟨ml, mr, ma⟩ ⟨ts, sz, sta, mi, ti, pa, tm⟩ = ⟨ml ++ [⟨ts, sz, 2, mi, ti, pa, tm⟩], tellR now mr ⟨ts, sz, sta, mi, ti, pa, tm⟩, j⟩ := stepM_b hmlen hhit h2
              rw [hstep] at HNX HMS
              have HTL := Lib.hid (fun W h => tell_any ⟨ts, sz, sta, mi, ti, pa, tm⟩ now gr Br mr A1 k1 A3 k3 hx0.z1 hx0.z2 (by omega) (by omega) (by omega) W h)
              have NDX : Hid ((Value.slice A1 (tellR now mr ⟨ts, sz, sta, mi, ti, pa, tm⟩).dn.length k1).ownBlock ≠ some g) := Lib.hid (by rw [(tellR_frame now mr ⟨ts, sz, sta, mi, ti, pa, tm⟩).2.2.1, HDN9.out]; exact HND.out)
              clear hstep h2
              generalize tellR now mr ⟨ts, sz, sta, mi, ti, pa, tm⟩ = mr2 at *
              go_wp2_with (first
                | ((with_reducible refine gate9 ?_); refine ldGp (ty := 37) rfl rfl rfl HRG.out Try.underlying37 rfl infoGp ?_)
                | (go_at_call 31; (with_reducible refine (HIN.out x1 x2 HS2.out.1 HS2.out.2 _).mono ?_); rintro e w4 ⟨rfl, hb5⟩; (try rw [HBO.out]); replace HW2 := Lib.hid ((HW2.out.trans ((below_one _ _).mono HW2.out.size)).trans (hb5.mono (by have := HW2.out.size; rw [World.size_alloc]; omega))); clear hb5; have HS4 := Lib.hid (HS.out.later HW2.out); have c2 := HS4.out.celli hjn 2 (.int .i64 sta) (by decide) rfl; have HRA4 := Lib.hid (HRA.out.later HW2.out); have HC4 := Lib.hid (HC.out.below HW2.out); have HRG4 := Lib.hid (HS4.out.rangeq hjn (List.getElem?_set_self hjs)); have hwr4 := Nat.le_trans hwr HW2.out.size; have hgw4 := Nat.lt_of_lt_of_le hgw hwr4; have NTK := HNT.out)
                | ((with_reducible refine gate9 ?_); refine ldPc (ty := 58) rfl rfl rfl HRG4.out Try.underlying58 rfl infoP ?_)
                | (go_at_call 21; (with_reducible refine (HTL.out _ HRA4.out).mono ?_); rintro e w5 ⟨A4, k4, rfl, hra, hch, hwh⟩; replace HS4 := Lib.hid (HS4.out.same (hch.block g HS4.out.lt (by rintro (e | e); exact hggr e; exact HNT.out e))); have HWH5 := Lib.hid (fun z hz => (hwh z hz).elim (fun e => HWH.out z e) (fun e => Or.inr (Nat.le_trans hwr4 e))); replace HC4 := Lib.hid (HC4.out.step hch (fun z hz e => e.elim (fun e => Or.inl e) (fun e => (HWH.out z e).elim (fun e => Or.inr (Or.inl e)) (fun e => absurd e (by omega))))); have NTK : (Value.slice A4 mr2.tk.length k4).ownBlock ≠ some g := (fun e => (hwh g e).elim (fun e2 => HNT.out e2) (fun e2 => absurd e2 (by omega))); replace HRA4 := Lib.hid hra; clear hra hch hwh)
                | ((with_reducible refine gate9 ?_); refine stI j 2 (.int .i64 2) (⟨ts, sz, 2, mi, ti, pa, tm⟩) rfl rfl rfl rfl HS4.out hjn (by decide) infoI rfl (by rfl) ?_; intro w6 ht hg; replace HRA4 := Lib.hid (HRA4.out.same (hg.block _ HRA4.out.box.lt (by intro e; cases e; exact hggr rfl)) (fun z hz1 hz2 => hg.block z (HRA4.out.dn.lt z hz2).2 (by intro e; cases e; exact NDX.out hz2)) (fun z hz1 hz2 => hg.block z (HRA4.out.tk.lt z hz2).2 (by intro e; cases e; exact NTK hz2)) (Nat.le_trans HRA4.out.bs hg.size)); replace HC4 := Lib.hid (HC4.out.grown hg (fun z hz _ => by cases hz; exact Or.inr (Or.inr rfl))); replace HS4 := Lib.hid ht; clear ht hg))
              go_roundg (n - (j + 1))
              case measure => omega
              case rel => exact ⟨j + 1, A4, k4, rfl, by omega, by first | (rw [HNX.out]; done) | (rw [HNX.out]; rfl), by go_num, by rw [HNX.out]; exact HMS, by rw [HNX.out]; exact HRA4, by rw [HNX.out]; exact Lib.hid (by have h9 := OwnV.putS hgB HS4.out; rw [HRW.out] at h9; exact h9), HC4, by rw [HNX.out]; exact HWH5⟩
          | false =>
            have HBO := Lib.hid hbo
            have HNN := Lib.hid (HNX2.out hbo)
            clear hbo HXQ HNX2
            go_wp2_with (first
              | ((with_reducible refine gate9 ?_); refine ldGp (ty := 37) rfl rfl rfl HRG.out Try.underlying37 rfl infoGp ?_)
              | (go_at_call 31; (with_reducible refine (HIN.out x1 x2 HS2.out.1 HS2.out.2 _).mono ?_); rintro e w4 ⟨rfl, hb5⟩; (try rw [HBO.out]); replace HW2 := Lib.hid ((HW2.out.trans ((below_one _ _).mono HW2.out.size)).trans (hb5.mono (by have := HW2.out.size; rw [World.size_alloc]; omega))); clear hb5))
            go_roundg (gs.length - (t + 1))
            case measure => omega
            case rel => exact ⟨t + 1, rfl, by omega, rfl, by go_num, HNN, HW2⟩
        · obtain rfl : t = gs.length := by omega
          have hhit : hitG gs (j + 1) = false := HN.out.all
          have HW2' := HW2
          by_cases h2 : sta = 2
          · subst h2
            have hstep : stepM gs now ⟨ml, mr, ma⟩ ⟨ts, sz, 2, mi, ti, pa, tm⟩ = ⟨ml ++ [⟨ts, sz, 1, 0, ti, pa, tm⟩], mr, ma⟩ := stepM_c hmlen hhit rfl
            rw [hstep] at HNX HMS
            clear hstep
            have NDX : Hid ((Value.slice A1 mr.dn.length k1).ownBlock ≠ some g) := Lib.hid (by rw [HDN9.out]; exact HND.out)
            have HS4 := Lib.hid (HS.out.later HW2.out); have c2 := HS4.out.celli hjn 2 (.int .i64 2) (by decide) rfl; have HRA4 := Lib.hid (HRA.out.later HW2.out); have HC4 := Lib.hid (HC.out.below HW2.out); have HRG4 := Lib.hid (HS4.out.rangeq hjn (List.getElem?_set_self hjs)); have hwr4 := Nat.le_trans hwr HW2.out.size; have hgw4 := Nat.lt_of_lt_of_le hgw hwr4; have NTK := HNT.out
            go_wp2_with (first
              | ((with_reducible refine gate9 ?_); refine stI j 2 (.int .i64 1) (⟨ts, sz, 1, mi, ti, pa, tm⟩) rfl rfl rfl rfl HS4.out hjn (by decide) infoI rfl (by rfl) ?_; intro w6 ht hg; replace HRA4 := Lib.hid (HRA4.out.same (hg.block _ HRA4.out.box.lt (by intro e; cases e; exact hggr rfl)) (fun z hz1 hz2 => hg.block z (HRA4.out.dn.lt z hz2).2 (by intro e; cases e; exact NDX.out hz2)) (fun z hz1 hz2 => hg.block z (HRA4.out.tk.lt z hz2).2 (by intro e; cases e; exact NTK hz2)) (Nat.le_trans HRA4.out.bs hg.size)); replace HC4 := Lib.hid (HC4.out.grown hg (fun z hz _ => by cases hz; exact Or.inr (Or.inr rfl))); replace HS4 := Lib.hid ht; clear ht hg)
              | ((with_reducible refine gate9 ?_); refine stI j 3 (.int .i64 0) (⟨ts, sz, 1, 0, ti, pa, tm⟩) rfl rfl rfl rfl HS4.out hjn (by decide) infoI rfl (by rfl) ?_; intro w6 ht hg; replace HRA4 := Lib.hid (HRA4.out.same (hg.block _ HRA4.out.box.lt (by intro e; cases e; exact hggr rfl)) (fun z hz1 hz2 => hg.block z (HRA4.out.dn.lt z hz2).2 (by intro e; cases e; exact NDX.out hz2)) (fun z hz1 hz2 => hg.block z (HRA4.out.tk.lt z hz2).2 (by intro e; cases e; exact NTK hz2)) (Nat.le_trans HRA4.out.bs hg.size)); replace HC4 := Lib.hid (HC4.out.grown hg (fun z hz _ => by cases hz; exact Or.inr (Or.inr rfl))); replace HS4 := Lib.hid ht; clear ht hg))
            go_roundg (n - (j + 1))
            case measure => omega
            case rel => exact ⟨j + 1, A3, k3, rfl, by omega, by first | (rw [HNX.out]; done) | (rw [HNX.out]; rfl), by go_num, by rw [HNX.out]; exact HMS, by rw [HNX.out]; exact HRA4, by rw [HNX.out]; exact Lib.hid (by have h9 := OwnV.putS hgB HS4.out; rw [HRW.out] at h9; exact h9), HC4, by rw [HNX.out]; exact HWH⟩
          · have q9 : (sta == 2) = false := by rw [beq_eq_false_iff_ne]; exact h2
            have hstep : stepM gs now ⟨ml, mr, ma⟩ ⟨ts, sz, sta, mi, ti, pa, tm⟩ = ⟨ml ++ [⟨ts, sz, sta, mi, ti, pa, tm⟩], mr, ma⟩ := stepM_d hmlen hhit h2
            rw [hstep] at HNX HMS
            clear hstep h2
            have HS4 := Lib.hid (HS.out.later HW2.out); have c2 := HS4.out.celli hjn 2 (.int .i64 sta) (by decide) rfl; have HRA4 := Lib.hid (HRA.out.later HW2.out); have HC4 := Lib.hid (HC.out.below HW2.out); have HRG4 := Lib.hid (HS4.out.rangeq hjn (List.getElem?_set_self hjs)); have hwr4 := Nat.le_trans hwr HW2.out.size; have hgw4 := Nat.lt_of_lt_of_le hgw hwr4
            go_wp2_with fail
            go_roundg (n - (j + 1))
            case measure => omega
            case rel => exact ⟨j + 1, A3, k3, rfl, by omega, by first | (rw [HNX.out]; done) | (rw [HNX.out]; rfl), by go_num, by rw [HNX.out]; exact HMS, by rw [HNX.out]; exact HRA4, by rw [HNX.out]; exact Lib.hid (by have h9 := OwnV.putS hgB HS4.out; rw [HRW.out] at h9; exact h9), HC4, by rw [HNX.out]; exact HWH⟩
    · obtain rfl : j = n := by omega
      rw [show L.drop j = [] from List.drop_of_length_le (by omega), List.append_nil] at HO
      go_wp2_with fail
      try rw [Exit.noGoto_ret]
      go_ret
      exact ⟨A3, k3, rfl, HRA.out, HO.out, HC.out, HWH.out⟩
end Go.Proofs.Ytpgdofhnpiefjaa
