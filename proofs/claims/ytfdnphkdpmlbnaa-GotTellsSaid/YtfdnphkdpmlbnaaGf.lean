/-
  Where a number belongs; going on: contracts.
-/
import Derived.Test.YtfdnphkdpmlbnaaGe
namespace Go.Proofs.Ytfdnphkdpmlbnaa
open Go.RowKit
set_option linter.unusedVariables false
set_option linter.unusedSimpArgs false
set_option maxRecDepth 100000

/-- How many of the first are below n. -/
structure Cut (c n : UInt32) (l : List UInt32) (i j : Nat) : Prop where
  le : i ≤ j
  len : j ≤ l.length
  lo : ∀ m, m < i → key c l[m]! < key c n
  hi : ∀ m, j ≤ m → m < l.length → key c n < key c l[m]!
theorem cut_start (c n : UInt32) (l : List UInt32) : Cut c n l 0 l.length := ⟨Nat.zero_le _, Nat.le_refl _, fun m h => absurd h (by omega), fun m h1 h2 => absurd h2 (by omega)⟩
theorem Cut.up {c n : UInt32} {l : List UInt32} {i j h : Nat} (hs : Strict c l) (k : Cut c n l i j) (h1 : i ≤ h) (h2 : h < j) (hk : key c l[h]! < key c n) : Cut c n l (h + 1) j := by
  refine ⟨h2, k.len, fun m hm => ?_, k.hi⟩
  rcases Nat.lt_succ_iff_lt_or_eq.1 hm with e | rfl
  · have hp := List.pairwise_iff_getElem.1 (strict_iff.1 hs) m h (by have := k.len; omega) (by have := k.len; omega) e
    rw [← getElem!_pos l m (by have := k.len; omega), ← getElem!_pos l h (by have := k.len; omega)] at hp
    omega
  · exact hk
theorem Cut.down {c n : UInt32} {l : List UInt32} {i j h : Nat} (hs : Strict c l) (k : Cut c n l i j) (h1 : i ≤ h) (h2 : h < j) (hk : key c n < key c l[h]!) : Cut c n l i h := by
  refine ⟨h1, by have := k.len; omega, k.lo, fun m hm hl => ?_⟩
  by_cases e : m = h
  · subst e; exact hk
  · have hp := List.pairwise_iff_getElem.1 (strict_iff.1 hs) h m (by omega) hl (by omega)
    rw [← getElem!_pos l m hl, ← getElem!_pos l h (by omega)] at hp
    omega
def Sought (c n : UInt32) (l : List UInt32) (e : Ending) : Prop := ∃ (t : Nat) (b : Bool), e = .returned (.tuple #[.int .i64 (t : Int), .bool b]) ∧ Cut c n l t t
theorem half_in {i j : Nat} (h : i < j) (hj : j ≤ 1000000) : i ≤ (i + j) / 2 ∧ (i + j) / 2 < j := by omega
set_option maxHeartbeats 1000000 in
theorem search_any (c : UInt32) (l : List UInt32) (hl : l.length ≤ 1000000) (v : Value) (n : UInt32) (hs : Strict c l) (hn : key c n ≤ 4000) (hk : ∀ x ∈ l, key c x ≤ 4000) (hni : n ∉ l) (w : World) (hv : RowE enc32 w v l) :
    Calls Try.prog 44 #[v, .int .u32 (n.toNat : Int), .func (.func 42) #[] #[]] w fun e w' => Sought c n l e ∧ w' = w := by
  obtain ⟨A, cap, rfl, hcap, hmax, hcells⟩ := hv
  have hlN : (l.length : Int) ≤ 1000000 := by omega
  have HC := Lib.hid hcells
  have HST := Lib.hid (cut_start c n l)
  have HPL := Lib.hid (fun (m : Nat) (h : m < l.length) (W : World) => show Calls Try.prog 42 #[.int .u32 (l[m]!.toNat : Int), .int .u32 (n.toNat : Int)] W fun e w' => e = .returned (.int .i64 ((key c l[m]! : Int) - (key c n : Int))) ∧ w' = W from by
    have h9 := placed_any l[m]! n W
    rw [dist_near (by rw [getElem!_pos l m h]; exact hk _ (List.getElem_mem h)) hn] at h9
    exact h9)
  have HNE := Lib.hid (fun (m : Nat) (h : m < l.length) => show key c l[m]! ≠ key c n from fun e => hni (by rw [← key_inj e, getElem!_pos l m h]; exact List.getElem_mem h))
  have HKL := Lib.hid (fun (m : Nat) (h : m < l.length) => show key c l[m]! ≤ 4000 from by rw [getElem!_pos l m h]; exact hk _ (List.getElem_mem h))
  have HSS := Lib.hid hs
  clear hcells hk hni hs
  go_enter Try.func44, Try.ntmps44
  go_wp2_with fail
  go_loopw [9, 10] (fun i j wr => ∃ a b : Nat, i = .int .i64 a ∧ j = .int .i64 b ∧ Hid (Cut c n l a b) ∧ Hid (wr = w))
    (fun i j _ => (intOf j).toNat - (intOf i).toNat)
  case atStart => exact ⟨0, l.length, rfl, rfl, HST.out, Lib.hid rfl⟩
  case round =>
    obtain ⟨a, b, rfl, rfl, HCU, HW⟩ := hrel
    have hwr := HW.out
    subst hwr
    have hle := HCU.out.le
    have hbl := HCU.out.len
    by_cases hlt : a < b
    · obtain ⟨p, q, rfl, hb, hc⟩ := HC.out (by omega)
      obtain ⟨h, hh⟩ : ∃ h, (a + b) / 2 = h := ⟨_, rfl⟩
      have hh2 := half_in hlt (by omega)
      rw [hh] at hh2
      have hck : wr.cell? ⟨p, q + h, none⟩ = some (.int .u32 (l[h]!.toNat : Int)) := hc h (by omega)
      have HCALL := Lib.hid (HPL.out h (by omega) wr)
      have hne := HNE.out h (by omega)
      have HUP := Lib.hid (HCU.out.up HSS.out hh2.1 hh2.2)
      have HDN := Lib.hid (HCU.out.down HSS.out hh2.1 hh2.2)
      have hhI : ((a : Int) + (b : Int)) / 2 = (h : Int) := by omega
      have hk4 := HKL.out h (by omega)
      clear hc hh
      generalize key c l[h]! = kx at *
      generalize key c n = kn at *
      generalize l[h]! = x at *
      obtain ⟨z, hz⟩ : ∃ z : Int, (kx : Int) - (kn : Int) = z := ⟨_, rfl⟩
      rw [hz] at HCALL
      by_cases hlo : kx < kn
      · have HCN := Lib.hid (HUP.out hlo)
        have g1 : decide (z < 0) = true := decide_eq_true (by omega)
        have g2 : z < 0 := by omega
        clear hz hne HUP HDN hlo hk4 hn
        go_wp2_with (go_at_call 42; (with_reducible refine HCALL.out.mono ?_); rintro e w5 ⟨rfl, rfl⟩)
        go_roundw
        case rel => exact ⟨h + 1, b, by go_num, rfl, HCN, by first | exact Lib.hid rfl | exact Lib.hid trivial⟩
        case measure => simp [intOf]; omega
      · have HCN := Lib.hid (HDN.out (by omega))
        have g1 : decide (z < 0) = false := decide_eq_false (by omega)
        have g2 : ¬ z < 0 := by omega
        clear hz hne HUP HDN hlo hk4 hn
        go_wp2_with (go_at_call 42; (with_reducible refine HCALL.out.mono ?_); rintro e w5 ⟨rfl, rfl⟩)
        go_roundw
        case rel => exact ⟨a, h, rfl, rfl, HCN, by first | exact Lib.hid rfl | exact Lib.hid trivial⟩
        case measure => simp [intOf]; omega
    · obtain rfl : a = b := by omega
      by_cases hll : a < l.length
      · obtain ⟨p, q, rfl, hb, hc⟩ := HC.out (by omega)
        have hck : wr.cell? ⟨p, q + a, none⟩ = some (.int .u32 (l[a]!.toNat : Int)) := hc a (by omega)
        have HCALL := Lib.hid (HPL.out a (by omega) wr)
        have q4 : (0 : Int) ≤ (a : Int) := by omega
        have q5 : (a : Int) < (l.length : Int) := by omega
        clear hc
        generalize (key c l[a]! : Int) - (key c n : Int) = z at *
        generalize l[a]! = x at *
        go_wp2_with (go_at_call 42; (with_reducible refine HCALL.out.mono ?_); rintro e w5 ⟨rfl, rfl⟩)
        go_ret2
        exact ⟨⟨a, _, rfl, HCU.out⟩, rfl⟩
      · have q5 : ¬ (a : Int) < (l.length : Int) := by omega
        go_wp2_with fail
        go_ret2
        exact ⟨⟨a, _, rfl, HCU.out⟩, rfl⟩
theorem place_any (c : UInt32) (ab du : List UInt32) (ha : ab.length ≤ 1000000) (hd : du.length ≤ 1000000) (va vd : Value) (w : World) (h1 : RowE enc32 w va ab) (h2 : RowE enc32 w vd du) (n : UInt32) (hr : RightG ⟨c, ab, du⟩) (hf : hasB ⟨c, ab, du⟩ n = false) (hn : key c n ≤ 4000) : Calls Try.prog 35 #[.agg #[.int .u32 (c.toNat : Int), va, vd], .int .u32 (n.toNat : Int)] w fun e w' => ∃ t : Nat, e = .returned (.int .i64 (t : Int)) ∧ Cut c n ab t t ∧ Below w.heap.size w w' := by
  obtain ⟨W, hW, HA, HB, hs⟩ := one_open w 25 #[.int .u32 (c.toNat : Int), va, vd]
  have HV := Lib.hid (h1.below HB.out)
  have HD := Lib.hid (h2.below HB.out)
  obtain ⟨A, k, rfl, -, -, hcells⟩ := id HV.out
  obtain ⟨A', k', rfl, -, -, -⟩ := id HD.out
  have c0 := HA.out.cell 0 (.int .u32 (c.toNat : Int)) rfl
  have c1 := HA.out.cell 1 (.slice A ab.length k) rfl
  have c2 := HA.out.cell 2 (.slice A' du.length k') rfl
  have HX := Lib.hid (search_any c ab ha _ n hr.strict hn (fun x hx => (hr.near x hx).2) (has_right hr hf).2 W HV.out)
  clear hr hf hn
  go_enter Try.func35, Try.ntmps35
  go_wp2_with (go_at_call 44; (with_reducible refine HX.out.mono ?_); rintro e w5 ⟨⟨t, b, rfl, hcu⟩, rfl⟩; have HCU := Lib.hid hcu; clear hcu)
  go_ret
  exact ⟨_, rfl, HCU.out, HB.out⟩
theorem cut_ins {c n : UInt32} {l : List UInt32} {t : Nat} (hs : Strict c l) (h : Cut c n l t t) : l.take t ++ n :: l.drop t = ins c n l := by
  refine ins_place hs h.len (fun x hx => ?_) (fun x hx => ?_)
  · obtain ⟨j, hj, rfl⟩ := List.getElem_of_mem hx
    have hj' : j < t := by simp at hj; omega
    have := h.lo j hj'
    rw [getElem!_pos l j (by have := h.len; omega)] at this
    simpa using this
  · obtain ⟨j, hj, rfl⟩ := List.getElem_of_mem hx
    have hj' : t + j < l.length := by simp at hj; omega
    have := h.hi (t + j) (by omega) hj'
    rw [getElem!_pos l (t + j) hj'] at this
    simpa using this
theorem add1_toNat (x : UInt32) : ((x.toNat : Int) + 1) % 4294967296 = ((x + 1).toNat : Int) := add_toNat32 x 1
def lenV : Value → Nat
  | .slice _ n _ => n
  | _ => 0
theorem rowE_tail {w : World} {b off cap : Nat} {x : UInt32} {t : List UInt32} (h : RowE enc32 w (.slice (some ⟨b, off, none⟩) (t.length + 1) cap) (x :: t)) : RowE enc32 w (.slice (if cap = 1 then some ⟨b, off, none⟩ else some ⟨b, off + 1, none⟩) t.length (cap - 1)) t := by
  obtain ⟨A, cap', hv, h1, h2, h3⟩ := h
  cases hv
  refine ⟨_, _, rfl, by simp at h1; omega, by omega, fun hl => ?_⟩
  rw [if_neg (by simp at h1; omega)]
  obtain ⟨b', off', e, hb, hc⟩ := h3 (by simp)
  cases e
  refine ⟨b, off + 1, rfl, hb, fun j hj => ?_⟩
  have := hc (j + 1) (by simp; omega)
  rw [show off + 1 + j = off + (j + 1) by omega, this]
  rfl
theorem freshE_tail {B b off n cap m c' : Nat} {k : Bool} (h : FreshE B (.slice (some ⟨b, off, none⟩) (n + 1) cap)) : FreshE B (.slice (if cap = 1 then some ⟨b, off, none⟩ else some ⟨b, off + 1, none⟩) m c') := fun a n' c e hn => by
  have := h _ _ _ rfl (by omega)
  injection e with e1
  split at e1 <;> (cases e1; exact this)
set_option maxHeartbeats 1000000 in
theorem follow_any (l : List UInt32) (hl : l.length ≤ 1000000) (v : Value) (n : UInt32) (w : World) (hv : RowE enc32 w v l) :
    Calls Try.prog 34 #[.int .u32 (n.toNat : Int), v] w fun e w' => ∃ v', e = .returned (.tuple #[.int .u32 ((follow n l).1.toNat : Int), v']) ∧ RowE enc32 w' v' (follow n l).2 ∧ (∀ B, FreshE B v → FreshE B v') ∧ (∀ W, RowE enc32 W v l → RowE enc32 W v' (follow n l).2) ∧ Below w.heap.size w w' := by
  have HV := Lib.hid hv
  obtain ⟨A, cap, rfl, hcap, hmax, hcells⟩ := hv
  have HF0 := Lib.hid (show ∀ B, FreshE B (.slice A l.length cap) → FreshE B (.slice A l.length cap) from fun B h => h)
  have HE0 := Lib.hid (show ∀ W, RowE enc32 W (.slice A l.length cap) l → RowE enc32 W (.slice A l.length cap) l from fun W h => h)
  clear hcells
  obtain ⟨R, hR⟩ : ∃ R, follow n l = R := ⟨_, rfl⟩
  rw [hR]
  have HR := Lib.hid hR
  clear hR
  go_enter Try.func34, Try.ntmps34
  go_wp2_with fail
  go_loopw [0, 1] (fun i s wr => ∃ (m : UInt32) (r : List UInt32) (A' : Option Addr) (cap' : Nat), i = .int .u32 (m.toNat : Int) ∧ s = .slice A' r.length cap' ∧ r.length ≤ 1000000 ∧ Hid (RowE enc32 wr (.slice A' r.length cap') r) ∧ Hid (follow m r = R) ∧ Hid (∀ B, FreshE B (.slice A l.length cap) → FreshE B (.slice A' r.length cap')) ∧ Hid (∀ W, RowE enc32 W (.slice A l.length cap) l → RowE enc32 W (.slice A' r.length cap') r) ∧ Hid (Below w.heap.size w wr))
    (fun _ s _ => lenV s)
  case atStart => exact ⟨n, l, A, cap, rfl, rfl, hl, HV.out, HR.out, HF0.out, HE0.out, Below.refl _ _⟩
  case round =>
    clear HR HF0 HV HE0
    obtain ⟨m, r, A', cap', rfl, rfl, hr, HV, HR, HF, HE, HW⟩ := hrel
    cases r with
    | nil =>
      go_wp2_with fail
      go_ret2
      exact ⟨_, by rw [← HR.out]; rfl, by rw [← HR.out]; exact HV.out, HF.out, by rw [← HR.out]; exact HE.out, HW.out⟩
    | cons x t =>
      obtain ⟨A9, c9, hv9, hc9, hm9, hcell⟩ := id HV.out
      cases hv9
      obtain ⟨b, off, rfl, hb, hc⟩ := hcell (by simp)
      have hck : wr.cell? ⟨b, off, none⟩ = some (.int .u32 (x.toNat : Int)) := by have := hc 0 (by simp); simpa [enc32] using this
      have hS := add1_toNat m
      simp only [List.length_cons] at hr hc9 ⊢
      have q1 : (t.length : Int) + 1 ≤ 1000000 := by omega
      have q2 : (1 : Int) ≤ (cap' : Int) := by omega
      have q3 : (cap' : Int) ≤ 9223372036854775807 := by unfold maxLen at hm9; omega
      have HV2 := Lib.hid (rowE_tail HV.out)
      have HE2 := Lib.hid (fun W h => rowE_tail (HE.out W h))
      have HF2 := Lib.hid (fun B h => freshE_tail (m := t.length) (c' := cap' - 1) (k := true) (HF.out B h))
      have H9 := Lib.hid (And.intro hr hc9)
      clear hc hcell hr hc9 hm9
      by_cases he : x = m + 1
      · have HR2 : Hid (follow x t = R) := Lib.hid (by rw [← HR.out, follow, if_pos he])
        have g1 : ((x.toNat : Int) == ((m + 1).toNat : Int)) = true := by rw [he]; simp
        clear he
        generalize (m + 1).toNat = m1 at *
        by_cases hc1 : cap' = 1
        · rw [if_pos hc1] at HV2 HF2 HE2
          subst hc1
          obtain rfl : t = [] := List.eq_nil_of_length_eq_zero (by have := H9.out; omega)
          go_wp2_with fail
          go_quiet (fail)
          go_wp2_with fail
          go_roundw
          case rel => exact ⟨x, [], _, _, rfl, rfl, by simp, Lib.hid HV2.out, HR2, Lib.hid HF2.out, Lib.hid HE2.out, by first | exact HW | exact Lib.hid (below_drawn HW.out) | exact Lib.hid (below_drawnN HW.out _)⟩
          case measure => simp [lenV]
        · rw [if_neg hc1] at HV2 HF2 HE2
          go_wp2_with fail
          go_quiet (fail)
          go_wp2_with fail
          go_roundw
          case rel => exact ⟨x, t, _, _, rfl, by (try simp [hc1]), by have := H9.out; omega, Lib.hid HV2.out, HR2, Lib.hid HF2.out, Lib.hid HE2.out, by first | exact HW | exact Lib.hid (below_drawn HW.out) | exact Lib.hid (below_drawnN HW.out _)⟩
          case measure => simp [lenV]
      · have g1 : ((x.toNat : Int) == ((m + 1).toNat : Int)) = false := by rw [beq_eq_false_iff_ne]; exact fun h => he (UInt32.toNat_inj.1 (by omega))
        have HR2 : Hid ((m, x :: t) = R) := Lib.hid (by rw [← HR.out, follow, if_neg he])
        clear he
        generalize (m + 1).toNat = m1 at *
        go_wp2_with fail
        go_ret2
        exact ⟨_, by rw [← HR2.out]; rfl, by rw [← HR2.out]; exact HV.out, HF.out, by rw [← HR2.out]; exact HE.out, HW.out⟩
end Go.Proofs.Ytfdnphkdpmlbnaa
