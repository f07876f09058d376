/-
  The chapter's examples, and which of n things is spoken of: contracts.
-/
import Derived.Test.YtpihgnpbaaagpaaPaM
import Derived.Test.YtpihgnpbaaagpaaPaG
namespace Go.Proofs.Ytpihgnpbaaagpaa
open Go.RowKit
set_option linter.unusedVariables false
set_option linter.unusedSimpArgs false
set_option maxRecDepth 100000

def L3 : List ByteArray := [⟨#[97, 97, 97, 97]⟩, ⟨#[98, 98, 98, 98]⟩, ⟨#[99, 99, 99, 99]⟩]
/-- The paths of three addresses. -/
def p3 : Ps := ⟨newL L3 60000, 0, 0⟩
theorem bad3 : badB L3 = false := by kernel_rfl
theorem dup3 : dupB L3 = false := by kernel_rfl
theorem new3 (v : Value) (w : World) (hv : RowE encS w v L3) : Calls Try.prog 10 #[v, .int .i64 60000] w fun e w' => ∃ v', e = .returned (.tuple #[.agg #[v', .int .i64 0, .int .i64 0], .int .i64 0]) ∧ RowP w' v' p3.l ∧ Below w.heap.size w w' ∧ Fresh w.heap.size v' :=
  new_row L3 (by decide) (by decide) bad3 60000 v w hv
    (Lib.hid fun W h => by have h1 := are_any L3 (by decide) (by decide +kernel) v W h; rw [bad3] at h1; exact h1)
    (Lib.hid fun W h => by have h1 := twice_any L3 (by decide) v W h; rw [dup3] at h1; exact h1)
theorem row3 (w : World) : RowE encS (w.alloc (.cells #[.string ⟨#[97, 97, 97, 97]⟩, .string ⟨#[98, 98, 98, 98]⟩, .string ⟨#[99, 99, 99, 99]⟩] 9)) (.slice (some ⟨w.heap.size, 0, none⟩) 3 3) L3 := by
  have hb := Bx.fresh w 9 #[.string ⟨#[97, 97, 97, 97]⟩, .string ⟨#[98, 98, 98, 98]⟩, .string ⟨#[99, 99, 99, 99]⟩]
  refine ⟨_, 3, rfl, by decide, by decide, fun _ => ⟨w.heap.size, 0, rfl, hb.lt, fun j hj => ?_⟩⟩
  have hj' : j < 3 := hj
  rw [Nat.zero_add, hb.at]
  rcases (by omega : j = 0 ∨ j = 1 ∨ j = 2) with rfl | rfl | rfl <;> rfl
def pickI (c n : Int) : Int := (if c < 0 then -(c + 1) else c) % n
theorem pickI_le {c n : Int} (h : 0 < n) : 0 ≤ pickI c n ∧ pickI c n < n := ⟨Int.emod_nonneg _ (by omega), Int.emod_lt_of_pos _ h⟩
theorem pick_any (c n : Int) (hc : Fits c) (h : 0 < n) (h' : n ≤ 100) (w : World) : Calls Try.prog 28 #[.int .i64 c, .int .i64 n] w fun e w' => e = .returned (.int .i64 (pickI c n)) ∧ w' = w := by
  have h1 := pickI_le (c := c) h
  obtain ⟨h2, h3⟩ := hc
  have hn0 : n ≠ 0 := by omega
  by_cases hneg : c < 0
  · have HT := Lib.hid (show pickI c n = (-(c + 1)) % n by unfold pickI; rw [if_pos hneg])
    have e1 : Int.tmod (-(c + 1)) n = (-(c + 1)) % n := Int.tmod_eq_emod_of_nonneg (by omega)
    rw [HT.out] at h1
    generalize (-(c + 1)) % n = q at *
    generalize pickI c n = r at *
    have e2 : wrap64 q = q := by unfold wrap64; omega
    go_enter Try.func28, Try.ntmps28
    go_wp2_with fail
    go_ret
    exact ⟨ret_i64 (by rw [HT.out]), rfl⟩
  · have HT := Lib.hid (show pickI c n = c % n by unfold pickI; rw [if_neg hneg])
    have e1 : Int.tmod c n = c % n := Int.tmod_eq_emod_of_nonneg (by omega)
    rw [HT.out] at h1
    generalize c % n = q at *
    generalize pickI c n = r at *
    have e2 : wrap64 q = q := by unfold wrap64; omega
    go_enter Try.func28, Try.ntmps28
    go_wp2_with fail
    go_ret
    exact ⟨ret_i64 (by rw [HT.out]), rfl⟩
theorem c3a : chooseP p3 (-1) = 0 := by kernel_rfl
theorem c3b : chooseP p3 0 = 0 := by kernel_rfl
def q3 : Ps := ackP (beatP p3 1 7 100) 1 7 300
theorem b3a : beatP p3 1 7 100 = ⟨(beatP p3 1 7 100).l, 0, 0⟩ := by kernel_rfl
theorem q3a : ackB (beatP p3 1 7 100) 1 7 300 = true := by kernel_rfl
theorem q3b : q3 = ⟨q3.l, 0, 0⟩ := by kernel_rfl
theorem q3c : q3.l.length = 3 := by kernel_rfl
theorem q3d : (q3.l.getD 1 zeroPa).st = 2 := by kernel_rfl
theorem q3e : chooseP q3 0 = 1 := by kernel_rfl
theorem l3a : p3.l.length = 3 := by kernel_rfl
theorem l3b : (beatP p3 1 7 100).l.length = 3 := by kernel_rfl
set_option maxHeartbeats 4000000 in
theorem shown_any (w : World) : Calls Try.prog 8 #[] w fun e w' => e = .returned (.bool true) ∧ Below w.heap.size w w' := by
  have HR := Lib.hid (row3 w)
  have HB := Lib.hid ((Below.refl w.heap.size w).alloc (Nat.le_refl _) (.cells #[.string ⟨#[97, 97, 97, 97]⟩, .string ⟨#[98, 98, 98, 98]⟩, .string ⟨#[99, 99, 99, 99]⟩] 9))
  have HCA : Hid (∀ (v : Value) (W : World), RowP W v p3.l → Calls Try.prog 26 #[.agg #[v, .int .i64 0, .int .i64 0], .int .i64 (-1)] W fun e W' => e = .returned (.int .i64 0) ∧ Below W.heap.size W W') := Lib.hid fun v W h => by have h1 := choose_any p3.l (by rw [l3a]; decide) v 0 0 (-1) W h; rw [show chooseP ⟨p3.l, 0, 0⟩ (-1) = 0 from c3a] at h1; exact h1
  have HCB : Hid (∀ (v : Value) (W : World), RowP W v p3.l → Calls Try.prog 26 #[.agg #[v, .int .i64 0, .int .i64 0], .int .i64 0] W fun e W' => e = .returned (.int .i64 0) ∧ Below W.heap.size W W') := Lib.hid fun v W h => by have h1 := choose_any p3.l (by rw [l3a]; decide) v 0 0 0 W h; rw [show chooseP ⟨p3.l, 0, 0⟩ 0 = 0 from c3b] at h1; exact h1
  have HBE : Hid (∀ (v : Value) (W : World), RowP W v p3.l → Calls Try.prog 22 #[.agg #[v, .int .i64 0, .int .i64 0], .int .i64 1, .int .u32 7, .int .i64 100] W fun e W' => ∃ v', e = .returned (.agg #[v', .int .i64 0, .int .i64 0]) ∧ RowP W' v' (beatP p3 1 7 100).l ∧ Below W.heap.size W W') := Lib.hid fun v W h => (beat_any p3.l (by rw [l3a]; decide) v 0 0 1 7 100 W h).mono fun e W' ⟨v', h1, h2, h3, _⟩ => ⟨v', by rw [h1]; exact congrArg (fun p : Ps => Ending.returned (.agg #[v', .int .i64 p.pr, .int .i64 p.al])) b3a, h2, h3⟩
  have HAC : Hid (∀ (v : Value) (W : World), RowP W v (beatP p3 1 7 100).l → Calls Try.prog 16 #[.agg #[v, .int .i64 0, .int .i64 0], .int .i64 1, .int .u32 7, .int .i64 300] W fun e W' => ∃ v', e = .returned (.tuple #[.agg #[v', .int .i64 0, .int .i64 0], .bool true]) ∧ RowP W' v' q3.l ∧ Below W.heap.size W W') := Lib.hid fun v W h => (ack_any (beatP p3 1 7 100).l (by rw [l3b]; decide) v 0 0 1 7 300 W h).mono fun e W' ⟨v', h1, h2, h3, _⟩ => by
    have e0 : (⟨(beatP p3 1 7 100).l, 0, 0⟩ : Ps) = beatP p3 1 7 100 := b3a.symm
    rw [e0, q3a] at h1
    rw [e0] at h2
    have e1 : ackP (beatP p3 1 7 100) 1 7 300 = q3 := rfl
    rw [e1] at h1 h2
    rw [q3b] at h1
    exact ⟨v', h1, h2, h3⟩
  have HCC : Hid (∀ (v : Value) (W : World), RowP W v q3.l → Calls Try.prog 26 #[.agg #[v, .int .i64 0, .int .i64 0], .int .i64 0] W fun e W' => e = .returned (.int .i64 1) ∧ Below W.heap.size W W') := Lib.hid fun v W h => by have h1 := choose_any q3.l (by rw [q3c]; decide) v 0 0 0 W h; rw [show (⟨q3.l, 0, 0⟩ : Ps) = q3 from q3b.symm, q3e] at h1; exact h1
  go_enter Try.func8, Try.ntmps8
  go_wp2_with fail
  refine (new3 _ _ HR.out).mono ?_
  rintro e w1 ⟨v1, rfl, hr1, hb, _⟩
  have HR1 := Lib.hid hr1
  replace HB := Lib.hid (HB.out.trans (hb.mono (by rw [World.size_alloc]; omega)))
  have hw1 := HB.out.size
  clear hr1 hb HR
  obtain ⟨W3, hW3, HP, HB3, hs3⟩ := one_open w1 27 #[.slice none 0 0, .int .i64 0, .int .i64 0]
  obtain ⟨A1, k1, hv1, _, _, _⟩ := id HR1.out
  rw [l3a] at hv1
  subst hv1
  have CS : Hid (∀ W : World, Bx W w1.heap.size 27 #[.slice A1 3 k1, .int .i64 0, .int .i64 0] → (W.cell? ⟨w1.heap.size, 0, none⟩ = some (.slice A1 3 k1) ∧ W.cell? ⟨w1.heap.size, 1, none⟩ = some (.int .i64 0) ∧ W.cell? ⟨w1.heap.size, 2, none⟩ = some (.int .i64 0))) := Lib.hid fun W h => ⟨h.cell 0 _ rfl, h.cell 1 _ rfl, h.cell 2 _ rfl⟩
  go_wp2_with (first
    | ((with_reducible refine gate9 ?_); refine stB #[.slice A1 3 k1, .int .i64 0, .int .i64 0] rfl rfl rfl rfl HP.out infoPs rfl (cells3_one _ _ _ _ _) ?_; intro w2 ht hg; replace HB3 := Lib.hid (below_of_grown1 HB3.out hg HB3.out.size (Nat.le_refl _)); replace HP := Lib.hid ht; clear ht hg; have cc := CS.out _ HP.out)
    | (go_at_call 26; (with_reducible refine (HCA.out _ _ (HR1.out.below HB3.out)).mono ?_); rintro e w2 ⟨rfl, hb⟩; clear cc; replace HP := Lib.hid (HP.out.later hb); replace HB3 := Lib.hid (HB3.out.trans (hb.mono HB3.out.size)); clear hb; have cc := CS.out _ HP.out)
    | (go_at_call 26; (with_reducible refine (HCB.out _ _ (HR1.out.below HB3.out)).mono ?_); rintro e w2 ⟨rfl, hb⟩; clear cc; replace HP := Lib.hid (HP.out.later hb); replace HB3 := Lib.hid (HB3.out.trans (hb.mono HB3.out.size)); clear hb; have cc := CS.out _ HP.out)
    | ((with_reducible refine gate9 ?_); refine ldB rfl rfl rfl HP.out Try.underlying27 rfl infoPs ?_))
  refine (HBE.out _ _ (HR1.out.below HB3.out)).mono ?_
  rintro e w4 ⟨v4, rfl, hr4, hb⟩
  have HR4 := Lib.hid hr4
  replace HB := Lib.hid ((HB.out.trans (HB3.out.mono hw1)).trans (hb.mono (by have := HB3.out.size; omega)))
  clear hr4 hb cc HP HB3 HR1 CS
  go_wp2_with fail
  refine (HAC.out _ _ HR4.out).mono ?_
  rintro e w5 ⟨v5, rfl, hr5, hb⟩
  have HR5 := Lib.hid hr5
  replace HB := Lib.hid (HB.out.trans (hb.mono HB.out.size))
  have hw5 := HB.out.size
  clear hr5 hb HR4
  obtain ⟨W6, hW6, HQ, HB6, hs6⟩ := one_open w5 27 #[.slice none 0 0, .int .i64 0, .int .i64 0]
  obtain ⟨A5, k5, hv5, _, _, hc5⟩ := id HR5.out
  rw [q3c] at hv5
  subst hv5
  obtain ⟨b, off, rfl, hb5, hc⟩ := hc5 (by rw [q3c]; decide)
  have hst : (q3.l[1]'(by rw [q3c]; decide)).st = 2 := by have h := q3d; rw [List.getD_eq_getElem?_getD, List.getElem?_eq_getElem (by rw [q3c]; decide)] at h; exact h
  have hd0 : w5.cell? ⟨b, off + 14 + 1, none⟩ = some (.int .i64 2) := by have h := hc 1 (by rw [q3c]; decide) 1 _ rfl; rw [hst] at h; exact h
  have CS : Hid (∀ W : World, Bx W w5.heap.size 27 #[.slice (some ⟨b, off, none⟩) 3 k5, .int .i64 0, .int .i64 0] → Below w5.heap.size w5 W → ((W.cell? ⟨w5.heap.size, 0, none⟩ = some (.slice (some ⟨b, off, none⟩) 3 k5) ∧ W.cell? ⟨w5.heap.size, 1, none⟩ = some (.int .i64 0) ∧ W.cell? ⟨w5.heap.size, 2, none⟩ = some (.int .i64 0)) ∧ W.cell? ⟨b, off + 14 + 1, none⟩ = some (.int .i64 2))) := Lib.hid fun W h h' => ⟨⟨h.cell 0 _ rfl, h.cell 1 _ rfl, h.cell 2 _ rfl⟩, (h'.cell (p := ⟨b, off + 14 + 1, none⟩) hb5).trans hd0⟩
  clear hc5 hc hst hd0
  go_wp2_with (first
    | ((with_reducible refine gate9 ?_); refine stB #[.slice (some ⟨b, off, none⟩) 3 k5, .int .i64 0, .int .i64 0] rfl rfl rfl rfl HQ.out infoPs rfl (cells3_one _ _ _ _ _) ?_; intro w7 ht hg; replace HB6 := Lib.hid (below_of_grown1 HB6.out hg HB6.out.size (Nat.le_refl _)); replace HQ := Lib.hid ht; clear ht hg; have cc := CS.out _ HQ.out HB6.out)
    | (go_at_call 26; (with_reducible refine (HCC.out _ _ (HR5.out.below HB6.out)).mono ?_); rintro e w8 ⟨rfl, hb⟩; clear cc; replace HB6 := Lib.hid (HB6.out.trans (hb.mono HB6.out.size)); clear hb))
  go_ret
  exact ⟨rfl, HB.out.trans (HB6.out.mono hw5)⟩
end Go.Proofs.Ytpihgnpbaaagpaa
