/-
  Package sent: whether what is told may be told, and a piece that is told newly: contracts.
-/
import Derived.Test.YtpgdofhnpiefjaaSg
import Derived.Test.YtpgdofhnpiefjaaWhere8
namespace Go.Proofs.Ytpgdofhnpiefjaa
open Go.RowKit
set_option linter.unusedVariables false
set_option linter.unusedSimpArgs false
set_option maxRecDepth 100000

theorem dist_nat (c n : UInt32) : dist c n = (4294967296 - c.toNat + n.toNat) % 4294967296 := by unfold dist; rw [UInt32.toNat_sub]
theorem up_dist (c n : UInt32) : up32 (n.toNat : Int) (c.toNat : Int) = (dist c n : Int) := by
  rw [dist_nat]
  unfold up32
  have := c.toNat_lt; have := n.toNat_lt
  omega
theorem dist_add (c : UInt32) {n : Nat} (h : n < 4294967296) : dist c (c + UInt32.ofNat n) = n := by
  rw [dist_nat, UInt32.toNat_add, UInt32.toNat_ofNat']
  have := c.toNat_lt
  omega
theorem dist_left (c cum : UInt32) {n : Nat} (hn : n ≤ 1000) (hk : dist c cum ≤ n) : dist32 (cum.toNat : Int) ((c + UInt32.ofNat n).toNat : Int) = ((n - dist c cum : Nat) : Int) := by
  rw [dist_nat] at *
  rw [UInt32.toNat_add, UInt32.toNat_ofNat']
  unfold dist32
  have := c.toNat_lt; have := cum.toNat_lt
  omega
theorem next_back (c : UInt32) (n : Nat) : (((c + UInt32.ofNat n + 1).toNat : Int) - 1) % 4294967296 = ((c + UInt32.ofNat n).toNat : Int) := by
  rw [sub1]
  congr 2
  rw [UInt32.add_sub_cancel]
set_option maxHeartbeats 1000000 in
theorem may_any (c cum : UInt32) (l : List Pc) (gs : List (Nat × Nat)) (hl : l.length ≤ 64) (hg : gs.length ≤ 1000) (hsm : SmallG gs) (v vg : Value) (w : World) (h : RowP w v l) (hvg : RowGp w vg gs) :
    Calls Try.prog 18 #[.agg #[.int .u32 (c.toNat : Int), v], .int .u32 (cum.toNat : Int), vg] w fun e w' => e = .returned (.bool (mayB c l cum gs)) ∧ Below w.heap.size w w' := by
  obtain ⟨W, hW, HA, HB, hs⟩ := one_open w 27 #[.int .u32 (c.toNat : Int), v]
  have HR := Lib.hid (h.below HB.out)
  have HG := Lib.hid (hvg.below HB.out)
  obtain ⟨A, cap, rfl, _, hmx, _⟩ := id h
  obtain ⟨A', cap', rfl, _, hmx', _⟩ := id hvg
  have c0 := HA.out.cell 0 (.int .u32 (c.toNat : Int)) rfl
  have c1 := HA.out.cell 1 (.slice A l.length cap) rfl
  have HNX := Lib.hid (fun W => next_any c A l.length cap (by omega) W)
  obtain ⟨R, hR⟩ : ∃ R, mayB c l cum gs = R := ⟨_, rfl⟩
  rw [hR]
  have HRR := Lib.hid hR
  have hnb := next_back c l.length
  have hlt := (c + UInt32.ofNat l.length).toNat_lt
  have hlt1 := (c + UInt32.ofNat l.length + 1).toNat_lt
  have hltc := c.toNat_lt
  have hltm := cum.toNat_lt
  have hup : up32 ((c + UInt32.ofNat l.length).toNat : Int) (c.toNat : Int) = (l.length : Int) := by rw [up_dist, dist_add c (by omega)]
  have HWI := Lib.hid (fun W => within_any (cum.toNat : Int) (c.toNat : Int) ((c + UInt32.ofNat l.length).toNat : Int) (by omega) (by omega) (by omega) (by omega) (by omega) (by omega) W)
  have HDI := Lib.hid (fun W => dist_any (cum.toNat : Int) ((c + UInt32.ofNat l.length).toNat : Int) (by omega) (by omega) (by omega) (by omega) W)
  have q0 : ¬ (64 : Int) < (l.length : Int) := by omega
  clear h hvg hR
  by_cases hk : dist c cum ≤ l.length
  · have hwi : within32 (cum.toNat : Int) (c.toNat : Int) ((c + UInt32.ofNat l.length).toNat : Int) = true := by unfold within32; rw [hup, up_dist]; exact decide_eq_true (by omega)
    have hdi := dist_left c cum (n := l.length) (by omega) hk
    rw [hwi] at HWI
    rw [hdi] at HDI
    have HE : Hid (R = !gs.any (badG (l.length - dist c cum))) := Lib.hid (by rw [← HRR.out]; unfold mayB; rw [decide_eq_true hk, Bool.true_and])
    obtain ⟨left, hlf⟩ : ∃ left, l.length - dist c cum = left := ⟨_, rfl⟩
    rw [hlf] at HE HDI
    have HC := Lib.hid (fun g v W h hg' => containsG_any gs hg hsm left g v W h hg')
    clear hk hwi hdi hup hlf hlt hlt1 hltc hltm
    generalize (c + UInt32.ofNat l.length + 1).toNat = n1 at *
    generalize (c + UInt32.ofNat l.length).toNat = n2 at *
    generalize c.toNat = n3 at *
    generalize cum.toNat = n4 at *
    generalize gs.any (badG left) = r at *
    go_enter Try.func18, Try.ntmps18
    go_wp2_with (first
      | ((with_reducible refine gate9 ?_); refine ldB rfl rfl rfl HA.out Try.underlying27 rfl infoS ?_)
      | (go_at_call 15; (with_reducible refine (HNX.out _).mono ?_); rintro e w1 ⟨rfl, hb5⟩; replace HA := Lib.hid (HA.out.later hb5); replace HB := Lib.hid (HB.out.trans (hb5.mono HB.out.size)); replace HG := Lib.hid (HG.out.below hb5); have hs5 := hb5.size; clear hb5 c0 c1; have c0 := HA.out.cell 0 (.int .u32 (n3 : Int)) rfl; have c1 := HA.out.cell 1 (.slice A l.length cap) rfl)
      | (go_at_call 28; (with_reducible refine (HWI.out _).mono ?_); rintro e w2 ⟨rfl, rfl⟩)
      | (go_at_call 20; (with_reducible refine (HDI.out _).mono ?_); rintro e w3 ⟨rfl, rfl⟩; obtain ⟨W3, hW3, HT, HB3, hs3⟩ := one_open w1 3 #[.int .i64 (left : Int)]; replace HG := Lib.hid (HG.out.below HB3.out))
      | (go_at_call 29; (with_reducible refine (HC.out _ _ _ HG.out HT.out).mono ?_); rintro e w4 ⟨rfl, hb5⟩; replace HB := Lib.hid (HB.out.trans ((HB3.out.trans (hb5.mono HB3.out.size)).mono HB.out.size)); clear hb5))
    go_ret
    exact ⟨ret_bool (by rw [HE.out]), HB.out⟩
  · have hwi : within32 (cum.toNat : Int) (c.toNat : Int) ((c + UInt32.ofNat l.length).toNat : Int) = false := by unfold within32; rw [hup, up_dist]; exact decide_eq_false (by omega)
    rw [hwi] at HWI
    have HE : Hid (R = false) := Lib.hid (by rw [← HRR.out]; unfold mayB; rw [decide_eq_false hk, Bool.false_and])
    clear hk hwi hup hlt hlt1 hltc hltm
    generalize (c + UInt32.ofNat l.length + 1).toNat = n1 at *
    generalize (c + UInt32.ofNat l.length).toNat = n2 at *
    generalize c.toNat = n3 at *
    generalize cum.toNat = n4 at *
    go_enter Try.func18, Try.ntmps18
    go_wp2_with (first
      | ((with_reducible refine gate9 ?_); refine ldB rfl rfl rfl HA.out Try.underlying27 rfl infoS ?_)
      | (go_at_call 15; (with_reducible refine (HNX.out _).mono ?_); rintro e w1 ⟨rfl, hb5⟩; replace HA := Lib.hid (HA.out.later hb5); replace HB := Lib.hid (HB.out.trans (hb5.mono HB.out.size)); clear hb5 c0 c1; have c0 := HA.out.cell 0 (.int .u32 (n3 : Int)) rfl; have c1 := HA.out.cell 1 (.slice A l.length cap) rfl)
      | (go_at_call 28; (with_reducible refine (HWI.out _).mono ?_); rintro e w2 ⟨rfl, rfl⟩))
    go_ret
    exact ⟨ret_bool (by rw [HE.out]), HB.out⟩
end Go.Proofs.Ytpgdofhnpiefjaa
