/-
  Package window: New, May, Slow, Acked, Lost, Timeout, Idle: contracts.
-/
import Derived.Test.YtpihgnpbaaagpaaWnA
import Derived.Test.YtpihgnpbaaagpaaWaits
namespace Go.Proofs.Ytpihgnpbaaagpaa.Wi
open Go.RowKit
set_option linter.unusedVariables false
set_option maxRecDepth 100000
set_option linter.unusedSimpArgs false

theorem new_any (n : Int) (w : World) : Calls Try.prog 62 #[.int .i64 n] w fun e w' => e = .returned (.agg (cellsT (newT n))) ∧ Below w.heap.size w w' := by
  have HS := Lib.hid (fun W => kept_any n W)
  have HT := Lib.hid (show newT n = ⟨4500, keptI n, 0⟩ from rfl)
  generalize newT n = R at *
  generalize keptI n = k at *
  go_enter Try.func62, Try.ntmps62
  go_wp2_with (go_at_call 79; refine (HS.out _).mono ?_; rintro e w1 ⟨rfl, rfl⟩)
  exact bodyPost_ret (retW (t := ⟨4500, k, 0⟩) rfl rfl (Bx.fresh w 45 _)) rfl ⟨by rw [HT.out], (Below.refl _ _).alloc (Nat.le_refl _) _⟩
theorem restarted_any (t : Wn) (ht : Inb t) (w : World) : Calls Try.prog 74 #[.agg (cellsT t)] w fun e w' => e = .returned (.agg (cellsT (restartedT t))) ∧ Below w.heap.size w w' := by
  have HH := Lib.hid (fun W => half_any t ht W)
  have HT := Lib.hid (show restartedT t = ⟨1500, halfI t, 0⟩ from rfl)
  generalize restartedT t = R at *
  generalize halfI t = h at *
  clear ht
  have HA : Hid (Bx ((w.alloc (.cells (cellsT t) 45)).alloc (.cells #[.int .i64 0, .int .i64 0, .int .i64 0] 45)) w.heap.size 45 (cellsT t)) := Lib.hid ((Bx.fresh w 45 (cellsT t)).old _)
  have HZ : Hid (Bx ((w.alloc (.cells (cellsT t) 45)).alloc (.cells #[.int .i64 0, .int .i64 0, .int .i64 0] 45)) (w.heap.size + 1) 45 (cellsT zeroT)) := Lib.hid (heap_two w _ _)
  have HB : Hid (Below w.heap.size w ((w.alloc (.cells (cellsT t) 45)).alloc (.cells #[.int .i64 0, .int .i64 0, .int .i64 0] 45))) := Lib.hid (below_two w _ _)
  go_enter Try.func74, Try.ntmps74
  go_wp2_with (first
    | (refine gate9 ?_; refine ldW (.tmp 1) w.heap.size rfl rfl rfl HA.out ?_)
    | (go_at_call 82; (with_reducible refine (HH.out _).mono ?_); rintro e w1 ⟨rfl, hb⟩; replace HA := Lib.hid (HA.out.later hb); replace HZ := Lib.hid (HZ.out.later hb); have hz := hb.size; replace HB := Lib.hid (HB.out.trans (hb.mono HB.out.size)); clear hb hz)
    | (refine gate9 ?_; refine stW (.tmp 2) (.tmp 5) (w.heap.size + 1) (⟨1500, h, 0⟩) rfl rfl rfl rfl HZ.out ?_; intro w2 ht hg; replace HA := Lib.hid (HA.out.kept hg (by omega)); replace HB := Lib.hid (below_of_grown1 HB.out hg HB.out.size (by omega)); replace HZ := Lib.hid ht; clear ht hg))
  exact bodyPost_ret (retW rfl rfl HZ.out) rfl ⟨by rw [HT.out], HB.out⟩
theorem after_restarted (t u : Wn) (hk : ∀ W, Calls Try.prog 74 #[.agg (cellsT (heldT t))] W fun e W' => e = .returned (.agg (cellsT u)) ∧ Below W.heap.size W W') (w : World) : Calls Try.prog 73 #[.func (.func 74) #[] #[], .agg (cellsT t)] w fun e w' => e = .returned (.agg (cellsT u)) ∧ Below w.heap.size w w' := by
  have HH := Lib.hid (fun W => held_any t W)
  have HK := Lib.hid hk
  clear hk
  generalize heldT t = h at *
  have HA : Hid (Bx ((w.alloc (.cells (cellsT t) 45)).alloc (.cells #[.int .i64 0, .int .i64 0, .int .i64 0] 45)) w.heap.size 45 (cellsT t)) := Lib.hid ((Bx.fresh w 45 (cellsT t)).old _)
  have HZ : Hid (Bx ((w.alloc (.cells (cellsT t) 45)).alloc (.cells #[.int .i64 0, .int .i64 0, .int .i64 0] 45)) (w.heap.size + 1) 45 (cellsT zeroT)) := Lib.hid (heap_two w _ _)
  have HB : Hid (Below w.heap.size w ((w.alloc (.cells (cellsT t) 45)).alloc (.cells #[.int .i64 0, .int .i64 0, .int .i64 0] 45))) := Lib.hid (below_two w _ _)
  go_enter Try.func73, Try.ntmps73
  go_wp2_with (first
    | (refine gate9 ?_; refine ldW (.tmp 3) w.heap.size rfl rfl rfl HA.out ?_)
    | (go_at_call 81; (with_reducible refine (HH.out _).mono ?_); rintro e w1 ⟨rfl, hb⟩; replace HA := Lib.hid (HA.out.later hb); replace HZ := Lib.hid (HZ.out.later hb); have hz := hb.size; replace HB := Lib.hid (HB.out.trans (hb.mono HB.out.size)); clear hb hz)
    | (go_at_call 74; (with_reducible refine (HK.out _).mono ?_); rintro e w1 ⟨rfl, hb⟩; replace HA := Lib.hid (HA.out.later hb); replace HZ := Lib.hid (HZ.out.later hb); have hz := hb.size; replace HB := Lib.hid (HB.out.trans (hb.mono HB.out.size)); clear hb hz)
    | (refine gate9 ?_; refine stW (.tmp 4) (.tmp 8) (w.heap.size + 1) (u) rfl rfl rfl rfl HZ.out ?_; intro w2 ht hg; replace HA := Lib.hid (HA.out.kept hg (by omega)); replace HB := Lib.hid (below_of_grown1 HB.out hg HB.out.size (by omega)); replace HZ := Lib.hid ht; clear ht hg))
  exact bodyPost_ret (retW rfl rfl HZ.out) rfl ⟨rfl, HB.out⟩
theorem timeout_any (t : Wn) (w : World) : Calls Try.prog 47 #[.agg (cellsT t)] w fun e w' => e = .returned (.agg (cellsT (restartedT (heldT t)))) ∧ Below w.heap.size w w' := by
  have HX := Lib.hid (fun W => after_restarted t (restartedT (heldT t)) (fun W => restarted_any (heldT t) (held_inb t) W) W)
  generalize restartedT (heldT t) = u at *
  have HA : Hid (Bx ((w.alloc (.cells (cellsT t) 45)).alloc (.cells #[.int .i64 0, .int .i64 0, .int .i64 0] 45)) w.heap.size 45 (cellsT t)) := Lib.hid ((Bx.fresh w 45 (cellsT t)).old _)
  have HZ : Hid (Bx ((w.alloc (.cells (cellsT t) 45)).alloc (.cells #[.int .i64 0, .int .i64 0, .int .i64 0] 45)) (w.heap.size + 1) 45 (cellsT zeroT)) := Lib.hid (heap_two w _ _)
  have HB : Hid (Below w.heap.size w ((w.alloc (.cells (cellsT t) 45)).alloc (.cells #[.int .i64 0, .int .i64 0, .int .i64 0] 45))) := Lib.hid (below_two w _ _)
  go_enter Try.func47, Try.ntmps47
  go_wp2_with (first
    | (refine gate9 ?_; refine ldW (.tmp 1) w.heap.size rfl rfl rfl HA.out ?_)
    | (go_at_call 73; (with_reducible refine (HX.out _).mono ?_); rintro e w1 ⟨rfl, hb⟩; replace HA := Lib.hid (HA.out.later hb); replace HZ := Lib.hid (HZ.out.later hb); have hz := hb.size; replace HB := Lib.hid (HB.out.trans (hb.mono HB.out.size)); clear hb hz)
    | (refine gate9 ?_; refine stW (.tmp 2) (.tmp 4) (w.heap.size + 1) (u) rfl rfl rfl rfl HZ.out ?_; intro w2 ht hg; replace HA := Lib.hid (HA.out.kept hg (by omega)); replace HB := Lib.hid (below_of_grown1 HB.out hg HB.out.size (by omega)); replace HZ := Lib.hid ht; clear ht hg))
  exact bodyPost_ret (retW rfl rfl HZ.out) rfl ⟨rfl, HB.out⟩
end Go.Proofs.Ytpihgnpbaaagpaa.Wi
