/-
  Package order: types, small functions: contracts.
-/
import Derived.Test.YtondgdacjbfihaaProg
import Derived.Test.YtondgdacjbfihaaOr
import Derived.Test.YtondgdacjbfihaaOwn
import Derived.Test.YtondgdacjbfihaaWaits
import Derived.Test.YtondgdacjbfihaaWords
import Derived.Test.YtondgdacjbfihaaWhere8
import Derived.Lib.SliceRun
import Derived.Deep.RegionHeld3
import Derived.StillTailTactics
namespace Go.Proofs.Ytondgdacjbfihaa
open Go.RowKit
set_option linter.unusedVariables false
set_option linter.unusedSimpArgs false
set_option maxRecDepth 100000

theorem ret_i64 {a b : Int} (h : a = b) : Ending.returned (.int .i64 a) = .returned (.int .i64 b) := by rw [h]
theorem ret_bool {a b : Bool} (h : a = b) : Ending.returned (.bool a) = .returned (.bool b) := by rw [h]
theorem infoM : (Try.prog.info? 40).map (·.size) = some 6 := by kernel_rfl
theorem infoRM : (Try.prog.info? 47).map (·.size) = some 6 := by kernel_rfl
theorem infoQ : (Try.prog.info? 27).map (·.size) = some 2 := by kernel_rfl
theorem infoRQ : (Try.prog.info? 33).map (·.size) = some 2 := by kernel_rfl
theorem infoI : (Try.prog.info? 3).map (·.size) = some 1 := by kernel_rfl
theorem infoH : (Try.prog.info? 38).map (·.size) = some 1 := by kernel_rfl
theorem infoO : (Try.prog.info? 4).map (·.size) = some 1 := by kernel_rfl
theorem infoML : (Try.prog.info? 25).map (·.size) = some 1 := by kernel_rfl
theorem infoHL : (Try.prog.info? 24).map (·.size) = some 1 := by kernel_rfl
theorem infoMZ : (Try.prog.info? 40).map (fun i => (i.zero, i.size, i.bytes)) = some (some (.agg (cellsMg zeroMg)), 6, 32) := by kernel_rfl
theorem infoRMZ : (Try.prog.info? 47).map (fun i => (i.zero, i.size, i.bytes)) = some (some (.agg (cellsMg zeroMg)), 6, 32) := by kernel_rfl
theorem infoHZ : (Try.prog.info? 38).map (fun i => (i.zero, i.size, i.bytes)) = some (some (.int .u16 0), 1, 2) := by kernel_rfl
theorem infoOZ : (Try.prog.info? 4).map (fun i => (i.zero, i.size, i.bytes)) = some (some (.bool false), 1, 1) := by kernel_rfl
theorem cellsQ_one (A A' : Option Addr) (n k n' k' : Nat) : (#[Value.slice A n k, Value.slice A' n' k'] : Array Value).all (·.oneCell') = true := by simp [Value.oneCell']
theorem dist16_any (a b : UInt16) (w : World) :
    Calls Try.prog 34 #[.int .u16 (a.toNat : Int), .int .u16 (b.toNat : Int)] w fun e w' => e = .returned (.int .i64 (((b - a).toNat + 32768 : Int) % 65536 - 32768)) ∧ w' = w := by
  have h1 : ((b - a).toNat : Int) = ((b.toNat : Int) - (a.toNat : Int)) % 65536 := by
    rw [UInt16.toNat_sub]
    have := a.toNat_lt; have := b.toNat_lt
    omega
  have h2 := a.toNat_lt
  have h3 := b.toNat_lt
  go_enter Try.func34, Try.ntmps34
  go_wp2
  go_ret
  refine ⟨ret_i64 ?_, rfl⟩
  rw [h1]
  simp [IntKind.wrap, IntKind.bits, IntKind.signed, wrap64]
  omega
theorem past_any (n nx : UInt16) (w : World) :
    Calls Try.prog 25 #[.int .u16 (n.toNat : Int), .int .u16 (nx.toNat : Int)] w fun e w' => e = .returned (.bool (pastB n nx)) ∧ w' = w := by
  have h1 := (n - nx).toNat_lt
  have H := Lib.hid (fun W => dist16_any nx n W)
  obtain ⟨d, hd⟩ : ∃ d, ((n - nx).toNat + 32768 : Int) % 65536 - 32768 = d := ⟨_, rfl⟩
  rw [hd] at H
  have hp : pastB n nx = decide (d < 0) := by
    unfold pastB
    rw [Bool.eq_iff_iff, decide_eq_true_iff, decide_eq_true_iff]
    omega
  rw [hp]
  clear hp hd h1
  go_enter Try.func25, Try.ntmps25
  go_wp2_with (go_at_call 34; (with_reducible refine (H.out _).mono ?_); rintro e w1 ⟨rfl, rfl⟩)
  go_ret
  exact ⟨rfl, rfl⟩
end Go.Proofs.Ytondgdacjbfihaa
