/-
  Numbers of bytes, highest first: contracts.
-/
import Derived.Test.YtlbaockipeojhaaGreatPkMem
import Derived.Test.YtlbaockipeojhaaGreatGet
namespace Go.Proofs.YtlbaockipeojhaaGreat
open Go.RowKit
set_option linter.unusedVariables false
set_option linter.unusedSimpArgs false
set_option maxRecDepth 100000

set_option maxHeartbeats 2000000 in
theorem pnumber_2 (s : ByteArray) (hs : s.size = 2) (w : World) : Calls Tryz.prog 34 #[.string s] w fun e w' => e = .returned (.int .u32 ((num s.data.toList 0 : Nat) : Int)) ∧ w' = w := by
  have b0 := byteAt_lt s.data.toList 0
  have r0 : 0 < s.size := by omega
  have h0 := (byteAt_byte (s := s) (k := 0) r0).symm
  have p0 : (0 : Int) < (s.size : Int) := by omega
  have b1 := byteAt_lt s.data.toList 1
  have r1 : 1 < s.size := by omega
  have h1 := (byteAt_byte (s := s) (k := 1) r1).symm
  have p1 : (1 : Int) < (s.size : Int) := by omega
  have hz := or_zero32 (byteAt s.data.toList 0) (byteAt_lt _ _)
  have HV := Lib.hid (show num s.data.toList 0 = byteAt s.data.toList 0 * 256 + byteAt s.data.toList 1 from by unfold num; rfl)
  rw [HV.out]
  clear HV
  generalize byteAt s.data.toList 0 = x0 at *
  generalize byteAt s.data.toList 1 = x1 at *
  have o1 := or_byte32 (x0) x1 (by omega) b1
  have hsz : (s.size : Int) = 2 := by omega
  have w1 : IntKind.u32.wrap ((x0 : Int) * 256) = (x0 : Int) * 256 := by rw [IntKind.wrap_u32]; omega
  go_enter Tryz.func34, Tryz.ntmps34
  go_wp2_with fail
  refine wp_loop_rounds 3 ?_
  rw [rounds_succ]
  go_wp2_with fail
  rw [rounds_succ]
  go_wp2_with fail
  rw [rounds_succ]
  go_wp2_with fail
  go_ret
  exact ⟨rfl, rfl⟩
set_option maxHeartbeats 2000000 in
theorem pnumber_4 (s : ByteArray) (hs : s.size = 4) (w : World) : Calls Tryz.prog 34 #[.string s] w fun e w' => e = .returned (.int .u32 ((num4 s.data.toList 0 : Nat) : Int)) ∧ w' = w := by
  have b0 := byteAt_lt s.data.toList 0
  have r0 : 0 < s.size := by omega
  have h0 := (byteAt_byte (s := s) (k := 0) r0).symm
  have p0 : (0 : Int) < (s.size : Int) := by omega
  have b1 := byteAt_lt s.data.toList 1
  have r1 : 1 < s.size := by omega
  have h1 := (byteAt_byte (s := s) (k := 1) r1).symm
  have p1 : (1 : Int) < (s.size : Int) := by omega
  have b2 := byteAt_lt s.data.toList 2
  have r2 : 2 < s.size := by omega
  have h2 := (byteAt_byte (s := s) (k := 2) r2).symm
  have p2 : (2 : Int) < (s.size : Int) := by omega
  have b3 := byteAt_lt s.data.toList 3
  have r3 : 3 < s.size := by omega
  have h3 := (byteAt_byte (s := s) (k := 3) r3).symm
  have p3 : (3 : Int) < (s.size : Int) := by omega
  have hz := or_zero32 (byteAt s.data.toList 0) (byteAt_lt _ _)
  have HV := Lib.hid (show num4 s.data.toList 0 = ((byteAt s.data.toList 0 * 256 + byteAt s.data.toList 1) * 256 + byteAt s.data.toList 2) * 256 + byteAt s.data.toList 3 from by unfold num4 num; simp only [Nat.zero_add, Nat.reduceAdd]; omega)
  rw [HV.out]
  clear HV
  generalize byteAt s.data.toList 0 = x0 at *
  generalize byteAt s.data.toList 1 = x1 at *
  generalize byteAt s.data.toList 2 = x2 at *
  generalize byteAt s.data.toList 3 = x3 at *
  have o1 := or_byte32 (x0) x1 (by omega) b1
  generalize hy1 : (x0) * 256 + x1 = y1 at *
  have z1 : y1 < 65536 := by omega
  clear hy1
  have o2 := or_byte32 (y1) x2 (by omega) b2
  generalize hy2 : (y1) * 256 + x2 = y2 at *
  have z2 : y2 < 16777216 := by omega
  clear hy2
  have o3 := or_byte32 (y2) x3 (by omega) b3
  have hsz : (s.size : Int) = 4 := by omega
  have w1 : IntKind.u32.wrap ((x0 : Int) * 256) = (x0 : Int) * 256 := by rw [IntKind.wrap_u32]; omega
  have w2 : IntKind.u32.wrap ((y1 : Int) * 256) = (y1 : Int) * 256 := by rw [IntKind.wrap_u32]; omega
  have w3 : IntKind.u32.wrap ((y2 : Int) * 256) = (y2 : Int) * 256 := by rw [IntKind.wrap_u32]; omega
  go_enter Tryz.func34, Tryz.ntmps34
  go_wp2_with fail
  refine wp_loop_rounds 5 ?_
  rw [rounds_succ]
  go_wp2_with fail
  rw [rounds_succ]
  go_wp2_with fail
  rw [rounds_succ]
  go_wp2_with fail
  rw [rounds_succ]
  go_wp2_with fail
  rw [rounds_succ]
  go_wp2_with fail
  go_ret
  exact ⟨rfl, rfl⟩
end Go.Proofs.YtlbaockipeojhaaGreat
