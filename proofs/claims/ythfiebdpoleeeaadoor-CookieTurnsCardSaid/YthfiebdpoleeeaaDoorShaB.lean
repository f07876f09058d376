/-
  Package sha: a word put behind a row, the first registers.
-/
import Derived.Test.YthfiebdpoleeeaaDoorShaA
import Derived.Test.YthfiebdpoleeeaaDoorBytes
import Derived.Deep.WholeRow
namespace Go.Proofs.YthfiebdpoleeeaaDoor
open Go.RowKit
set_option linter.unusedVariables false

theorem four_bytes (x : UInt32) : ∃ b1 b2 b3 b4 : UInt8, bytes4 x = [b1, b2, b3, b4] ∧ IntKind.u8.wrap ((x.toNat : Int) / 16777216) = (b1.toNat : Int) ∧ IntKind.u8.wrap ((x.toNat : Int) / 65536) = (b2.toNat : Int) ∧ IntKind.u8.wrap ((x.toNat : Int) / 256) = (b3.toNat : Int) ∧ IntKind.u8.wrap (x.toNat : Int) = (b4.toNat : Int) := by
  have hxl := lt32 x
  refine ⟨_, _, _, _, rfl, ?_, ?_, ?_, ?_⟩
  · rw [UInt8.toNat_ofNat_of_lt' (by show x.toNat / 16777216 < 256; omega), IntKind.wrap_u8']; omega
  · rw [UInt8.toNat_ofNat_of_lt' (by show x.toNat / 65536 % 256 < 256; omega), IntKind.wrap_u8']; omega
  · rw [UInt8.toNat_ofNat_of_lt' (by show x.toNat / 256 % 256 < 256; omega), IntKind.wrap_u8']; omega
  · rw [UInt8.toNat_ofNat_of_lt' (by show x.toNat % 256 < 256; omega), IntKind.wrap_u8']; omega
theorem aword_any (x : UInt32) (v : Value) (l : List UInt8) (B : Nat) (w : World) (h : OwnB w B v l) (hB : B ≤ w.heap.size) (hl : l.length ≤ 1000000000) :
    Calls Tryd.prog 75 #[v, .int .u32 (x.toNat : Int)] w fun e w' => ∃ v', e = .returned v' ∧ OwnB w' B v' (l ++ bytes4 x) ∧ w.grownBy w' v.ownBlock ∧ Below B w w' := by
  obtain ⟨i0, hi0, hz0, hz1, hz2⟩ := info_parts info8
  have HI := Lib.hid hi0
  have HZ0 := Lib.hid hz0
  have HZ1 := Lib.hid hz1
  have HZ2 := Lib.hid hz2
  clear hi0 hz0 hz1 hz2
  obtain ⟨b1, b2, b3, b4, h4, e1, e2, e3, e4⟩ := four_bytes x
  have H4 := Lib.hid h4
  have HO := Lib.hid h
  clear h h4
  obtain ⟨A, cap, rfl, hc1, hc2, _⟩ := HO.out.slice
  unfold maxLen at hc2
  go_enter Tryd.func75, Tryd.ntmps75
  go_wp2_with (at_builtin; refine wpList_append_fed _ rfl (.tmp 5) (.tmp 17) 78 78 rfl B 5 i0 (.int .u8 0) 1 1 Tryd.underlying78 (.inr ⟨_, Tryd.underlying78⟩) HI.out HZ0.out HZ1.out HZ2.out rfl _ _ _ rfl (HO.out.alloc _) _ 4 [enc8 b1, enc8 b2, enc8 b3, enc8 b4] rfl (Fed.block (heap_alloc_new w _) rfl (by simp [enc8, Value.oneCell'])) ?c1 ?c2 ?c3 ?_)
  case c1 => simp only [maxLen]; omega
  case c2 => omega
  case c3 => simp; omega
  intro v2 w2 ho2 hg2
  have HO2 := Lib.hid ho2
  have HG2 := Lib.hid hg2
  clear ho2 hg2
  go_wp2_with fail
  go_ret
  refine ⟨v2, rfl, OwnB.ofG HO2.out (by rw [H4.out]; simp), ?_, ?_⟩
  · have h := HG2.out
    exact ⟨h.os, h.tape, h.output, by have := h.size; simp at this; omega, fun k hk hne => (h.block k (by simp; omega) hne).trans (heap_alloc_old w _ hk)⟩
  · exact (((Below.refl B w).alloc hB _).grown HG2.out (by simp; omega) fun k hk => (HO.out.lt k hk).1)
end Go.Proofs.YthfiebdpoleeeaaDoor
