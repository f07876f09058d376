/-
  Package sha: Sum, and whatever was written to a Hash.
-/
import Derived.Test.YthfiebdpoleeeaaDoorShaH
import Derived.Test.YthfiebdpoleeeaaDoorRefD
namespace Go.Proofs.YthfiebdpoleeeaaDoor
open Go.RowKit
set_option linter.unusedVariables false

theorem hash_zero (w : World) : HashB (w.alloc (.cells (hashC 0 (List.replicate 8 0) ⟨#[]⟩) 109)) w.heap.size [] := heap_alloc_new w _
set_option maxHeartbeats 1000000 in
theorem sum_any (s : ByteArray) (hs : s.size ≤ 1000000) (w : World) (hK : Kub w) : Calls Tryd.prog 46 #[.string s] w fun e w' => e = .returned (.string (digestOf s)) ∧ Below w.heap.size w w' := by
  have HK := Lib.hid hK
  clear hK
  go_enter Tryd.func46, Tryd.ntmps46
  go_wp2_with fail
  obtain ⟨w1, h1⟩ : ∃ w1, w1 = w.alloc (.cells (hashC 0 (List.replicate 8 0) ⟨#[]⟩) 109) := ⟨_, rfl⟩
  have h1' : w1 = w.alloc (.cells #[.int .i64 0, .int .u32 0, .int .u32 0, .int .u32 0, .int .u32 0, .int .u32 0, .int .u32 0, .int .u32 0, .int .u32 0, .string ⟨#[]⟩] 109) := h1
  rw [← h1']
  clear h1'
  have HB1 := Lib.hid (show Below w.heap.size w w1 by subst h1; exact (Below.refl _ _).alloc (Nat.le_refl _) _)
  have HN1 := Lib.hid (show HashB w1 w.heap.size [] by subst h1; exact hash_zero w)
  clear h1
  refine (hwrite_any w.heap.size [] s w1 HN1.out ((HK.out).later HB1.out) HK.out.1 (by simp; omega)).mono ?_
  rintro e w2 ⟨rfl, hN2, hg2⟩
  have HB2 := Lib.hid (HB1.out.grown hg2 HB1.out.size fun k hk => by have := Option.some.inj hk; omega)
  have HN2 := Lib.hid hN2
  clear hN2 hg2
  go_wp2_with fail
  refine (hsumM_any w.heap.size ([] ++ s.data.toList) w2 HN2.out ((HK.out).later HB2.out) (by simp; omega)).mono ?_
  rintro e w3 ⟨rfl, hb3⟩
  have HB3 := Lib.hid (HB2.out.trans (hb3.mono HB2.out.size))
  clear hb3
  go_wp2_with fail
  go_ret
  exact ⟨rfl, HB3.out⟩
end Go.Proofs.YthfiebdpoleeeaaDoor
