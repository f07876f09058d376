/-
  The document's digest, its small functions: a turned word, the constants, the pad.
-/
import Derived.Test.YthfiebdpoleeeaaDoorProg
import Derived.Test.YthfiebdpoleeeaaDoorMath
import Derived.Test.YthfiebdpoleeeaaDoorMem
import Derived.Test.YthfiebdpoleeeaaDoorWords
import Derived.Test.YthfiebdpoleeeaaDoorText
import Derived.Deep.LoopGhost
import Derived.WalkKit
import Derived.Lib.Hide
import Derived.IntWalk
import Derived.Deep.Draws
import Derived.Deep.QuietTactic
import Derived.BigQuiet
namespace Go.Proofs.YthfiebdpoleeeaaDoor
open Go.RowKit
set_option linter.unusedVariables false

theorem ret_u32 {a b : Int} (h : a = b) : Ending.returned (.int .u32 a) = .returned (.int .u32 b) := by rw [h]
theorem right_any (n : Nat) (h1 : 1 ≤ n) (h2 : n ≤ 31) (x : UInt32) (w : World) :
    Calls Tryd.prog 66 #[.int .u32 (x.toNat : Int), .int .i64 (n : Int)] w fun e w' => e = .returned (.int .u32 ((rot32 n x).toNat : Int)) ∧ ∃ k, w' = w.drewN k := by
  have hr1 := r_shr n x
  have hr2 := r_shl (32 - n) x
  have hr3 := r_or (shr32 n x) (shl32 (32 - n) x)
  go_enter Tryd.func66, Tryd.ntmps66
  go_wp2_with fail
  go_quiet (fail)
  go_wp2_with fail
  go_ret
  exact ⟨rfl, _, rfl⟩

theorem right_at (n : Nat) (z : Int) (hz : z = (n : Int)) (h1 : 1 ≤ n) (h2 : n ≤ 31) (x : UInt32) (w : World) :
    Calls Tryd.prog 66 #[.int .u32 (x.toNat : Int), .int .i64 z] w fun e w' => e = .returned (.int .u32 ((rot32 n x).toNat : Int)) ∧ ∃ k, w' = w.drewN k := by
  subst hz
  exact right_any n h1 h2 x w

theorem right_z (z : Int) (h1 : 1 ≤ z) (h2 : z ≤ 31) (x : UInt32) (w : World) :
    Calls Tryd.prog 66 #[.int .u32 (x.toNat : Int), .int .i64 z] w fun e w' => e = .returned (.int .u32 ((rot32 z.toNat x).toNat : Int)) ∧ ∃ k, w' = w.drewN k :=
  right_at z.toNat z (by omega) (by omega) (by omega) x w
theorem right_7 (x : UInt32) (w : World) : Calls Tryd.prog 66 #[.int .u32 (x.toNat : Int), .int .i64 7] w fun e w' => e = .returned (.int .u32 ((rot32 7 x).toNat : Int)) ∧ ∃ k, w' = w.drewN k := right_at 7 7 rfl (by omega) (by omega) x w
theorem right_18 (x : UInt32) (w : World) : Calls Tryd.prog 66 #[.int .u32 (x.toNat : Int), .int .i64 18] w fun e w' => e = .returned (.int .u32 ((rot32 18 x).toNat : Int)) ∧ ∃ k, w' = w.drewN k := right_at 18 18 rfl (by omega) (by omega) x w
theorem right_17 (x : UInt32) (w : World) : Calls Tryd.prog 66 #[.int .u32 (x.toNat : Int), .int .i64 17] w fun e w' => e = .returned (.int .u32 ((rot32 17 x).toNat : Int)) ∧ ∃ k, w' = w.drewN k := right_at 17 17 rfl (by omega) (by omega) x w
theorem right_19 (x : UInt32) (w : World) : Calls Tryd.prog 66 #[.int .u32 (x.toNat : Int), .int .i64 19] w fun e w' => e = .returned (.int .u32 ((rot32 19 x).toNat : Int)) ∧ ∃ k, w' = w.drewN k := right_at 19 19 rfl (by omega) (by omega) x w
theorem right_2 (x : UInt32) (w : World) : Calls Tryd.prog 66 #[.int .u32 (x.toNat : Int), .int .i64 2] w fun e w' => e = .returned (.int .u32 ((rot32 2 x).toNat : Int)) ∧ ∃ k, w' = w.drewN k := right_at 2 2 rfl (by omega) (by omega) x w
theorem right_13 (x : UInt32) (w : World) : Calls Tryd.prog 66 #[.int .u32 (x.toNat : Int), .int .i64 13] w fun e w' => e = .returned (.int .u32 ((rot32 13 x).toNat : Int)) ∧ ∃ k, w' = w.drewN k := right_at 13 13 rfl (by omega) (by omega) x w
theorem right_22 (x : UInt32) (w : World) : Calls Tryd.prog 66 #[.int .u32 (x.toNat : Int), .int .i64 22] w fun e w' => e = .returned (.int .u32 ((rot32 22 x).toNat : Int)) ∧ ∃ k, w' = w.drewN k := right_at 22 22 rfl (by omega) (by omega) x w
theorem right_6 (x : UInt32) (w : World) : Calls Tryd.prog 66 #[.int .u32 (x.toNat : Int), .int .i64 6] w fun e w' => e = .returned (.int .u32 ((rot32 6 x).toNat : Int)) ∧ ∃ k, w' = w.drewN k := right_at 6 6 rfl (by omega) (by omega) x w
theorem right_11 (x : UInt32) (w : World) : Calls Tryd.prog 66 #[.int .u32 (x.toNat : Int), .int .i64 11] w fun e w' => e = .returned (.int .u32 ((rot32 11 x).toNat : Int)) ∧ ∃ k, w' = w.drewN k := right_at 11 11 rfl (by omega) (by omega) x w
theorem right_25 (x : UInt32) (w : World) : Calls Tryd.prog 66 #[.int .u32 (x.toNat : Int), .int .i64 25] w fun e w' => e = .returned (.int .u32 ((rot32 25 x).toNat : Int)) ∧ ∃ k, w' = w.drewN k := right_at 25 25 rfl (by omega) (by omega) x w

def constCells : Array Value := (consts.map enc32).toArray
theorem constants_any (w : World) : Calls Tryd.prog 65 #[] w fun e w' => e = .returned (.slice (some ⟨w.heap.size, 0, none⟩) 64 64) ∧ w' = w.alloc (.cells constCells 22) := by
  go_enter Tryd.func65, Tryd.ntmps65
  go_wp2_with fail
  go_ret
  exact ⟨rfl, rfl⟩

/-! ### The pad -/
theorem padHead_cells (w : World) : w.ownsRow w.heap.size 5 1 (.slice none 0 0) 0 [] := World.ownsRow_nil _ _ _ _
theorem rpad_neg (n : Int) (h : n < 0) (w : World) : Calls Tryd.prog 54 #[.int .i64 n] w fun e w' => e = .returned (.string ⟨#[]⟩) ∧ w = w' := by
  go_enter Tryd.func54, Tryd.ntmps54
  go_wp2_with fail
  go_ret
  exact ⟨rfl, rfl⟩
set_option maxHeartbeats 1000000 in
set_option maxRecDepth 100000 in
theorem rpad_any (n : Nat) (h : n ≤ 2305843009213693951) (w : World) : Calls Tryd.prog 54 #[.int .i64 (n : Int)] w fun e w' => e = .returned (.string ⟨(pad n).toArray⟩) ∧ Below w.heap.size w w' := by
  obtain ⟨i0, hi0, hz0, hz1, hz2⟩ := info_parts info8
  have HI := Lib.hid hi0
  have HZ0 := Lib.hid hz0
  have HZ1 := Lib.hid hz1
  have HZ2 := Lib.hid hz2
  clear hi0 hz0 hz1 hz2
  go_enter Tryd.func54, Tryd.ntmps54
  go_wp2_with fail
  have H0 : Hid ((w.alloc (Obj.cells #[Value.int IntKind.u8 128] 5)).ownsRow w.heap.size 5 1 (.slice (some ⟨w.heap.size, 0, none⟩) 1 1) 1 ((128 :: List.replicate 0 0).map enc8) ∧ Below w.heap.size w (w.alloc (Obj.cells #[Value.int IntKind.u8 128] 5))) :=
    Lib.hid ⟨⟨rfl, .inr ⟨w.heap.size, 1, #[Value.int .u8 128], rfl, Nat.le_refl _, heap_alloc_new w _, Nat.le_refl _, by decide, rfl, rfl⟩⟩, (Below.refl _ _).alloc (Nat.le_refl _) _⟩
  generalize w.alloc (Obj.cells #[Value.int IntKind.u8 128] 5) = w0 at *
  go_loopg [3] (noughts n) (fun g v wx => ∃ k : Nat, k + g = noughts n ∧ Hid (wx.ownsRow w.heap.size 5 1 v (1 + k) ((128 :: List.replicate k 0).map enc8) ∧ Below w.heap.size w wx))
  case atStart => exact ⟨0, by omega, H0⟩
  case round =>
    obtain ⟨k, hk, HR⟩ := hrel
    obtain ⟨A, cap, hv, hc1, hc2, _⟩ := own_slice HR.out.1
    subst hv
    obtain ⟨m, hm⟩ : ∃ m : Nat, m = 1 + k := ⟨_, rfl⟩
    rw [← hm] at HR hc1
    have HM := Lib.hid hm
    rw [← hm]
    have hmk : m ≤ 64 := by unfold noughts at hk; omega
    have hm1 : 1 ≤ m := by omega
    unfold maxLen at hc2
    cases gk with
    | zero =>
      have ht : ((((n : Int) + (m : Int) + 8) % 64) != 0) = false := by unfold noughts at hk; simp; omega
      have ht2 : ((((n : Int) + (m : Int) + 8) % 64) == 0) = true := by unfold noughts at hk; simp; omega
      have HK0 := Lib.hid hk
      clear hm hk
      go_wp2_with fail
      have hkn : k = noughts n := by have := HK0.out; omega
      have HO : Hid (wr.ownsRow w.heap.size 5 1 (.slice A m cap) (1 + noughts n) (((128 :: List.replicate (noughts n) 0) ++ (bytes8 (8 * n)).take (8 - 8)).map enc8) ∧ Below w.heap.size w wr) := by
        refine Lib.hid ⟨?_, HR.out.2⟩
        have h := HR.out.1
        rw [HM.out, hkn] at h
        have e : m = 1 + noughts n := by rw [HM.out, hkn]
        subst e
        simpa using h
      clear hkn HR HM hc1 hc2 H0
      obtain ⟨wo, hwo⟩ : ∃ wo : World, wo = wr := ⟨_, rfl⟩
      rw [← hwo] at HO ⊢
      clear hwo
      generalize Value.slice A m cap = vo at *
      have hnb : noughts n < 64 := by unfold noughts; omega
      go_loopw [3, 5] (fun v i wr => ∃ q : Nat, q ≤ 8 ∧ i = .int .i64 ((q : Int) - 1) ∧ Hid (wr.ownsRow w.heap.size 5 1 v (1 + noughts n + (8 - q)) (((128 :: List.replicate (noughts n) 0) ++ (bytes8 (8 * n)).take (8 - q)).map enc8) ∧ Below w.heap.size w wr))
        (fun _ i _ => (intOf i + 1).toNat)
      case atStart => exact ⟨8, by omega, rfl, HO⟩
      case round =>
        obtain ⟨q, hq, rfl, HR⟩ := hrel
        by_cases hq0 : q = 0
        · subst hq0
          have ht := text_own HR.out.1
          have hpad : (⟨((128 :: List.replicate (noughts n) 0) ++ (bytes8 (8 * n)).take (8 - 0)).toArray⟩ : ByteArray) = ⟨(pad n).toArray⟩ := rfl
          rw [hpad] at ht
          clear hpad
          obtain ⟨t, ht2⟩ : ∃ t : ByteArray, t = ⟨(pad n).toArray⟩ := ⟨_, rfl⟩
          have HT := Lib.hid ht2
          rw [← ht2] at ht
          clear ht2
          rw [show (((0 : Nat) : Int) - 1) = -1 from rfl]
          go_wp2_with fail
          go_ret
          exact ⟨by rw [← HT.out]; rfl, HR.out.2⟩
        · obtain ⟨p, rfl⟩ : ∃ p, q = p + 1 := ⟨q - 1, by omega⟩
          rw [show (((p + 1 : Nat) : Int) - 1) = (p : Int) by omega]
          have hbq := bytes8_take (8 * n) p (by omega)
          have hbv : ((n : Int) * 8 / 2 ^ (8 * p) % 256) = (((UInt8.ofNat (8 * n / 2 ^ (8 * p) % 256)).toNat : Nat) : Int) := by
            rw [UInt8.toNat_ofNat_of_lt' (by show 8 * n / 2 ^ (8 * p) % 256 < 256; omega), ← cast_two, Nat.mul_comm 8 n]
            rfl
          generalize UInt8.ofNat (8 * n / 2 ^ (8 * p) % 256) = b at *
          have HQ := Lib.hid hbq
          have hs2 := HR.out.2.size
          clear hbq hq0
          go_wp2_with (at_builtin; refine wpList_append_own _ rfl (.tmp 26) (.tmp 32) 78 rfl w.heap.size 5 i0 (.int .u8 0) 1 1 Tryd.underlying78 HI.out HZ0.out HZ1.out HZ2.out rfl (by decide) _ _ _ rfl (HR.out.1.alloc _) ⟨wr.heap.size, 0, none⟩ 1 1 [enc8 b] rfl rfl ?d1 ?d2 ?d3 ?d4 ?d5 ?_)
          case d1 => exact new_cells wr _ _
          case d2 => intro u hu; simp at hu; subst hu; rfl
          case d3 => simp only [maxLen]; omega
          case d4 => omega
          case d5 => simp; omega
          intro v2 w2 hown2 hg2 _
          have HB2 := Lib.hid (below_append (HR.out.2.alloc hs2 _) (by simp; omega) (HR.out.1.alloc _) hg2)
          have HO2 := Lib.hid hown2
          clear hown2 hg2
          go_wp2_with fail
          go_roundw
          case rel =>
            refine ⟨p, by omega, by first | rfl | go_num, Lib.hid ⟨?_, HB2.out⟩⟩
            have h := HO2.out
            rw [HQ.out]
            rw [show 1 + noughts n + (8 - p) = 1 + noughts n + (8 - (p + 1)) + 1 by omega]
            simpa [List.append_assoc] using h
          case measure => simp [intOf]
    | succ g =>
      have ht : ((((n : Int) + (m : Int) + 8) % 64) != 0) = true := by unfold noughts at hk; simp; omega
      have ht2 : ((((n : Int) + (m : Int) + 8) % 64) == 0) = false := by unfold noughts at hk; simp; omega
      have HK := Lib.hid hk
      have hs2 := HR.out.2.size
      clear hm hk
      go_wp2_with (at_builtin; refine wpList_append_own _ rfl (.tmp 16) (.tmp 17) 78 rfl w.heap.size 5 i0 (.int .u8 0) 1 1 Tryd.underlying78 HI.out HZ0.out HZ1.out HZ2.out rfl (by decide) _ _ _ rfl (HR.out.1.alloc _) ⟨wr.heap.size, 0, none⟩ 1 1 [enc8 0] rfl rfl ?c1 ?c2 ?c3 ?c4 ?c5 ?_)
      case c1 => exact new_cells wr _ _
      case c2 => intro u hu; simp at hu; subst hu; rfl
      case c3 => simp only [maxLen]; omega
      case c4 => omega
      case c5 => simp; omega
      intro v2 w2 hown2 hg2 _
      have HB2 := Lib.hid (below_append (HR.out.2.alloc hs2 _) (by simp; omega) (HR.out.1.alloc _) hg2)
      have HO2 := Lib.hid hown2
      clear hown2 hg2
      go_wp2_with fail
      go_roundg g
      case rel =>
        have := HK.out
        refine ⟨k + 1, by omega, Lib.hid ⟨?_, HB2.out⟩⟩
        have h := HO2.out
        have e := HM.out
        subst e
        rw [List.replicate_succ']
        simpa [Nat.add_assoc] using h
      case measure => omega
end Go.Proofs.YthfiebdpoleeeaaDoor
