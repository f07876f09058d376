/-
  The document's answer to layer 2, bit by bit: contracts.
-/
import Derived.Test.YtlbaockipeojhaaGreatCrcB
namespace Go.Proofs.YtlbaockipeojhaaGreat
open Go.RowKit
set_option linter.unusedVariables false


/-- The register after k halvings. -/
def halves : Nat → Nat → Nat
  | 0, x => x
  | k + 1, x => half (halves k x)
theorem halves_lt {x : Nat} (h : x < 4294967296) (k : Nat) : halves k x < 4294967296 := by
  induction k with
  | zero => exact h
  | succ k ih => exact half_lt ih
theorem halves_step (x : Nat) : halves 8 x = step x := rfl
theorem regAt_bit (c : Nat) (s : ByteArray) (k : Nat) (h : k < s.size) : regAt c s (k + 1) = step (regAt c s k ^^^ s[k].toNat) := by
  unfold regAt
  rw [take_snoc s k h, behind_snoc]

set_option maxRecDepth 100000 in
set_option maxHeartbeats 1000000 in
theorem rupdate_any (c : Nat) (hc : c < 4294967296) (s : ByteArray) (hs : s.size ≤ maxLen) (w : World) :
    Calls Tryz.prog 88 #[.int .u32 (c : Int), .string s] w fun e w' => e = .returned (.int .u32 ((updOf c s : Nat) : Int)) ∧ w = w' := by
  unfold maxLen at hs
  go_enter Tryz.func88, Tryz.ntmps88
  go_wp2_with fail
  rw [not_u32 c hc]
  have HC : Hid (4294967295 - c = regAt c s 0) := Lib.hid rfl
  rw [HC.out]
  go_loop [5, 6] (fun r i => ∃ k : Nat, k ≤ s.size ∧ i = .int .i64 k ∧ r = .int .u32 ((regAt c s k : Nat) : Int)) (fun _ i => s.size - (intOf i).toNat)
  case atStart => exact ⟨0, Nat.zero_le _, rfl, rfl⟩
  case round =>
    obtain ⟨k, hk, rfl, rfl⟩ := hrel
    have hr := regAt_lt c s k
    by_cases hlt : k < s.size
    · have H1 := Lib.hid (regAt_bit c s k hlt)
      have hbl := s[k].toNat_lt
      have hx := u32_xor_nat (regAt c s k) s[k].toNat hr (by omega)
      have hl := xor_lt (a := regAt c s k) (b := s[k].toNat) hr (by omega)
      have HX := Lib.hid (rfl : regAt c s k ^^^ s[k].toNat = regAt c s k ^^^ s[k].toNat)
      generalize hxx : regAt c s k ^^^ s[k].toNat = x at *
      have HXX := Lib.hid hxx
      clear hxx HX
      go_wp2_with fail
      go_loop [5, 7] (fun r j => ∃ m : Nat, m ≤ 8 ∧ j = .int .i64 m ∧ r = .int .u32 ((halves m x : Nat) : Int)) (fun _ j => 8 - (intOf j).toNat)
      case atStart => exact ⟨0, Nat.zero_le _, rfl, rfl⟩
      case round =>
        obtain ⟨m, hm, rfl, rfl⟩ := hrel
        by_cases hm8 : m < 8
        · have hh := halves_lt hl m
          have ha : bits .and .u32 ((halves m x : Nat) : Int) 1 = ((halves m x % 2 : Nat) : Int) := by
            have := u32_and_nat (halves m x) 1 hh (by omega)
            rw [nat_mask1] at this
            exact this
          have hb : bits .xor .u32 ((halves m x : Int) / 2) 2197175160 = ((halves m x / 2 ^^^ 2197175160 : Nat) : Int) := u32_xor_nat (halves m x / 2) 2197175160 (by omega) (by omega)
          by_cases ho : halves m x % 2 = 1
          · have hq := Lib.hid (half_odd ho)
            have h1 : ((halves m x : Int) % 2 == 1) = true := by simp; omega
            go_wp2_with fail
            go_round
            case rel => exact ⟨m + 1, by omega, by go_num, by rw [show halves (m + 1) x = half (halves m x) from rfl, hq.out]⟩
            case measure => simp [intOf]; omega
          · have hq := Lib.hid (half_even (show halves m x % 2 = 0 by omega))
            have h1 : ((halves m x : Int) % 2 == 1) = false := by simp; omega
            go_wp2_with fail
            go_round
            case rel => exact ⟨m + 1, by omega, by go_num, by rw [show halves (m + 1) x = half (halves m x) from rfl, hq.out]; go_num⟩
            case measure => simp [intOf]; omega
        · obtain rfl : m = 8 := by omega
          go_wp2_with fail
          go_round
          case rel => exact ⟨k + 1, by omega, by go_num, by rw [H1.out, halves_step]⟩
          case measure => simp [intOf]; omega
    · obtain rfl : k = s.size := by omega
      have hn := not_u32 _ hr
      go_wp2_with fail
      go_ret
      refine ⟨ret_u32 ?_, rfl⟩
      unfold updOf crc regAt
      rw [List.take_of_length_le (by simp)]
theorem rsum_any (s : ByteArray) (hs : s.size ≤ maxLen) (w : World) :
    Calls Tryz.prog 57 #[.string s] w fun e w' => e = .returned (.int .u32 ((sumOf s : Nat) : Int)) ∧ w = w' := by
  go_enter Tryz.func57, Tryz.ntmps57
  go_wp2_with (go_at_call 88; refine (rupdate_any 0 (by omega) s hs _).mono ?_; rintro e w1 ⟨rfl, rfl⟩)
  go_ret
  exact ⟨rfl, rfl⟩
/-! ### The document's answer -/
theorem rseal_short (s : ByteArray) (h12 : s.size < 12) (w : World) :
    Calls Tryz.prog 30 #[.string s] w fun e w' => e = .returned (.tuple #[.string ⟨#[]⟩, .int .i64 3]) ∧ w = w' := by
  go_enter Tryz.func30, Tryz.ntmps30
  go_wp2_with fail
  go_ret2
  exact ⟨rfl, rfl⟩
theorem rseal_any (s : ByteArray) (h12 : 12 ≤ s.size) (hs : s.size ≤ 1000000) (w : World) :
    Calls Tryz.prog 30 #[.string s] w fun e w' => e = .returned (.tuple #[.string (sealed s), .int .i64 0]) ∧ Below w.heap.size w w' := by
  have hf := four_size
  have hm8 : min 8 s.size = 8 := by omega
  go_enter Tryz.func30, Tryz.ntmps30
  go_wp2_with fail
  have hL : (s.extract 0 8 ++ ⟨#[0, 0, 0, 0]⟩ ++ s.extract 12 s.size).size ≤ maxLen := by rw [blank_size s _ h12 rfl]; unfold maxLen; omega
  have HL := Lib.hid hL
  clear hL
  go_quiet ((go_at_call 57; exact quiet_left (rsum_any _ HL.out _)))
  have hlt := sumOf_lt (s.extract 0 8 ++ ⟨#[0, 0, 0, 0]⟩ ++ s.extract 12 s.size)
  have HS : Hid (sealed s = s.extract 0 8 ++ four (sumOf (s.extract 0 8 ++ ⟨#[0, 0, 0, 0]⟩ ++ s.extract 12 s.size)) ++ s.extract 12 s.size) := Lib.hid rfl
  generalize sumOf (s.extract 0 8 ++ ⟨#[0, 0, 0, 0]⟩ ++ s.extract 12 s.size) = n at *
  go_wp2_with fail
  have hk := fun N => conv4_drew (w.drewN nq) N ((n : Int) % 256) ((n : Int) / 256 % 256) ((n : Int) / 65536 % 256) ((n : Int) / 16777216)
  rw [four_of] at hk
  have hB : Below w.heap.size w ((w.drewN nq).alloc (.cells #[.int .u8 ((n : Int) % 256), .int .u8 ((n : Int) / 256 % 256), .int .u8 ((n : Int) / 65536 % 256), .int .u8 ((n : Int) / 16777216)] 5)) :=
    (below_drewN (Below.refl w.heap.size w) nq).alloc (Nat.le_refl _) _
  have HB := Lib.hid hB
  clear hB hlt
  have hsz : (w.drewN nq).heap.size = w.heap.size := rfl
  rw [hsz] at hk
  clear hsz
  generalize ((w.drewN nq).alloc (.cells #[.int .u8 ((n : Int) % 256), .int .u8 ((n : Int) / 256 % 256), .int .u8 ((n : Int) / 65536 % 256), .int .u8 ((n : Int) / 16777216)] 5)) = wb at *
  go_quiet (fail)
  go_wp2_with fail
  go_ret2
  exact ⟨by rw [HS.out]; rfl, below_drewN HB.out _⟩
theorem rcheck_any (s : ByteArray) (hs : s.size ≤ 1000000) (w : World) :
    Calls Tryz.prog 35 #[.string s] w fun e w' => e = .returned (.int .i64 (checked s)) ∧ Below w.heap.size w w' := by
  by_cases h12 : s.size < 12
  · have hq := Lib.hid (show checked s = 3 by unfold checked; rw [if_pos h12])
    go_enter Tryz.func35, Tryz.ntmps35
    go_wp2_with (go_at_call 30; refine (rseal_short _ h12 _).mono ?_; rintro e w' ⟨rfl, rfl⟩)
    go_ret
    exact ⟨ret_i64 hq.out.symm, Below.refl _ _⟩
  · by_cases he : sealed s = s
    · have hq := Lib.hid (show checked s = 0 by unfold checked; rw [if_neg h12, if_pos he])
      have hd := eqB_true he
      clear he
      go_enter Tryz.func35, Tryz.ntmps35
      go_wp2_with (go_at_call 30; refine (rseal_any _ (by omega) hs _).mono ?_; rintro e w' ⟨rfl, hb⟩)
      go_ret
      exact ⟨ret_i64 hq.out.symm, hb⟩
    · have hq := Lib.hid (show checked s = 5 by unfold checked; rw [if_neg h12, if_neg he])
      have hd := eqB_false he
      clear he
      go_enter Tryz.func35, Tryz.ntmps35
      go_wp2_with (go_at_call 30; refine (rseal_any _ (by omega) hs _).mono ?_; rintro e w' ⟨rfl, hb⟩)
      go_ret
      exact ⟨ret_i64 hq.out.symm, hb⟩

end Go.Proofs.YtlbaockipeojhaaGreat
