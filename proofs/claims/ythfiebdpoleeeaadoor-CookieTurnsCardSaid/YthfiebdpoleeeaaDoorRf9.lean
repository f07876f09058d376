/-
  The document's answer to layer 9: numbers as bytes and bytes as numbers, a state's bytes, whether it is right: contracts.
-/
import Derived.Test.YthfiebdpoleeeaaDoorRe9
import Derived.Test.YthfiebdpoleeeaaDoorRefD
import Derived.Deep.LoopGhost
namespace Go.Proofs.YthfiebdpoleeeaaDoor
open Go.RowKit
set_option linter.unusedVariables false
set_option linter.unusedSimpArgs false

theorem beN_get (n : Nat) : ∀ k p, p < k → (beN k n)[k - 1 - p]? = some (UInt8.ofNat (n / 256 ^ p))
  | 0, p, h => by omega
  | k + 1, p, h => by
    by_cases hp : p = k
    · subst hp
      rw [show p + 1 - 1 - p = 0 by omega, beN]
      rfl
    · rw [show k + 1 - 1 - p = (k - 1 - p) + 1 by omega, beN, List.getElem?_cons_succ]
      exact beN_get n k p (by omega)
theorem beN_take {n k p : Nat} (h : p < k) : (beN k n).take (k - p) = (beN k n).take (k - (p + 1)) ++ [UInt8.ofNat (n / 256 ^ p)] := by
  have hl : k - 1 - p < (beN k n).length := by rw [beN_length]; omega
  have hg := beN_get n k p h
  rw [List.getElem?_eq_getElem hl] at hg
  rw [show k - p = (k - 1 - p) + 1 by omega, List.take_succ_eq_append_getElem hl, Option.some.inj hg, show k - (p + 1) = k - 1 - p by omega]
theorem pow_two_256 (p : Nat) : 2 ^ (8 * p) = 256 ^ p := by rw [Nat.pow_mul]
theorem ret_str {a b : ByteArray} (h : a = b) : Ending.returned (.string a) = .returned (.string b) := by rw [h]
set_option maxHeartbeats 2000000 in
set_option maxRecDepth 100000 in
theorem rnum_any (n k : Nat) (hn : n < 4611686018427387904) (hk : k ≤ 8) (w : World) : Calls Tryd.prog 48 #[.int .i64 (n : Int), .int .i64 (k : Int)] w fun e w' => e = .returned (.string ⟨(beN k n).toArray⟩) ∧ Below w.heap.size w w' := by
  obtain ⟨i0, hi0, hz0, hz1, hz2⟩ := info_parts info8
  have HI := Lib.hid hi0
  have HZ0 := Lib.hid hz0
  have HZ1 := Lib.hid hz1
  have HZ2 := Lib.hid hz2
  clear hi0 hz0 hz1 hz2
  go_enter Tryd.func48, Tryd.ntmps48
  go_wp2_with fail
  go_loopw [5, 6] (fun v i wr => ∃ q : Nat, q ≤ k ∧ i = .int .i64 ((q : Int) - 1) ∧ Hid (wr.ownsRow w.heap.size 5 1 v (k - q) (((beN k n).take (k - q)).map enc8) ∧ Below w.heap.size w wr))
    (fun _ i _ => (intOf i + 1).toNat)
  case atStart => exact ⟨k, by omega, by first | rfl | go_num, Lib.hid ⟨by rw [Nat.sub_self]; exact World.ownsRow_nil _ _ _ _, Below.refl _ _⟩⟩
  case round =>
    obtain ⟨q, hq, rfl, HR⟩ := hrel
    by_cases hq0 : q = 0
    · subst hq0
      have ht := text_own HR.out.1
      rw [Nat.sub_zero, List.take_of_length_le (by rw [beN_length]; exact Nat.le_refl _)] at ht
      obtain ⟨t, ht2⟩ : ∃ t : ByteArray, t = ⟨(beN k n).toArray⟩ := ⟨_, rfl⟩
      have HT := Lib.hid ht2
      rw [← ht2] at ht
      clear ht2
      rw [show (((0 : Nat) : Int) - 1) = -1 from rfl]
      go_wp2_with fail
      go_ret
      exact ⟨by rw [← HT.out]; rfl, HR.out.2⟩
    · obtain ⟨p, rfl⟩ : ∃ p, q = p + 1 := ⟨q - 1, by omega⟩
      rw [show (((p + 1 : Nat) : Int) - 1) = (p : Int) by omega]
      obtain ⟨A, cap, hv, hc1, hc2, _⟩ := own_slice HR.out.1
      subst hv
      have hbq := beN_take (n := n) (k := k) (p := p) (by omega)
      have hbv : ((n : Int) / 2 ^ (8 * p) % 256) = (((UInt8.ofNat (n / 256 ^ p)).toNat : Nat) : Int) := by
        rw [UInt8.toNat_ofNat', ← pow_two_256, ← cast_two]
        rfl
      generalize UInt8.ofNat (n / 256 ^ p) = b at *
      have HQ := Lib.hid hbq
      have hs2 := HR.out.2.size
      unfold maxLen at hc2
      generalize hm : k - (p + 1) = m at *
      have hm8 : m ≤ 8 := by omega
      clear hbq hq0
      go_wp2_with (at_builtin; refine wpList_append_own _ rfl (.tmp 13) (.tmp 19) 78 rfl w.heap.size 5 i0 (.int .u8 0) 1 1 Tryd.underlying78 HI.out HZ0.out HZ1.out HZ2.out rfl (by decide) _ _ _ rfl (HR.out.1.alloc _) ⟨wr.heap.size, 0, none⟩ 1 1 [enc8 b] rfl rfl ?d1 ?d2 ?d3 ?d4 ?d5 ?_)
      case d1 => exact new_cells wr _ _
      case d2 => intro u hu; simp at hu; subst hu; rfl
      case d3 => simp only [maxLen]; omega
      case d4 => omega
      case d5 => simp; omega
      intro v2 w2 hown2 hg2 _
      have HB2 := Lib.hid (below_append (HR.out.2.alloc hs2 _) (by simp; omega) (HR.out.1.alloc _) hg2)
      have HO2 := Lib.hid hown2
      have HM := Lib.hid hm
      clear hown2 hg2 hm
      go_wp2_with fail
      go_roundw
      case rel =>
        refine ⟨p, by omega, by first | rfl | go_num, Lib.hid ⟨?_, HB2.out⟩⟩
        have h := HO2.out
        have hm := HM.out
        rw [HQ.out, show k - p = m + 1 by omega]
        simpa [List.append_assoc] using h
      case measure => simp [intOf]
theorem rnum_z (n k : Nat) (z : Int) (hz : z = (k : Int)) (hn : n < 4611686018427387904) (hk : k ≤ 8) (w : World) : Calls Tryd.prog 48 #[.int .i64 (n : Int), .int .i64 z] w fun e w' => e = .returned (.string ⟨(beN k n).toArray⟩) ∧ Below w.heap.size w w' := by
  subst hz
  exact rnum_any n k hn hk w
theorem or_byte_w (x y : Nat) (hx : x < 2 ^ 56) (hy : y < 256) : bits .or .i64 (wrap64 ((x : Int) * 256)) (y : Int) = wrap64 ((x * 256 + y : Nat) : Int) := by
  have h := or_byte64 x y hx hy
  have e : BitVec.ofInt 64 (wrap64 ((x : Int) * 256)) = BitVec.ofInt 64 ((x : Int) * 256) := by
    apply BitVec.eq_of_toNat_eq
    simp only [BitVec.toNat_ofInt]
    unfold wrap64
    omega
  show IntKind.i64.wrap ((BitVec.ofInt 64 (wrap64 ((x : Int) * 256)) ||| BitVec.ofInt 64 (y : Int)).toNat : Int) = _
  rw [e]
  have h2 : IntKind.u64.wrap ((BitVec.ofInt 64 ((x : Int) * 256) ||| BitVec.ofInt 64 (y : Int)).toNat : Int) = ((x * 256 + y : Nat) : Int) := h
  rw [wrap_u64_id _ (by omega) (by have := (BitVec.ofInt 64 ((x : Int) * 256) ||| BitVec.ofInt 64 (y : Int)).isLt; omega)] at h2
  rw [h2, wrap64_is]
set_option maxHeartbeats 2000000 in
theorem rvalue_any (s : ByteArray) (hs : s.size ≤ 8) (w : World) : Calls Tryd.prog 32 #[.string s] w fun e w' => e = .returned (.int .i64 (wrap64 (valN s.data.toList : Nat))) ∧ w' = w := by
  obtain ⟨P, hP⟩ : ∃ P : Nat → Nat, P = fun k => valN (s.data.toList.take k) := ⟨_, rfl⟩
  have HP0 := Lib.hid (show P 0 = 0 by rw [hP]; rfl)
  have HPn := Lib.hid (show valN s.data.toList = P s.size by rw [hP]; show _ = valN (List.take _ _); rw [List.take_of_length_le (by rw [← size_list]; exact Nat.le_refl _)])
  have HPs := Lib.hid (show ∀ k (hk : k < s.size), P (k + 1) = P k * 256 + (s[k]'hk).toNat from fun k hk => by rw [hP]; exact take_step s k hk)
  have HPl := Lib.hid (show ∀ k, k < 8 → P k < 2 ^ 56 from fun k hk => by
    rw [hP]
    refine Nat.lt_of_lt_of_le (valN_lt _) ?_
    rw [show (2 : Nat) ^ 56 = 256 ^ 7 by decide]
    refine Nat.pow_le_pow_right (by decide) ?_
    rw [List.length_take]
    omega)
  rw [HPn.out]
  clear HPn hP
  go_enter Tryd.func32, Tryd.ntmps32
  go_wp2_with fail
  go_loopw [3, 4] (fun sm i wr => ∃ k : Nat, k ≤ s.size ∧ i = .int .i64 k ∧ sm = .int .i64 (wrap64 (P k : Nat)) ∧ Hid (wr = w)) (fun _ i _ => s.size - (intOf i).toNat)
  case atStart => exact ⟨0, by omega, rfl, by rw [HP0.out, show wrap64 ((0 : Nat) : Int) = 0 by unfold wrap64; omega], Lib.hid rfl⟩
  case round =>
    obtain ⟨k, hk, rfl, rfl, HR1⟩ := hrel
    obtain rfl := HR1.out
    by_cases hlt : k < s.size
    · have hlt2 : (k : Int) < (s.size : Int) := by omega
      have hp := HPl.out k (by omega)
      have HPk := Lib.hid (HPs.out k hlt)
      have ho := or_byte_w (P k) ((s[k]'hlt).toNat) hp (s[k]'hlt).toNat_lt
      have hb := (s[k]'hlt).toNat_lt
      have hw : wrap64 (P k : Nat) = ((P k : Nat) : Int) := by unfold wrap64; omega
      rw [hw]
      have ho2 : bits .or .i64 (IntKind.i64.wrap ((P k : Int) * 256)) (((s[k]'hlt).toNat : Nat) : Int) = wrap64 ((P k * 256 + (s[k]'hlt).toNat : Nat) : Int) := by rw [wrap64_is]; exact ho
      generalize hx : P k * 256 + (s[k]'hlt).toNat = x at *
      generalize P k = p at *
      clear hw
      go_wp2_with fail
      go_roundw
      case rel =>
        exact ⟨k + 1, by omega, by go_num, by rw [HPk.out], Lib.hid trivial⟩
      case measure => simp [intOf]; omega
    · obtain rfl : k = s.size := by omega
      go_wp2_with fail
      go_ret
      exact ⟨rfl, rfl⟩
end Go.Proofs.YthfiebdpoleeeaaDoor
