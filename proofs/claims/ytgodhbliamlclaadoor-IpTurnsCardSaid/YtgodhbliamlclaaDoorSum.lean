/-
  Package ip: the sum of a text; the document's answer; the sum of a header's bytes around it: contracts.
-/
import Derived.Test.YtgodhbliamlclaaDoorTake
import Derived.Test.YtgodhbliamlclaaDoorBytes
namespace Go.Proofs.YtgodhbliamlclaaDoor
open Go.RowKit
set_option linter.unusedVariables false

def sumB (s : ByteArray) : Nat := chk s.data.toList
theorem sumB_lt (s : ByteArray) : sumB s < 65536 := chk_lt _
theorem and_low (x : Nat) (h : x < 2 ^ 62) : bits .and .i64 (x : Int) 65535 = ((x % 65536 : Nat) : Int) := by
  have := bits_mask .i64 62 (by decide) wrap_i64_id 16 (by decide) (x : Int) (by omega) (by omega)
  simpa using this

theorem not_u16 (n : Nat) (h : n ≤ 65535) : bits .xor .u16 IntKind.u16.max (n : Int) = ((65535 - n : Nat) : Int) := by
  show IntKind.u16.wrap ((BitVec.ofInt 16 ((65535 : Nat) : Int) ^^^ BitVec.ofInt 16 (n : Int)).toNat : Int) = _
  rw [BitVec.toNat_xor]
  simp only [BitVec.toNat_ofInt, IntKind.wrap, IntKind.bits, IntKind.signed]
  have h1 : (((65535 : Nat) : Int) % ((2 ^ 16 : Nat) : Int)).toNat = 65535 := by rfl
  have h2 : ((n : Int) % ((2 ^ 16 : Nat) : Int)).toNat = n := by omega
  rw [h1, h2]
  have e : 65535 ^^^ n = 65535 - n := by
    have h := congrArg BitVec.toNat (@BitVec.allOnes_xor 16 (BitVec.ofNat 16 n))
    rw [BitVec.toNat_xor, BitVec.toNat_not, BitVec.toNat_allOnes, BitVec.toNat_ofNat, Nat.mod_eq_of_lt (by omega)] at h
    exact h
  rw [e]
  simp
  omega

set_option maxHeartbeats 2000000 in
theorem check16_any (s : ByteArray) (hs : s.size ≤ 1000000) (w : World) :
    Calls Tryd.prog 14 #[.string s] w fun e w' => e = .returned (.int .u16 (sumB s : Nat)) ∧ Below w.heap.size w w' := by
  have HS := Lib.hid (show s.size ≤ maxLen by unfold maxLen; omega)
  have HR := Lib.hid (show sumB s = 65535 - fold16 (psum s.data.toList) from rfl)
  generalize sumB s = r at *
  have hpl := psum_le s.data.toList
  rw [← size_list] at hpl
  obtain ⟨c, hc⟩ : ∃ c : Nat, c = (s.size + 1) / 2 := ⟨_, rfl⟩
  have hcs : c ≤ 500001 := by omega
  have HC2 := Lib.hid (show ((s.size : Int) + 1) / 2 = (c : Int) by omega)
  have HC := Lib.hid hc
  clear hc
  go_enter Tryd.func14, Tryd.ntmps14
  go_wp2_with fail
  refine (taker_made s w).mono ?_
  rintro e w1 ⟨rfl, ht1, hb1⟩
  have HB1 := Lib.hid hb1
  have HT1 := Lib.hid ht1
  have HA := Lib.hid (show w.heap.size ≤ w.heap.size + 1 by omega)
  generalize w.heap.size + 1 = Ba at *
  have HBs := Lib.hid (show w.heap.size ≤ w.heap.size by omega)
  generalize hBs : (w.heap.size : Nat) = Bs at HT1
  clear ht1 hb1 hBs
  go_wp2_with fail
  obtain ⟨P, hP⟩ : ∃ P : Nat → Nat, P = fun k => psum (s.data.toList.take (2 * k)) := ⟨_, rfl⟩
  obtain ⟨M, hM⟩ : ∃ M : Nat → Nat, M = fun k => num s.data.toList (2 * k) := ⟨_, rfl⟩
  have hc := HC.out
  have HP0 := Lib.hid (show P 0 = 0 by rw [hP]; rfl)
  have HPc := Lib.hid (show P c = psum s.data.toList by rw [hP]; show psum (List.take _ _) = _; rw [List.take_of_length_le (by rw [← size_list]; omega)])
  have HPs := Lib.hid (show ∀ k, k < c → P (k + 1) = P k + M k from fun k hk => by rw [hP, hM]; exact psum_take _ k (by rw [← size_list]; omega))
  have HPl := Lib.hid (show ∀ k, k ≤ c → P k ≤ 65535 * k from fun k hk => by
    rw [hP]
    refine Nat.le_trans (psum_le _) (Nat.mul_le_mul_left _ ?_)
    rw [List.length_take]
    omega)
  have HML := Lib.hid (show ∀ k, M k < 65536 from fun k => by rw [hM]; exact num_lt _ _)
  have HN := Lib.hid (show ∀ k W, k < c → Tk W Bs Ba s (min (2 * k) s.size) → Calls Tryd.prog 24 #[nextV Bs Ba] W fun e W' => e = .returned (.int .i64 (M k : Nat)) ∧ Tk W' Bs Ba s (min (2 * (k + 1)) s.size) ∧ W.grownBy W' (some Ba) from fun k W hk h => by
    rw [Nat.min_eq_left (by omega)] at h
    rw [hM]
    exact number_any Bs Ba s HS.out (2 * k) (by omega) W h)
  have HQ := Lib.hid hpl
  clear hpl hM hP hc
  go_loopw [4, 11] (fun sm i wr => ∃ k : Nat, k ≤ c ∧ i = .int .i64 k ∧ sm = .int .i64 (P k : Nat) ∧ Hid (Tk wr Bs Ba s (min (2 * k) s.size) ∧ Below w.heap.size w wr)) (fun _ i _ => c - (intOf i).toNat)
  case atStart => exact ⟨0, by omega, rfl, by rw [HP0.out]; rfl, Lib.hid ⟨by rw [Nat.min_eq_left (by omega)]; exact HT1.out, HB1.out⟩⟩
  case round =>
    obtain ⟨k, hk, rfl, rfl, HR1⟩ := hrel
    by_cases hlt : k < c
    · have hlt2 : (k : Int) < ((s.size : Int) + 1) / 2 := by rw [HC2.out]; omega
      have hp := HPl.out k hk
      have hm := HML.out k
      have HPk := Lib.hid (HPs.out k hlt)
      go_wp2_with fail
      refine (HN.out k wr hlt HR1.out.1).mono ?_
      rintro e w2 ⟨rfl, ht2, hg2⟩
      have HT2 := Lib.hid ht2
      have HB2 := Lib.hid (HR1.out.2.trans (below_of_grown hg2 HR1.out.2.size HA.out))
      clear ht2 hg2
      generalize M k = m at *
      generalize P k = n at *
      go_wp2_with fail
      go_roundw
      case rel =>
        exact ⟨k + 1, by omega, by go_num, by rw [HPk.out]; go_num, Lib.hid ⟨HT2.out, HB2.out⟩⟩
      case measure => simp [intOf]; omega
    · obtain rfl : k = c := by omega
      rw [HPc.out]
      have hle2 : ((s.size : Int) + 1) / 2 ≤ (k : Int) := by rw [HC2.out]; exact Int.le_refl _
      have hq := HQ.out
      have HB2 := Lib.hid HR1.out.2
      clear HR1
      generalize psum s.data.toList = n0 at *
      go_wp2_with fail
      go_loopw [4] (fun sm wr => ∃ n : Nat, sm = .int .i64 n ∧ n ≤ 65535 * 500001 ∧ Hid (fold16 n = fold16 n0 ∧ Below w.heap.size w wr)) (fun sm _ => (intOf sm).toNat)
      case atStart => exact ⟨n0, rfl, by omega, Lib.hid ⟨rfl, HB2.out⟩⟩
      case round =>
        obtain ⟨n, rfl, hn, HF⟩ := hrel
        by_cases hbig : 65535 < n
        · have ha := and_low n (by omega)
          have hst := fold16_step hbig
          have HF2 := Lib.hid (show fold16 (n % 65536 + n / 65536) = fold16 n0 from hst.trans HF.out.1)
          clear hst
          go_wp2_with fail
          go_roundw
          case rel =>
            exact ⟨n % 65536 + n / 65536, by go_num, by omega, Lib.hid ⟨HF2.out, HF.out.2⟩⟩
          case measure => simp [intOf]; omega
        · have HF2 := Lib.hid (show r = 65535 - n by rw [HR.out, ← HF.out.1, fold16_small (by omega)])
          go_wp2_with fail
          go_ret
          refine ⟨?_, HF.out.2⟩
          rw [HF2.out, ← not_u16 n (by omega)]
          rfl

set_option maxHeartbeats 2000000 in
theorem rcheck16_any (s : ByteArray) (hs : s.size ≤ 1000000) (w : World) :
    Calls Tryd.prog 15 #[.string s] w fun e w' => e = .returned (.int .u16 (sumB s : Nat)) ∧ w = w' := by
  have HR := Lib.hid (show sumB s = 65535 - fold16 (psum s.data.toList) from rfl)
  generalize sumB s = r at *
  have hpl := psum_le s.data.toList
  rw [← size_list] at hpl
  have HQ := Lib.hid hpl
  obtain ⟨P, hP⟩ : ∃ P : Nat → Nat, P = fun j => psum (s.data.toList.take j) := ⟨_, rfl⟩
  have hstep : ∀ j, j % 2 = 0 → j < s.size → P (j + 2) = P j + num s.data.toList j := fun j h2 hj => by
    have := psum_take s.data.toList (j / 2) (by rw [← size_list]; omega)
    rw [show 2 * (j / 2 + 1) = j + 2 by omega, show 2 * (j / 2) = j by omega] at this
    rw [hP]
    exact this
  have HP0 := Lib.hid (show P 0 = 0 by rw [hP]; rfl)
  have HPc := Lib.hid (show ∀ k, s.size ≤ k → P k = psum s.data.toList from fun k hk => by rw [hP]; show psum (List.take _ _) = _; rw [List.take_of_length_le (by rw [← size_list]; omega)])
  have HPs := Lib.hid (show ∀ j (h : j + 1 < s.size), j % 2 = 0 → P (j + 2) = P j + ((s[j]'(by omega)).toNat * 256 + (s[j + 1]'h).toNat) from fun j hj h2 => by
    rw [hstep j h2 (by omega), num, byteAt_byte (by omega), byteAt_byte hj])
  have HPo := Lib.hid (show ∀ j (h : j < s.size), ¬ j + 1 < s.size → j % 2 = 0 → P (j + 2) = P j + (s[j]'h).toNat * 256 from fun j hj hj2 h2 => by
    rw [hstep j h2 hj, num, byteAt_byte hj, byteAt_out (i := j + 1) (by rw [← size_list]; omega), Nat.add_zero])
  have HPl := Lib.hid (show ∀ k, k ≤ s.size + 1 → P k ≤ 65535 * 500001 from fun k hk => by
    rw [hP]
    refine Nat.le_trans (psum_le _) (Nat.mul_le_mul_left _ ?_)
    rw [List.length_take, ← size_list]
    omega)
  clear hpl hP hstep
  go_enter Tryd.func15, Tryd.ntmps15
  go_wp2_with fail
  go_loopw [3, 4] (fun sm i wr => w = wr ∧ ∃ j : Nat, j ≤ s.size + 1 ∧ j % 2 = 0 ∧ i = .int .i64 j ∧ sm = .int .i64 (P j : Nat)) (fun _ i _ => s.size + 2 - (intOf i).toNat)
  case atStart => exact ⟨rfl, 0, by omega, rfl, rfl, by rw [HP0.out]; rfl⟩
  case round =>
    obtain ⟨rfl, j, hj, hev, rfl, rfl⟩ := hrel
    have hp := HPl.out j hj
    by_cases hlt : j < s.size
    · by_cases hlt2 : j + 1 < s.size
      · have hb1 : s[j].toNat < 256 := s[j].toNat_lt
        have hb2 : s[j + 1].toNat < 256 := s[j + 1].toNat_lt
        have HPk := Lib.hid (HPs.out j hlt2 hev)
        have z1 : (j : Int) < (s.size : Int) := by omega
        have z2 : (j : Int) + 1 < (s.size : Int) := by omega
        have z3 : ((j : Int) + 1).toNat = j + 1 := by omega
        generalize P j = n at *
        go_wp2_with fail
        go_roundw
        case rel =>
          exact ⟨trivial, j + 2, by omega, by omega, by go_num, by rw [HPk.out]; go_num⟩
        case measure => simp [intOf]; omega
      · have hb1 : s[j].toNat < 256 := s[j].toNat_lt
        have HPk := Lib.hid (HPo.out j hlt hlt2 hev)
        have z1 : (j : Int) < (s.size : Int) := by omega
        have z2 : ¬ (j : Int) + 1 < (s.size : Int) := by omega
        generalize P j = n at *
        go_wp2_with fail
        go_roundw
        case rel =>
          exact ⟨trivial, j + 2, by omega, by omega, by go_num, by rw [HPk.out]; go_num⟩
        case measure => simp [intOf]; omega
    · rw [HPc.out j (by omega)]
      rw [HPc.out j (by omega)] at hp
      have z1 : ¬ (j : Int) < (s.size : Int) := by omega
      generalize psum s.data.toList = n0 at *
      go_wp2_with fail
      go_loopw [3] (fun sm wr => w = wr ∧ ∃ n : Nat, sm = .int .i64 n ∧ n ≤ 65535 * 500001 ∧ Hid (fold16 n = fold16 n0)) (fun sm _ => (intOf sm).toNat)
      case atStart => exact ⟨rfl, n0, rfl, by omega, Lib.hid rfl⟩
      case round =>
        obtain ⟨rfl, n, rfl, hn, HF⟩ := hrel
        by_cases hbig : 65535 < n
        · have hst := fold16_step hbig
          have HF2 := Lib.hid (show fold16 (n % 65536 + n / 65536) = fold16 n0 from hst.trans HF.out)
          clear hst
          go_wp2_with fail
          go_roundw
          case rel => exact ⟨trivial, n % 65536 + n / 65536, by go_num, by omega, HF2⟩
          case measure => simp [intOf]; omega
        · have HF2 := Lib.hid (show r = 65535 - n by rw [HR.out, ← HF.out, fold16_small (by omega)])
          go_wp2_with fail
          go_ret
          refine ⟨?_, rfl⟩
          rw [HF2.out, show (((65535 - n : Nat)) : Int) = 65535 - (n : Int) by omega]
          rfl
end Go.Proofs.YtgodhbliamlclaaDoor
