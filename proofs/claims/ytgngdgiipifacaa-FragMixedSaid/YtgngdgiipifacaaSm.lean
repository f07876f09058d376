/-
  The document's Cut: contract.
-/
import Derived.Test.YtgngdgiipifacaaSj
namespace Go.Proofs.Ytgngdgiipifacaa
open Go.RowKit
set_option linter.unusedVariables false
set_option linter.unusedSimpArgs false
set_option maxRecDepth 100000

theorem ext_ext (s : ByteArray) {a m : Nat} (ham : a + m ≤ s.size) : (s.extract a s.size).extract 0 m = s.extract a (a + m) ∧ (s.extract a s.size).extract m (s.extract a s.size).size = s.extract (a + m) s.size := by
  constructor
  · rw [ByteArray.extract_extract, Nat.add_zero, Nat.min_eq_left (by omega)]
  · rw [ByteArray.extract_extract, ByteArray.size_extract, Nat.min_self, show a + (s.size - a) = s.size by omega, Nat.min_self]
/-- Where the document's loop stands. -/
def AtC (s : ByteArray) (m at' : Nat) (acc : List ByteArray) : Prop := if at' < s.size then acc ++ cutL (s.extract at' s.size) m = cutL s m else acc = cutL s m
theorem AtC.start {s : ByteArray} {m : Nat} (h : 0 < s.size) : AtC s m 0 [] := by
  unfold AtC
  rw [if_pos h, ByteArray.extract_zero_size]; rfl
theorem AtC.next {s : ByteArray} {m a e : Nat} {acc : List ByteArray} (hm : 0 < m) (h : AtC s m a acc) (ha : a < s.size) (he : e = min (a + m) s.size) : AtC s m (a + m) (acc ++ [s.extract a e]) := by
  unfold AtC at *
  rw [if_pos ha] at h
  have hz : (s.extract a s.size).size = s.size - a := ext_back s a
  by_cases hlt : a + m < s.size
  · rw [if_pos hlt, ← h, cutL_step hm (x := s.extract a s.size) (by rw [hz]; omega), (ext_ext s (by omega)).1, (ext_ext s (by omega)).2, List.append_assoc, he, Nat.min_eq_left (by omega)]
    rfl
  · rw [if_neg hlt, ← h, cutL_last (by rw [hz]; omega), he, Nat.min_eq_right (by omega)]
set_option maxHeartbeats 2000000 in
theorem rcut_good (s : ByteArray) (m : Nat) (h0 : 0 < s.size) (h1 : s.size ≤ 20000) (h2 : 1 ≤ m) (h3 : m ≤ 1000) (w : World) :
    Calls Try.prog 11 #[.string s, .int .i64 (m : Int)] w fun e w' => CutR w w' e (cutL s m) 0 := by
  have q0 : ((s.size : Int) == 0) = false := by rw [beq_eq_false_iff_ne]; omega
  have q0' : s.size ≠ 0 := by omega
  have q1 : ¬ (m : Int) < 1 := by omega
  have q2 : ¬ (1000 : Int) < (m : Int) := by omega
  have q3 : ¬ (20000 : Int) < (s.size : Int) := by omega
  obtain ⟨i0, hi0, hz0, hz1, hz2⟩ := info_parts infoSTZ
  have HI := Lib.hid hi0
  have HZ0 := Lib.hid hz0
  have HZ1 := Lib.hid hz1
  have HZ2 := Lib.hid hz2
  clear hi0 hz0 hz1 hz2
  have HCL := Lib.hid (cut_len (show 0 < m by omega) s)
  have hdm : s.size / m ≤ 20000 := Nat.le_trans (Nat.div_le_self _ _) h1
  have HST := Lib.hid (AtC.start (m := m) h0)
  go_enter Try.func11, Try.ntmps11
  go_wp2_with fail
  clear q0 q0'
  go_loopw [6, 7] (fun v6 v7 wr => ∃ (a : Nat) (acc : List ByteArray) (A : Option Addr) (c : Nat), v6 = .slice A acc.length c ∧ v7 = .int .i64 a ∧ a ≤ 30000 ∧ Hid (AtC s m a acc) ∧ Hid (OwnG wr w.heap.size 9 1 (.slice A acc.length c) acc.length (acc.map encS)) ∧ Hid (Below w.heap.size w wr))
    (fun _ v7 _ => s.size - (intOf v7).toNat)
  case atStart => exact ⟨0, [], none, 0, rfl, rfl, Nat.zero_le _, HST, Lib.hid (OwnG.nil _ _ _ _), Lib.hid (Below.refl _ _)⟩
  case round =>
    obtain ⟨a, acc, A, c, rfl, rfl, ha3, HE, HO, HW⟩ := hrel
    have hws := HW.out.size
    by_cases hlt : a < s.size
    · obtain ⟨e, he⟩ : ∃ e, min (a + m) s.size = e := ⟨_, rfl⟩
      have HE2 := Lib.hid (HE.out.next (show 0 < m by omega) hlt he.symm)
      have hal : acc.length ≤ 20001 := by
        have h9 := HE.out
        unfold AtC at h9
        rw [if_pos hlt] at h9
        have h8 := congrArg List.length h9
        rw [List.length_append] at h8
        have := HCL.out
        omega
      have p1 : (a : Int) < (s.size : Int) := by omega
      have p0 : (0 : Int) ≤ (a : Int) := by omega
      have m1 : min ((a : Int) + (m : Int)) (s.size : Int) = (e : Int) := by omega
      have m2 : (if (s.size : Int) < (a : Int) + (m : Int) then (s.size : Int) else (a : Int) + (m : Int)) = (e : Int) := by split <;> omega
      have p2 : (a : Int) ≤ (e : Int) := by omega
      have p3 : (e : Int) ≤ (s.size : Int) := by omega
      have p4 : (s.size : Int) ≤ 20000 := by omega
      have p5 : IntKind.i64.wrap ((a : Int) + (m : Int)) = (a : Int) + (m : Int) := by rw [IntKind.wrap_i64]; omega
      have HLN : Hid ((acc ++ [s.extract a e]).length = acc.length + 1) := Lib.hid (by simp)
      have HMP : Hid ((acc ++ [s.extract a e]).map encS = acc.map encS ++ [.string (s.extract a e)]) := Lib.hid (by rw [List.map_append]; rfl)
      clear he
      go_wp2_with (at_builtin; refine wpList_append_fed _ rfl (.tmp 29) (.tmp 39) 23 23 rfl w.heap.size 9 i0 _ 1 16 Try.underlying23 (.inr ⟨_, Try.underlying23⟩) HI.out HZ0.out HZ1.out HZ2.out rfl _ _ _ rfl (HO.out.alloc _) _ 1 [.string (s.extract a e)] rfl (Fed.block (heap_alloc_new _ _) rfl (one_str _)) (by unfold maxLen; omega) (by omega) (by rw [World.size_alloc]; omega) ?_; intro v8 w8 hown hgr; replace HW := Lib.hid (((HW.out.alloc (by omega) _).grown hgr (by rw [World.size_alloc]; omega) (fun z hz => by have := (HO.out.lt z hz).1; omega))); obtain ⟨A8, k8, rfl, -, -, -⟩ := id hown.slice; have HO8 := Lib.hid hown; clear hown hgr)
      go_roundw
      case rel => exact ⟨a + m, acc ++ [s.extract a e], A8, k8, by rw [HLN.out], by first | rfl | (congr 1), by omega, HE2, by rw [HLN.out, HMP.out]; exact HO8, HW⟩
      case measure => simp [intOf]; omega
    · have p1 : ¬ (a : Int) < (s.size : Int) := by omega
      have HE2 : Hid (acc = cutL s m) := Lib.hid (by have h9 := HE.out; unfold AtC at h9; rw [if_neg hlt] at h9; exact h9)
      go_wp2_with fail
      go_ret2
      exact ⟨A, c, by rw [← HE2.out]; rfl, by rw [← HE2.out]; exact rowS_of_ownG HO.out, HW.out⟩
theorem rcut_bad (s : ByteArray) (m : Int) (hb : badM s m = true) (w : World) : Calls Try.prog 11 #[.string s, .int .i64 m] w fun e w' => CutR w w' e [] 1 := by
  by_cases h0 : s.size = 0
  · have q0 : ((s.size : Int) == 0) = true := by rw [h0]; rfl
    go_enter Try.func11, Try.ntmps11
    go_wp2_with fail
    go_ret2
    exact ⟨none, 0, rfl, rowS_nil _, Below.refl _ _⟩
  · have q0 : ((s.size : Int) == 0) = false := by rw [beq_eq_false_iff_ne]; omega
    by_cases h1 : m < 1
    · clear hb
      go_enter Try.func11, Try.ntmps11
      go_wp2_with fail
      go_ret2
      exact ⟨none, 0, rfl, rowS_nil _, Below.refl _ _⟩
    · have h2 : 1000 < m := by unfold badM at hb; simp [h0, h1] at hb; exact hb
      clear hb
      go_enter Try.func11, Try.ntmps11
      go_wp2_with fail
      go_ret2
      exact ⟨none, 0, rfl, rowS_nil _, Below.refl _ _⟩
theorem rcut_long (s : ByteArray) (m : Int) (hb : badM s m = false) (hs : 20000 < s.size) (w : World) : Calls Try.prog 11 #[.string s, .int .i64 m] w fun e w' => CutR w w' e [] 4 := by
  have q0 : ((s.size : Int) == 0) = false := by rw [beq_eq_false_iff_ne]; omega
  have q0' : s.size ≠ 0 := by omega
  have q1 : ¬ m < 1 := by unfold badM at hb; simp at hb; omega
  have q2 : ¬ 1000 < m := by unfold badM at hb; simp at hb; omega
  have q3 : (20000 : Int) < (s.size : Int) := by omega
  clear hb hs
  go_enter Try.func11, Try.ntmps11
  go_wp2_with fail
  go_ret2
  exact ⟨none, 0, rfl, rowS_nil _, Below.refl _ _⟩
theorem badM_no {s : ByteArray} {m : Int} (h : badM s m = false) : 0 < s.size ∧ 1 ≤ m ∧ m ≤ 1000 := by
  unfold badM at h
  rw [Bool.or_eq_false_iff, Bool.or_eq_false_iff, decide_eq_false_iff_not, decide_eq_false_iff_not, decide_eq_false_iff_not] at h
  omega
/-- Cut at both sides, in one contract. -/
theorem cut_any (s : ByteArray) (m : Int) (w : World) : Calls Try.prog 10 #[.string s, .int .i64 m] w fun e w' => CutR w w' e (cutP s m).1 (cutP s m).2 := by
  unfold cutP
  cases hb : badM s m with
  | true => exact cut_bad s m hb w
  | false =>
    have h9 := badM_no hb
    obtain ⟨k, rfl⟩ : ∃ k : Nat, m = (k : Int) := ⟨m.toNat, by omega⟩
    by_cases hs : 20000 < s.size
    · rw [if_neg (by decide), if_pos hs]; exact cut_long s _ hb hs w
    · rw [if_neg (by decide), if_neg hs, Int.toNat_natCast]; exact cut_good s k (by omega) (by omega) (by omega) (by omega) w
theorem rcut_any (s : ByteArray) (m : Int) (w : World) : Calls Try.prog 11 #[.string s, .int .i64 m] w fun e w' => CutR w w' e (cutP s m).1 (cutP s m).2 := by
  unfold cutP
  cases hb : badM s m with
  | true => exact rcut_bad s m hb w
  | false =>
    have h9 := badM_no hb
    obtain ⟨k, rfl⟩ : ∃ k : Nat, m = (k : Int) := ⟨m.toNat, by omega⟩
    by_cases hs : 20000 < s.size
    · rw [if_neg (by decide), if_pos hs]; exact rcut_long s _ hb hs w
    · rw [if_neg (by decide), if_neg hs, Int.toNat_natCast]; exact rcut_good s k (by omega) (by omega) (by omega) (by omega) w
theorem cutP_cases (s : ByteArray) (m : Int) : ((cutP s m).2 = 0 ∧ catB (cutP s m).1 = s ∧ (cutP s m).1.length ≤ 20001) ∨ (cutP s m).1 = [] ∧ ((cutP s m).2 = 1 ∨ (cutP s m).2 = 4) := by
  unfold cutP
  cases hb : badM s m with
  | true => rw [if_pos rfl]; exact .inr ⟨rfl, .inl rfl⟩
  | false =>
    have h9 := badM_no hb
    by_cases hs : 20000 < s.size
    · rw [if_neg (by decide), if_pos hs]; exact .inr ⟨rfl, .inr rfl⟩
    · rw [if_neg (by decide), if_neg hs]
      refine .inl ⟨rfl, cut_cat (by omega) s, ?_⟩
      have := cut_len (m := m.toNat) (by omega) s
      have := Nat.div_le_self s.size m.toNat
      show (cutL s m.toNat).length ≤ 20001
      omega
end Go.Proofs.Ytgngdgiipifacaa
