/-
  A sum under a key is the digest of the outer key and the digest of the inner one and the text: any text as a key, any text (a key of at most 300 bytes, a text of at most 1000; others are not asked of).
-/
import Derived.Test.YtjfambmdkinkiaaDoorLift
import Derived.Test.YtjfambmdkinkiaaDoorShown
import Derived.Test.YtjfambmdkinkiaaDoorLaid
import Derived.Test.YtjfambmdkinkiaaDoorCards
import Derived.Test.YtjfambmdkinkiaaDoorTie
import Derived.SevenTiedAt
import Derived.Test.YtjfambmdkinkiaaDoorText
import Derived.RegionCalls
import Derived.Deep.RegionHeld3
import Derived.Maps.AppendAt
namespace Go.Proofs.YtjfambmdkinkiaaDoor.hmacByTwo
open Go.ChangeShapes Go.WideShapes Go.ChangeAt Go.RowKit
set_option linter.unusedVariables false

/-- Two rows of the call's own that share no block. -/
def Apart (u v : Value) : Prop := ∀ g, u.ownBlock = some g → v.ownBlock = some g → False
theorem apart_left {w : World} {u u' v : Value} {base n H : Nat} {e : TypeId} {xs : List Value} (h : Apart u v) (hv : w.ownsRow base e 1 v n xs) (hH : w.heap.size = H) (hat : u'.ownBlock = u.ownBlock ∨ u'.ownBlock = some H) : Apart u' v := by
  intro g h1 h2
  rcases hat with hat | hat
  · exact h g (hat ▸ h1) h2
  · have := (hv.lt g h2).2
    rw [hat] at h1
    injection h1 with h1
    omega
theorem apart_swap {u v : Value} (h : Apart u v) : Apart v u := fun g h1 h2 => h g h2 h1
theorem apart_kept {u v : Value} (h : Apart u v) : v.ownBlock = none ∨ v.ownBlock ≠ u.ownBlock := by
  cases hv : v.ownBlock with
  | none => exact .inl rfl
  | some g => exact .inr fun e => h g e.symm hv

theorem own_below_w {w W : World} {base size n : Nat} {e : TypeId} {v : Value} {xs : List Value} (h : w.ownsRow base e size v n xs) (hW : Below w.heap.size w W) : W.ownsRow base e size v n xs := by
  refine ⟨h.1, ?_⟩
  rcases h.2 with h0 | ⟨g, cap, cur, hv, hg, hh, h1, h2, h3⟩
  · exact .inl h0
  · exact .inr ⟨g, cap, cur, hv, hg, (hW.block g (Array.getElem?_eq_some_iff.1 hh).1).trans hh, h1, h2, h3⟩

set_option maxHeartbeats 4000000 in
set_option maxRecDepth 100000 in
theorem walk_short (key : ByteArray) (s : ByteArray) (l1 : key.size ≤ 300) (l2 : s.size ≤ 1000) (hkk : ¬ 64 < key.size) (w : World) (hK : Kub w) :
    Calls Tryd.prog 5 #[.string key, .string s] w fun e w' => e = .returned (.bool true) ∧ Below w.heap.size w w' := by
  have HB := Lib.hid (Below.refl w.heap.size w)
  have HK := Lib.hid hK
  clear hK
  obtain ⟨i0, hi0, hz0, hz1, hz2⟩ := info_parts info8
  have HI := Lib.hid hi0
  have HZ0 := Lib.hid hz0
  have HZ1 := Lib.hid hz1
  have HZ2 := Lib.hid hz2
  clear hi0 hz0 hz1 hz2
  have HS := Lib.hid (fun W (h : Kub W) => hsum_any key s (by omega) (by omega) W h)
  have HH := Lib.hid (show hmacOf key s = digestOf (blockOf key 92 ++ digestOf (blockOf key 54 ++ s)) from rfl)
  have b1 := blockOf_size key 54
  have b2 := blockOf_size key 92
  have HK1 := Lib.hid (show (⟨(blockList (keyText key) 54).toArray⟩ : ByteArray) = blockOf key 54 from rfl)
  have HK2 := Lib.hid (show (⟨(blockList (keyText key) 92).toArray⟩ : ByteArray) = blockOf key 92 from rfl)
  have s1 := fun W (h : Kub W) => sum_any (blockOf key 54 ++ s) (by rw [ByteArray.size_append]; omega) W h
  have S1 := Lib.hid s1
  have b3 := digestOf_size (blockOf key 54 ++ s)
  have s2 := fun W (h : Kub W) => sum_any (blockOf key 92 ++ digestOf (blockOf key 54 ++ s)) (by rw [ByteArray.size_append]; omega) W h
  rw [← HH.out] at s2
  have S2 := Lib.hid s2
  clear s1 s2 HH
  generalize digestOf (blockOf key 54 ++ s) = d at *
  generalize blockOf key 54 = t1 at *
  generalize blockOf key 92 = t2 at *
  generalize hmacOf key s = r at *
  have q1 : ¬ 9223372036854775807 < t1.size + s.size := by omega
  have q2 : ¬ 9223372036854775807 < t2.size + d.size := by omega
  rw [keyText_short hkk] at HK1 HK2
  clear b1 b2 b3 HB
  go_enter Tryd.func5, Tryd.ntmps5
  go_wp2_with (go_at_call 7; refine (shown_any _ HK.out).mono ?_; rintro e w1 ⟨rfl, hb1⟩; have HBZ := Lib.hid hb1; clear hb1)
  go_loopw [7, 8, 9] (fun u v i wr => ∃ m : Nat, m ≤ 64 ∧ i = .int .i64 m ∧ Hid (wr.ownsRow w1.heap.size 5 1 u m (((blockList key 54).take m).map enc8) ∧ wr.ownsRow w1.heap.size 5 1 v m (((blockList key 92).take m).map enc8) ∧ Below w1.heap.size w1 wr ∧ Apart u v)) (fun _ _ i _ => 64 - (intOf i).toNat)
  case atStart => exact ⟨0, by omega, rfl, Lib.hid ⟨World.ownsRow_nil _ _ _ _, World.ownsRow_nil _ _ _ _, Below.refl _ _, fun g h => by cases h⟩⟩
  case round =>
    obtain ⟨m, hm, rfl, HR⟩ := hrel
    by_cases hm8 : m < 64
    · have ht1 := blockList_take key 54 m hm8
      have ht2 := blockList_take key 92 m hm8
      have hs2 := HR.out.2.2.1.size
      by_cases hin : m < key.size
      · skip
        have hx1 := u8_xor_nat key[m].toNat 54 key[m].toNat_lt (by omega)
        have hx2 := u8_xor_nat key[m].toNat 92 key[m].toNat_lt (by omega)
        have hy1 : (keyAt key m ^^^ 54).toNat = key[m].toNat ^^^ 54 := by rw [keyAt_in key m hin, UInt8.toNat_xor]; rfl
        have hy2 : (keyAt key m ^^^ 92).toNat = key[m].toNat ^^^ 92 := by rw [keyAt_in key m hin, UInt8.toNat_xor]; rfl
        rw [← hy1] at hx1
        rw [← hy2] at hx2
        clear hy1 hy2
        generalize keyAt key m ^^^ 54 = y1 at *
        generalize keyAt key m ^^^ 92 = y2 at *
        have HT1 := Lib.hid ht1
        have HT2 := Lib.hid ht2
        clear ht1 ht2
        rw [show (((54 : Nat)) : Int) = 54 from rfl] at hx1
        rw [show (((92 : Nat)) : Int) = 92 from rfl] at hx2
        skip
        go_wp2_with (at_builtin; refine wpList_append_own_at _ rfl (.tmp 42) (.tmp 45) 28 rfl w1.heap.size 5 i0 (.int .u8 0) 1 1 Tryd.underlying28 HI.out HZ0.out HZ1.out HZ2.out rfl (by decide) _ _ _ rfl (HR.out.1.alloc _) ⟨_, 0, none⟩ 1 1 [enc8 y1] rfl rfl ?a1 ?a2 ?a3 ?a4 ?a5 ?_)
        case a1 => exact new_cells wr _ _
        case a2 => intro u hu; simp at hu; subst hu; rfl
        case a3 => simp only [maxLen]; omega
        case a4 => omega
        case a5 => simp; omega
        intro v2 w2 hown2 hg2 _ hat2
        have HB2 := Lib.hid (below_append (HR.out.2.2.1.alloc hs2 _) (by simp; omega) (HR.out.1.alloc _) hg2)
        have HO2 := Lib.hid hown2
        have HP2 := Lib.hid ((HR.out.2.1.alloc _).kept hg2 (apart_kept HR.out.2.2.2))
        have HA2 := Lib.hid (apart_left HR.out.2.2.2 (HR.out.2.1.alloc (.cells #[enc8 y1] 5)) (by simp) hat2)
        have hs3 := HB2.out.size
        clear hown2 hg2 hat2
        go_wp2_with (at_builtin; refine wpList_append_own_at _ rfl (.tmp 47) (.tmp 50) 28 rfl w1.heap.size 5 i0 (.int .u8 0) 1 1 Tryd.underlying28 HI.out HZ0.out HZ1.out HZ2.out rfl (by decide) _ _ _ rfl (HP2.out.alloc _) ⟨_, 0, none⟩ 1 1 [enc8 y2] rfl rfl ?ax1 ?ax2 ?ax3 ?ax4 ?ax5 ?_)
        case ax1 => exact new_cells w2 _ _
        case ax2 => intro u hu; simp at hu; subst hu; rfl
        case ax3 => simp only [maxLen]; omega
        case ax4 => omega
        case ax5 => simp; omega
        intro v3 w3 hown3 hg3 _ hat3
        have HB3 := Lib.hid (below_append (HB2.out.alloc hs3 _) (by simp; omega) (HP2.out.alloc _) hg3)
        have HO3 := Lib.hid hown3
        have HP3 := Lib.hid ((HO2.out.alloc _).kept hg3 (apart_kept (apart_swap HA2.out)))
        have HA3 := Lib.hid (apart_swap (apart_left (apart_swap HA2.out) (HO2.out.alloc (.cells #[enc8 y2] 5)) (by simp) hat3))
        clear hown3 hg3 hat3
        go_wp2_with fail
        go_roundw
        case rel =>
          refine ⟨m + 1, by omega, by go_num, Lib.hid ⟨?_, ?_, HB3.out, HA3.out⟩⟩
          · have h := HP3.out
            rw [HT1.out]
            simpa using h
          · have h := HO3.out
            rw [HT2.out]
            simpa using h
        case measure => simp [intOf]; omega
      · skip
        have hx1 := u8_xor_nat 0 54 (by omega) (by omega)
        have hx2 := u8_xor_nat 0 92 (by omega) (by omega)
        have hy1 : (keyAt key m ^^^ 54).toNat = 0 ^^^ 54 := by rw [keyAt_out key m hin]; rfl
        have hy2 : (keyAt key m ^^^ 92).toNat = 0 ^^^ 92 := by rw [keyAt_out key m hin]; rfl
        rw [← hy1] at hx1
        rw [← hy2] at hx2
        clear hy1 hy2
        generalize keyAt key m ^^^ 54 = y1 at *
        generalize keyAt key m ^^^ 92 = y2 at *
        have HT1 := Lib.hid ht1
        have HT2 := Lib.hid ht2
        clear ht1 ht2
        rw [show (((54 : Nat)) : Int) = 54 from rfl] at hx1
        rw [show (((92 : Nat)) : Int) = 92 from rfl] at hx2
        try rw [show ((0 : Nat) : Int) = 0 from rfl] at hx1 hx2
        go_wp2_with (at_builtin; refine wpList_append_own_at _ rfl (.tmp 42) (.tmp 45) 28 rfl w1.heap.size 5 i0 (.int .u8 0) 1 1 Tryd.underlying28 HI.out HZ0.out HZ1.out HZ2.out rfl (by decide) _ _ _ rfl (HR.out.1.alloc _) ⟨_, 0, none⟩ 1 1 [enc8 y1] rfl rfl ?b1 ?b2 ?b3 ?b4 ?b5 ?_)
        case b1 => exact new_cells wr _ _
        case b2 => intro u hu; simp at hu; subst hu; rfl
        case b3 => simp only [maxLen]; omega
        case b4 => omega
        case b5 => simp; omega
        intro v2 w2 hown2 hg2 _ hat2
        have HB2 := Lib.hid (below_append (HR.out.2.2.1.alloc hs2 _) (by simp; omega) (HR.out.1.alloc _) hg2)
        have HO2 := Lib.hid hown2
        have HP2 := Lib.hid ((HR.out.2.1.alloc _).kept hg2 (apart_kept HR.out.2.2.2))
        have HA2 := Lib.hid (apart_left HR.out.2.2.2 (HR.out.2.1.alloc (.cells #[enc8 y1] 5)) (by simp) hat2)
        have hs3 := HB2.out.size
        clear hown2 hg2 hat2
        go_wp2_with (at_builtin; refine wpList_append_own_at _ rfl (.tmp 47) (.tmp 50) 28 rfl w1.heap.size 5 i0 (.int .u8 0) 1 1 Tryd.underlying28 HI.out HZ0.out HZ1.out HZ2.out rfl (by decide) _ _ _ rfl (HP2.out.alloc _) ⟨_, 0, none⟩ 1 1 [enc8 y2] rfl rfl ?bx1 ?bx2 ?bx3 ?bx4 ?bx5 ?_)
        case bx1 => exact new_cells w2 _ _
        case bx2 => intro u hu; simp at hu; subst hu; rfl
        case bx3 => simp only [maxLen]; omega
        case bx4 => omega
        case bx5 => simp; omega
        intro v3 w3 hown3 hg3 _ hat3
        have HB3 := Lib.hid (below_append (HB2.out.alloc hs3 _) (by simp; omega) (HP2.out.alloc _) hg3)
        have HO3 := Lib.hid hown3
        have HP3 := Lib.hid ((HO2.out.alloc _).kept hg3 (apart_kept (apart_swap HA2.out)))
        have HA3 := Lib.hid (apart_swap (apart_left (apart_swap HA2.out) (HO2.out.alloc (.cells #[enc8 y2] 5)) (by simp) hat3))
        clear hown3 hg3 hat3
        go_wp2_with fail
        go_roundw
        case rel =>
          refine ⟨m + 1, by omega, by go_num, Lib.hid ⟨?_, ?_, HB3.out, HA3.out⟩⟩
          · have h := HP3.out
            rw [HT1.out]
            simpa using h
          · have h := HO3.out
            rw [HT2.out]
            simpa using h
        case measure => simp [intOf]; omega
    · obtain rfl : m = 64 := by omega
      rw [show ((64 : Nat) : Int) = 64 from rfl]
      have r1 := HR.out.1
      have r2 := HR.out.2.1
      rw [List.take_of_length_le (Nat.le_of_eq (blockList_length _ _))] at r1 r2
      have HBW := Lib.hid HR.out.2.2.1
      have k1 := fun W (hW : Below wr.heap.size wr W) => text_own (own_below_w r1 hW)
      have k2 := fun W (hW : Below wr.heap.size wr W) => text_own (own_below_w r2 hW)
      rw [HK1.out] at k1
      rw [HK2.out] at k2
      have HKC := Lib.hid (show ∀ W, Below wr.heap.size wr W → (convert 28 9 u7).run Tryd.prog W = .ok (.string t1) W ∧ (convert 28 9 u8).run Tryd.prog W = .ok (.string t2) W from fun W hW => ⟨k1 W hW, k2 W hW⟩)
      clear r1 r2 k1 k2 HR
      have HKR := Lib.hid (HK.out.later (HBZ.out.trans (HBW.out.mono HBZ.out.size)))
      have HU := Lib.hid (show ∀ W, Below wr.heap.size wr W → Calls Tryd.prog 9 #[.string key, .string s] W fun e w' => e = .returned (.string r) ∧ ((convert 28 9 u7).run Tryd.prog w' = .ok (.string t1) w' ∧ (convert 28 9 u8).run Tryd.prog w' = .ok (.string t2) w') ∧ Below wr.heap.size wr w' from
        fun W hW => (HS.out W (HKR.out.later hW)).mono fun e w' ⟨he, hb⟩ => ⟨he, HKC.out _ (hW.trans (hb.mono hW.size)), hW.trans (hb.mono hW.size)⟩)
      have HV := Lib.hid (show ∀ W, Below wr.heap.size wr W → Calls Tryd.prog 12 #[.string (t1 ++ s)] W fun e w' => e = .returned (.string d) ∧ ((convert 28 9 u7).run Tryd.prog w' = .ok (.string t1) w' ∧ (convert 28 9 u8).run Tryd.prog w' = .ok (.string t2) w') ∧ Below wr.heap.size wr w' from
        fun W hW => (S1.out W (HKR.out.later hW)).mono fun e w' ⟨he, hb⟩ => ⟨he, HKC.out _ (hW.trans (hb.mono hW.size)), hW.trans (hb.mono hW.size)⟩)
      have HX := Lib.hid (show ∀ W, Below wr.heap.size wr W → Calls Tryd.prog 12 #[.string (t2 ++ d)] W fun e w' => e = .returned (.string r) ∧ ((convert 28 9 u7).run Tryd.prog w' = .ok (.string t1) w' ∧ (convert 28 9 u8).run Tryd.prog w' = .ok (.string t2) w') ∧ Below wr.heap.size wr w' from
        fun W hW => (S2.out W (HKR.out.later hW)).mono fun e w' ⟨he, hb⟩ => ⟨he, HKC.out _ (hW.trans (hb.mono hW.size)), hW.trans (hb.mono hW.size)⟩)
      have HZZ := Lib.hid (HBZ.out.trans (HBW.out.mono HBZ.out.size))
      have HKC0 := Lib.hid (show (((convert 28 9 u7).run Tryd.prog wr.drew = .ok (.string t1) wr.drew ∧ (convert 28 9 u8).run Tryd.prog wr.drew = .ok (.string t2) wr.drew) ∧ Below wr.heap.size wr wr.drew) from ⟨HKC.out _ (Below.refl wr.heap.size wr).drew, (Below.refl wr.heap.size wr).drew⟩)
      clear HS S1 S2 HBW HK1 HK2 HI HZ0 HZ1 HZ2
      go_wp2_with fail
      go_region_held3 (fun w' => ((convert 28 9 u7).run Tryd.prog w' = .ok (.string t1) w' ∧ (convert 28 9 u8).run Tryd.prog w' = .ok (.string t2) w') ∧ Below wr.heap.size wr w')
        (first | exact HKC0.out | (go_split_ands; refine ⟨⟨?_, ?_⟩, ?_⟩ <;> assumption))
        (first
          | (go_at_call 9; go_split_ands; (with_reducible refine (HU.out _ ?_).mono ?_); assumption; rintro e w2 ⟨rfl, ⟨hk2, hk3⟩, hb2⟩)
          | (go_at_call 12; go_split_ands; (with_reducible refine (HV.out _ ?_).mono ?_); assumption; rintro e w2 ⟨rfl, ⟨hk2, hk3⟩, hb2⟩)
          | (go_at_call 12; go_split_ands; (with_reducible refine (HX.out _ ?_).mono ?_); assumption; rintro e w2 ⟨rfl, ⟨hk2, hk3⟩, hb2⟩))
      all_goals
        go_wp2_with fail
        go_ret
        exact ⟨rfl, HZZ.out.trans (hb2.mono HZZ.out.size)⟩
set_option maxHeartbeats 4000000 in
set_option maxRecDepth 100000 in
theorem walk_long (key : ByteArray) (s : ByteArray) (l1 : key.size ≤ 300) (l2 : s.size ≤ 1000) (hkk : 64 < key.size) (w : World) (hK : Kub w) :
    Calls Tryd.prog 5 #[.string key, .string s] w fun e w' => e = .returned (.bool true) ∧ Below w.heap.size w w' := by
  have HB := Lib.hid (Below.refl w.heap.size w)
  have HK := Lib.hid hK
  clear hK
  obtain ⟨i0, hi0, hz0, hz1, hz2⟩ := info_parts info8
  have HI := Lib.hid hi0
  have HZ0 := Lib.hid hz0
  have HZ1 := Lib.hid hz1
  have HZ2 := Lib.hid hz2
  clear hi0 hz0 hz1 hz2
  have HS := Lib.hid (fun W (h : Kub W) => hsum_any key s (by omega) (by omega) W h)
  have HH := Lib.hid (show hmacOf key s = digestOf (blockOf key 92 ++ digestOf (blockOf key 54 ++ s)) from rfl)
  have b1 := blockOf_size key 54
  have b2 := blockOf_size key 92
  have HK1 := Lib.hid (show (⟨(blockList (keyText key) 54).toArray⟩ : ByteArray) = blockOf key 54 from rfl)
  have HK2 := Lib.hid (show (⟨(blockList (keyText key) 92).toArray⟩ : ByteArray) = blockOf key 92 from rfl)
  have s1 := fun W (h : Kub W) => sum_any (blockOf key 54 ++ s) (by rw [ByteArray.size_append]; omega) W h
  have S1 := Lib.hid s1
  have b3 := digestOf_size (blockOf key 54 ++ s)
  have s2 := fun W (h : Kub W) => sum_any (blockOf key 92 ++ digestOf (blockOf key 54 ++ s)) (by rw [ByteArray.size_append]; omega) W h
  rw [← HH.out] at s2
  have S2 := Lib.hid s2
  clear s1 s2 HH
  generalize digestOf (blockOf key 54 ++ s) = d at *
  generalize blockOf key 54 = t1 at *
  generalize blockOf key 92 = t2 at *
  generalize hmacOf key s = r at *
  have q1 : ¬ 9223372036854775807 < t1.size + s.size := by omega
  have q2 : ¬ 9223372036854775807 < t2.size + d.size := by omega
  rw [keyText_long hkk] at HK1 HK2
  have hks := digestOf_size key
  have hkl : (digestOf key).size ≤ 64 := by omega
  have SD := Lib.hid (fun W (h : Kub W) => sum_any key (by omega) W h)
  clear b1 b2 b3 hks
  generalize digestOf key = kd at *
  go_enter Tryd.func5, Tryd.ntmps5
  go_wp2_with fail
  refine (shown_any _ HK.out).mono ?_
  rintro e wa ⟨rfl, hba⟩
  go_wp2_with fail
  refine (SD.out _ (HK.out.later hba)).mono ?_
  rintro e w1 ⟨rfl, hb1⟩
  have HBZ := Lib.hid (hba.trans (hb1.mono hba.size))
  clear hba hb1 HB
  go_wp2_with fail
  go_loopw [7, 8, 9] (fun u v i wr => ∃ m : Nat, m ≤ 64 ∧ i = .int .i64 m ∧ Hid (wr.ownsRow w1.heap.size 5 1 u m (((blockList kd 54).take m).map enc8) ∧ wr.ownsRow w1.heap.size 5 1 v m (((blockList kd 92).take m).map enc8) ∧ Below w1.heap.size w1 wr ∧ Apart u v)) (fun _ _ i _ => 64 - (intOf i).toNat)
  case atStart => exact ⟨0, by omega, rfl, Lib.hid ⟨World.ownsRow_nil _ _ _ _, World.ownsRow_nil _ _ _ _, Below.refl _ _, fun g h => by cases h⟩⟩
  case round =>
    obtain ⟨m, hm, rfl, HR⟩ := hrel
    by_cases hm8 : m < 64
    · have ht1 := blockList_take kd 54 m hm8
      have ht2 := blockList_take kd 92 m hm8
      have hs2 := HR.out.2.2.1.size
      by_cases hin : m < kd.size
      · skip
        have hx1 := u8_xor_nat kd[m].toNat 54 kd[m].toNat_lt (by omega)
        have hx2 := u8_xor_nat kd[m].toNat 92 kd[m].toNat_lt (by omega)
        have hy1 : (keyAt kd m ^^^ 54).toNat = kd[m].toNat ^^^ 54 := by rw [keyAt_in kd m hin, UInt8.toNat_xor]; rfl
        have hy2 : (keyAt kd m ^^^ 92).toNat = kd[m].toNat ^^^ 92 := by rw [keyAt_in kd m hin, UInt8.toNat_xor]; rfl
        rw [← hy1] at hx1
        rw [← hy2] at hx2
        clear hy1 hy2
        generalize keyAt kd m ^^^ 54 = y1 at *
        generalize keyAt kd m ^^^ 92 = y2 at *
        have HT1 := Lib.hid ht1
        have HT2 := Lib.hid ht2
        clear ht1 ht2
        rw [show (((54 : Nat)) : Int) = 54 from rfl] at hx1
        rw [show (((92 : Nat)) : Int) = 92 from rfl] at hx2
        skip
        go_wp2_with (at_builtin; refine wpList_append_own_at _ rfl (.tmp 42) (.tmp 45) 28 rfl w1.heap.size 5 i0 (.int .u8 0) 1 1 Tryd.underlying28 HI.out HZ0.out HZ1.out HZ2.out rfl (by decide) _ _ _ rfl (HR.out.1.alloc _) ⟨_, 0, none⟩ 1 1 [enc8 y1] rfl rfl ?a1 ?a2 ?a3 ?a4 ?a5 ?_)
        case a1 => exact new_cells wr _ _
        case a2 => intro u hu; simp at hu; subst hu; rfl
        case a3 => simp only [maxLen]; omega
        case a4 => omega
        case a5 => simp; omega
        intro v2 w2 hown2 hg2 _ hat2
        have HB2 := Lib.hid (below_append (HR.out.2.2.1.alloc hs2 _) (by simp; omega) (HR.out.1.alloc _) hg2)
        have HO2 := Lib.hid hown2
        have HP2 := Lib.hid ((HR.out.2.1.alloc _).kept hg2 (apart_kept HR.out.2.2.2))
        have HA2 := Lib.hid (apart_left HR.out.2.2.2 (HR.out.2.1.alloc (.cells #[enc8 y1] 5)) (by simp) hat2)
        have hs3 := HB2.out.size
        clear hown2 hg2 hat2
        go_wp2_with (at_builtin; refine wpList_append_own_at _ rfl (.tmp 47) (.tmp 50) 28 rfl w1.heap.size 5 i0 (.int .u8 0) 1 1 Tryd.underlying28 HI.out HZ0.out HZ1.out HZ2.out rfl (by decide) _ _ _ rfl (HP2.out.alloc _) ⟨_, 0, none⟩ 1 1 [enc8 y2] rfl rfl ?ax1 ?ax2 ?ax3 ?ax4 ?ax5 ?_)
        case ax1 => exact new_cells w2 _ _
        case ax2 => intro u hu; simp at hu; subst hu; rfl
        case ax3 => simp only [maxLen]; omega
        case ax4 => omega
        case ax5 => simp; omega
        intro v3 w3 hown3 hg3 _ hat3
        have HB3 := Lib.hid (below_append (HB2.out.alloc hs3 _) (by simp; omega) (HP2.out.alloc _) hg3)
        have HO3 := Lib.hid hown3
        have HP3 := Lib.hid ((HO2.out.alloc _).kept hg3 (apart_kept (apart_swap HA2.out)))
        have HA3 := Lib.hid (apart_swap (apart_left (apart_swap HA2.out) (HO2.out.alloc (.cells #[enc8 y2] 5)) (by simp) hat3))
        clear hown3 hg3 hat3
        go_wp2_with fail
        go_roundw
        case rel =>
          refine ⟨m + 1, by omega, by go_num, Lib.hid ⟨?_, ?_, HB3.out, HA3.out⟩⟩
          · have h := HP3.out
            rw [HT1.out]
            simpa using h
          · have h := HO3.out
            rw [HT2.out]
            simpa using h
        case measure => simp [intOf]; omega
      · skip
        have hx1 := u8_xor_nat 0 54 (by omega) (by omega)
        have hx2 := u8_xor_nat 0 92 (by omega) (by omega)
        have hy1 : (keyAt kd m ^^^ 54).toNat = 0 ^^^ 54 := by rw [keyAt_out kd m hin]; rfl
        have hy2 : (keyAt kd m ^^^ 92).toNat = 0 ^^^ 92 := by rw [keyAt_out kd m hin]; rfl
        rw [← hy1] at hx1
        rw [← hy2] at hx2
        clear hy1 hy2
        generalize keyAt kd m ^^^ 54 = y1 at *
        generalize keyAt kd m ^^^ 92 = y2 at *
        have HT1 := Lib.hid ht1
        have HT2 := Lib.hid ht2
        clear ht1 ht2
        rw [show (((54 : Nat)) : Int) = 54 from rfl] at hx1
        rw [show (((92 : Nat)) : Int) = 92 from rfl] at hx2
        try rw [show ((0 : Nat) : Int) = 0 from rfl] at hx1 hx2
        go_wp2_with (at_builtin; refine wpList_append_own_at _ rfl (.tmp 42) (.tmp 45) 28 rfl w1.heap.size 5 i0 (.int .u8 0) 1 1 Tryd.underlying28 HI.out HZ0.out HZ1.out HZ2.out rfl (by decide) _ _ _ rfl (HR.out.1.alloc _) ⟨_, 0, none⟩ 1 1 [enc8 y1] rfl rfl ?b1 ?b2 ?b3 ?b4 ?b5 ?_)
        case b1 => exact new_cells wr _ _
        case b2 => intro u hu; simp at hu; subst hu; rfl
        case b3 => simp only [maxLen]; omega
        case b4 => omega
        case b5 => simp; omega
        intro v2 w2 hown2 hg2 _ hat2
        have HB2 := Lib.hid (below_append (HR.out.2.2.1.alloc hs2 _) (by simp; omega) (HR.out.1.alloc _) hg2)
        have HO2 := Lib.hid hown2
        have HP2 := Lib.hid ((HR.out.2.1.alloc _).kept hg2 (apart_kept HR.out.2.2.2))
        have HA2 := Lib.hid (apart_left HR.out.2.2.2 (HR.out.2.1.alloc (.cells #[enc8 y1] 5)) (by simp) hat2)
        have hs3 := HB2.out.size
        clear hown2 hg2 hat2
        go_wp2_with (at_builtin; refine wpList_append_own_at _ rfl (.tmp 47) (.tmp 50) 28 rfl w1.heap.size 5 i0 (.int .u8 0) 1 1 Tryd.underlying28 HI.out HZ0.out HZ1.out HZ2.out rfl (by decide) _ _ _ rfl (HP2.out.alloc _) ⟨_, 0, none⟩ 1 1 [enc8 y2] rfl rfl ?bx1 ?bx2 ?bx3 ?bx4 ?bx5 ?_)
        case bx1 => exact new_cells w2 _ _
        case bx2 => intro u hu; simp at hu; subst hu; rfl
        case bx3 => simp only [maxLen]; omega
        case bx4 => omega
        case bx5 => simp; omega
        intro v3 w3 hown3 hg3 _ hat3
        have HB3 := Lib.hid (below_append (HB2.out.alloc hs3 _) (by simp; omega) (HP2.out.alloc _) hg3)
        have HO3 := Lib.hid hown3
        have HP3 := Lib.hid ((HO2.out.alloc _).kept hg3 (apart_kept (apart_swap HA2.out)))
        have HA3 := Lib.hid (apart_swap (apart_left (apart_swap HA2.out) (HO2.out.alloc (.cells #[enc8 y2] 5)) (by simp) hat3))
        clear hown3 hg3 hat3
        go_wp2_with fail
        go_roundw
        case rel =>
          refine ⟨m + 1, by omega, by go_num, Lib.hid ⟨?_, ?_, HB3.out, HA3.out⟩⟩
          · have h := HP3.out
            rw [HT1.out]
            simpa using h
          · have h := HO3.out
            rw [HT2.out]
            simpa using h
        case measure => simp [intOf]; omega
    · obtain rfl : m = 64 := by omega
      rw [show ((64 : Nat) : Int) = 64 from rfl]
      have r1 := HR.out.1
      have r2 := HR.out.2.1
      rw [List.take_of_length_le (Nat.le_of_eq (blockList_length _ _))] at r1 r2
      have HBW := Lib.hid HR.out.2.2.1
      have k1 := fun W (hW : Below wr.heap.size wr W) => text_own (own_below_w r1 hW)
      have k2 := fun W (hW : Below wr.heap.size wr W) => text_own (own_below_w r2 hW)
      rw [HK1.out] at k1
      rw [HK2.out] at k2
      have HKC := Lib.hid (show ∀ W, Below wr.heap.size wr W → (convert 28 9 u7).run Tryd.prog W = .ok (.string t1) W ∧ (convert 28 9 u8).run Tryd.prog W = .ok (.string t2) W from fun W hW => ⟨k1 W hW, k2 W hW⟩)
      clear r1 r2 k1 k2 HR
      have HKR := Lib.hid (HK.out.later (HBZ.out.trans (HBW.out.mono HBZ.out.size)))
      have HU := Lib.hid (show ∀ W, Below wr.heap.size wr W → Calls Tryd.prog 9 #[.string key, .string s] W fun e w' => e = .returned (.string r) ∧ ((convert 28 9 u7).run Tryd.prog w' = .ok (.string t1) w' ∧ (convert 28 9 u8).run Tryd.prog w' = .ok (.string t2) w') ∧ Below wr.heap.size wr w' from
        fun W hW => (HS.out W (HKR.out.later hW)).mono fun e w' ⟨he, hb⟩ => ⟨he, HKC.out _ (hW.trans (hb.mono hW.size)), hW.trans (hb.mono hW.size)⟩)
      have HV := Lib.hid (show ∀ W, Below wr.heap.size wr W → Calls Tryd.prog 12 #[.string (t1 ++ s)] W fun e w' => e = .returned (.string d) ∧ ((convert 28 9 u7).run Tryd.prog w' = .ok (.string t1) w' ∧ (convert 28 9 u8).run Tryd.prog w' = .ok (.string t2) w') ∧ Below wr.heap.size wr w' from
        fun W hW => (S1.out W (HKR.out.later hW)).mono fun e w' ⟨he, hb⟩ => ⟨he, HKC.out _ (hW.trans (hb.mono hW.size)), hW.trans (hb.mono hW.size)⟩)
      have HX := Lib.hid (show ∀ W, Below wr.heap.size wr W → Calls Tryd.prog 12 #[.string (t2 ++ d)] W fun e w' => e = .returned (.string r) ∧ ((convert 28 9 u7).run Tryd.prog w' = .ok (.string t1) w' ∧ (convert 28 9 u8).run Tryd.prog w' = .ok (.string t2) w') ∧ Below wr.heap.size wr w' from
        fun W hW => (S2.out W (HKR.out.later hW)).mono fun e w' ⟨he, hb⟩ => ⟨he, HKC.out _ (hW.trans (hb.mono hW.size)), hW.trans (hb.mono hW.size)⟩)
      have HZZ := Lib.hid (HBZ.out.trans (HBW.out.mono HBZ.out.size))
      have HKC0 := Lib.hid (show (((convert 28 9 u7).run Tryd.prog wr.drew = .ok (.string t1) wr.drew ∧ (convert 28 9 u8).run Tryd.prog wr.drew = .ok (.string t2) wr.drew) ∧ Below wr.heap.size wr wr.drew) from ⟨HKC.out _ (Below.refl wr.heap.size wr).drew, (Below.refl wr.heap.size wr).drew⟩)
      clear HS S1 S2 HBW HK1 HK2 HI HZ0 HZ1 HZ2
      go_wp2_with fail
      go_region_held3 (fun w' => ((convert 28 9 u7).run Tryd.prog w' = .ok (.string t1) w' ∧ (convert 28 9 u8).run Tryd.prog w' = .ok (.string t2) w') ∧ Below wr.heap.size wr w')
        (first | exact HKC0.out | (go_split_ands; refine ⟨⟨?_, ?_⟩, ?_⟩ <;> assumption))
        (first
          | (go_at_call 9; go_split_ands; (with_reducible refine (HU.out _ ?_).mono ?_); assumption; rintro e w2 ⟨rfl, ⟨hk2, hk3⟩, hb2⟩)
          | (go_at_call 12; go_split_ands; (with_reducible refine (HV.out _ ?_).mono ?_); assumption; rintro e w2 ⟨rfl, ⟨hk2, hk3⟩, hb2⟩)
          | (go_at_call 12; go_split_ands; (with_reducible refine (HX.out _ ?_).mono ?_); assumption; rintro e w2 ⟨rfl, ⟨hk2, hk3⟩, hb2⟩))
      all_goals
        go_wp2_with fail
        go_ret
        exact ⟨rfl, HZZ.out.trans (hb2.mono HZZ.out.size)⟩
set_option maxHeartbeats 1000000 in
set_option maxRecDepth 100000 in
theorem walk (key : ByteArray) (hk : key.size ≤ maxLen) (s : ByteArray) (hs : s.size ≤ maxLen) (w : World) (hK : Kub w) :
    Calls Tryd.prog 5 #[.string key, .string s] w fun e w' => e = .returned (.bool true) ∧ Below w.heap.size w w' := by
  have HB := Lib.hid (Below.refl w.heap.size w)
  have HK := Lib.hid hK
  clear hK
  unfold maxLen at hk hs
  by_cases hbig : 300 < key.size ∨ 1000 < s.size
  · rcases (by omega : 300 < key.size ∨ (key.size ≤ 300 ∧ 1000 < s.size)) with g1 | ⟨g1, g2⟩
    all_goals
      clear hbig
      go_enter Tryd.func5, Tryd.ntmps5
      go_wp2_with (go_at_call 7; ((with_reducible refine (shown_any _ (HK.out.later HB.out)).mono ?_); rintro e w1 ⟨rfl, hb1⟩); replace HB := Lib.hid (HB.out.trans (hb1.mono HB.out.size)); clear hb1)
      go_ret
      exact ⟨rfl, HB.out⟩
  by_cases hkk : 64 < key.size
  · exact walk_long key s (by omega) (by omega) hkk w HK.out
  · exact walk_short key s (by omega) (by omega) hkk w HK.out

set_option maxRecDepth 100000 in
theorem lifted (os : Os) (started : os.Started) (H : Type) (enc : TypeId × Value → H) :
    ReturnsInHanded {} Tryd.checked os 5 .any (fun w args => (Rows.hmacByTwoSpec.pre enc Tryd.prog Tryd.f5 [] false w args ∧ laidMetH Tryd.prog laidK w) ∧ sizedMet enc Tryd.prog Tryd.f5 (OpenSpec.ofChange Rows.hmacByTwoSpec) false w args) (Rows.hmacByTwoSpec.post enc Tryd.prog Tryd.f5 false true false false) := by
  refine returnsInHanded_of_change_and (C := Tryd.checked) (X := fun w _ => laidMetH Tryd.prog laidK w) (fun _ _ _ hh h => h.of_heap hh) own started (by kernel_rfl) Tryd.func5
    (ChangeSpec.witness_shaped (enc := enc) (C := Tryd.checked) (os := os) (X := fun w _ => laidMetH Tryd.prog laidK w) false (World.doorLaid Tryd.prog 14 os) #[.string ⟨#[]⟩, .string ⟨#[]⟩] 8 rfl (World.shaped_of_RefB (by kernel_rfl) (by kernel_rfl)) (by kernel_rfl) (by kernel_rfl) (by kernel_rfl) (door_met os _)) ?_
  intro W base args ds gs before hval0 hW _ hreach hL _
  have hval : ∀ (j : Nat) t v, Tryd.f5.params[j]? = some t → args[j]? = some v → Value.okWide Tryd.prog W .any base t v := hval0
  obtain ⟨p, q, hA0, _, _, _, _⟩ := id hW
  have hA : DataW.TrodAll enc Tryd.prog W 0 (fun _ => true) true Tryd.f5.params.toList args.toList ds p := hA0
  rw [Tryd.params5] at hA hval
  obtain ⟨v0, vs0, d0, ds0, p0, q0, hargs, rfl, rfl, h0, r0⟩ := trodAll_cons hA
  obtain ⟨v1, vs1, d1, ds1, p1, q1, rfl, rfl, rfl, h1, r1⟩ := trodAll_cons r0
  obtain ⟨rfl, rfl, rfl⟩ := trodAll_nil r1
  obtain rfl : args = #[v0, v1] := by cases args; simp_all
  obtain ⟨a0, rfl, rfl, rfl, w0⟩ := Go.ChangeMaps.open_string Tryd.underlying9 (hval 0 9 v0 rfl rfl) h0
  obtain ⟨a1, rfl, rfl, rfl, w1⟩ := Go.ChangeMaps.open_string Tryd.underlying9 (hval 1 9 v1 rfl rfl) h1
  refine (walk a0 w0 a1 w1 W (kub_of_laid hL)).mono fun e W' ⟨he, hg⟩ => ?_
  subst he
  exact ⟨_, rfl, law_post laidOut Tryd.underlying4 (by kernel_rfl) (by kernel_rfl) rfl hW (by simp [Rows.hmacByTwoSpec]) hg⟩

theorem row_proved : Rows.HmacByTwoSaid :=
  OpenClaim.holds_of_wide 5 Tryd.f5 rfl rfl rfl rfl rfl rfl rfl ⟨rfl, rfl, rfl, rfl, rfl⟩ rfl rfl rfl rfl rfl (by kernel_rfl) Tryd.func5 (by kernel_rfl)
    (of_decide_eq_true (by kernel_rfl)) (by unfold Func.isWrapper; first | (rw [if_pos (by decide +kernel)]; kernel_rfl) | (rw [if_neg (by decide +kernel)]; exact ⟨rfl, rfl⟩))
    (fun os started H enc _ => lifted os started H enc)

theorem proved : Rows.HmacByTwoCardSaid :=
  Claim7.holds_tied_plain_at .later [] [.data] true _ _
    row_proved (fun _ h => by cases h) (by kernel_rfl) (fun _ h => by cases h) hmacByTwo_row_tie rfl ⟨rfl, rfl⟩ (by kernel_rfl) rfl
    (fun f fn hf hfn => by
      obtain rfl : f = 5 := Option.some.inj ((show Tryd.prog.funcNamed "towline/towlinelaw4.HmacByTwo" = some 5 by kernel_rfl).symm.trans hf) |>.symm
      obtain rfl : fn = Tryd.f5 := (Option.some.inj (Tryd.func5.symm.trans hfn)).symm
      exact ⟨by kernel_rfl, fun j t ht => by
        rw [Tryd.params5] at ht
        have hm : t ∈ [9] := by have := Array.mem_of_getElem? ht; simp at this; simp; omega
        have hall : ([9].all fun u => !Tryd.prog.wantsStandIn u) = true := by kernel_rfl
        exact (show Tryd.prog.wantsStandIn t = false by simpa using List.all_eq_true.1 hall t hm)⟩)
    (by kernel_rfl)
#print axioms proved
end Go.Proofs.YtjfambmdkinkiaaDoor.hmacByTwo
