/-
  A sum under a key as plain functions on texts, and the document's answer to it.
-/
import Derived.Test.YthfiebdpoleeeaaDoorRefD
namespace Go.Proofs.YthfiebdpoleeeaaDoor
open Go.RowKit
set_option linter.unusedVariables false

theorem digestOf_size (s : ByteArray) : (digestOf s).size = 32 := by
  rw [size_list]
  show (digest s.data.toList).length = 32
  unfold digest
  rw [flat_length, regs_length]
/-- A key, or its digest if it is longer than 64 bytes. -/
def keyText (key : ByteArray) : ByteArray := if 64 < key.size then digestOf key else key
theorem keyText_short {key : ByteArray} (h : ¬ 64 < key.size) : keyText key = key := by unfold keyText; rw [if_neg h]
theorem keyText_long {key : ByteArray} (h : 64 < key.size) : keyText key = digestOf key := by unfold keyText; rw [if_pos h]
theorem keyText_size (key : ByteArray) : (keyText key).size ≤ 64 := by
  by_cases h : 64 < key.size
  · rw [keyText_long h, digestOf_size]; omega
  · rw [keyText_short h]; omega
/-- Byte i of a key's block. -/
def keyAt (k : ByteArray) (i : Nat) : UInt8 := k.data.toList.getD i 0
def blockList (k : ByteArray) (x : UInt8) : List UInt8 := (List.range 64).map fun i => keyAt k i ^^^ x
def blockOf (key : ByteArray) (x : UInt8) : ByteArray := ⟨(blockList (keyText key) x).toArray⟩
def hmacOf (key s : ByteArray) : ByteArray := digestOf (blockOf key 92 ++ digestOf (blockOf key 54 ++ s))
theorem blockList_length (k : ByteArray) (x : UInt8) : (blockList k x).length = 64 := by simp [blockList]
theorem blockOf_size (key : ByteArray) (x : UInt8) : (blockOf key x).size = 64 := by rw [size_list]; exact blockList_length _ _
theorem hmacOf_size (key s : ByteArray) : (hmacOf key s).size = 32 := digestOf_size _
theorem blockList_take (k : ByteArray) (x : UInt8) (i : Nat) (h : i < 64) : (blockList k x).take (i + 1) = (blockList k x).take i ++ [keyAt k i ^^^ x] := by
  rw [List.take_succ_eq_append_getElem (by rw [blockList_length]; exact h)]
  congr 2
  simp [blockList]
theorem keyAt_in (k : ByteArray) (i : Nat) (h : i < k.size) : keyAt k i = k[i] := by
  unfold keyAt
  rw [List.getD_eq_getElem?_getD, List.getElem?_eq_getElem (by simpa using h)]
  rfl
theorem keyAt_out (k : ByteArray) (i : Nat) (h : ¬ i < k.size) : keyAt k i = 0 := by
  unfold keyAt
  rw [List.getD_eq_getElem?_getD, List.getElem?_eq_none (by simp; omega)]
  rfl

set_option maxHeartbeats 1000000 in
set_option maxRecDepth 100000 in
theorem rkey_short (key : ByteArray) (hk : key.size ≤ 64) (x : UInt8) (z : Int) (hz : z = (x.toNat : Int)) (w : World) :
    Calls Tryd.prog 34 #[.string key, .int .u8 z] w fun e w' => e = .returned (.string ⟨(blockList key x).toArray⟩) ∧ Below w.heap.size w w' := by
  subst hz
  obtain ⟨i0, hi0, hz0, hz1, hz2⟩ := info_parts info8
  have HI := Lib.hid hi0
  have HZ0 := Lib.hid hz0
  have HZ1 := Lib.hid hz1
  have HZ2 := Lib.hid hz2
  clear hi0 hz0 hz1 hz2
  go_enter Tryd.func34, Tryd.ntmps34
  go_wp2_with fail
  go_loopw [5, 6] (fun v i wr => ∃ m : Nat, m ≤ 64 ∧ i = .int .i64 m ∧ Hid (wr.ownsRow w.heap.size 5 1 v m (((blockList key x).take m).map enc8) ∧ Below w.heap.size w wr)) (fun _ i _ => 64 - (intOf i).toNat)
  case atStart => exact ⟨0, by omega, rfl, Lib.hid ⟨World.ownsRow_nil _ _ _ _, Below.refl _ _⟩⟩
  case round =>
    obtain ⟨m, hm, rfl, HR⟩ := hrel
    by_cases hm8 : m < 64
    · have hbt := blockList_take key x m hm8
      have hs2 := HR.out.2.size
      by_cases hin : m < key.size
      · have hx := u8_xor_nat key[m].toNat x.toNat key[m].toNat_lt x.toNat_lt
        rw [← UInt8.toNat_xor, ← keyAt_in key m hin] at hx
        generalize keyAt key m ^^^ x = y at *
        rw [keyAt_in key m hin] at hx
        have HBT := Lib.hid hbt
        clear hbt
        go_wp2_with (at_builtin; refine wpList_append_own _ rfl (.tmp 24) (.tmp 28) 78 rfl w.heap.size 5 i0 (.int .u8 0) 1 1 Tryd.underlying78 HI.out HZ0.out HZ1.out HZ2.out rfl (by decide) _ _ _ rfl (HR.out.1.alloc _) ⟨wr.heap.size, 0, none⟩ 1 1 [enc8 y] rfl rfl ?c1 ?c2 ?c3 ?c4 ?c5 ?_)
        case c1 => exact new_cells wr _ _
        case c2 => intro u hu; simp at hu; subst hu; rfl
        case c3 => simp only [maxLen]; omega
        case c4 => omega
        case c5 => simp; omega
        intro v2 w2 hown2 hg2 _
        have HB2 := Lib.hid (below_append (HR.out.2.alloc hs2 _) (by simp; omega) (HR.out.1.alloc _) hg2)
        have HO2 := Lib.hid hown2
        clear hown2 hg2
        go_wp2_with fail
        go_roundw
        case rel =>
          refine ⟨m + 1, by omega, by go_num, Lib.hid ⟨?_, HB2.out⟩⟩
          have h := HO2.out
          rw [HBT.out]
          simpa using h
        case measure => simp [intOf]; omega
      · have hx := u8_xor_nat 0 x.toNat (by omega) x.toNat_lt
        rw [Nat.zero_xor] at hx
        have hy : keyAt key m ^^^ x = x := by
          rw [keyAt_out key m hin]
          apply UInt8.toNat_inj.1
          rw [UInt8.toNat_xor]
          simp
        rw [hy] at hbt
        have HBT := Lib.hid hbt
        clear hbt hy
        rw [show ((0 : Nat) : Int) = 0 from rfl] at hx
        go_wp2_with (at_builtin; refine wpList_append_own _ rfl (.tmp 24) (.tmp 28) 78 rfl w.heap.size 5 i0 (.int .u8 0) 1 1 Tryd.underlying78 HI.out HZ0.out HZ1.out HZ2.out rfl (by decide) _ _ _ rfl (HR.out.1.alloc _) ⟨wr.heap.size, 0, none⟩ 1 1 [enc8 x] rfl rfl ?d1 ?d2 ?d3 ?d4 ?d5 ?_)
        case d1 => exact new_cells wr _ _
        case d2 => intro u hu; simp at hu; subst hu; rfl
        case d3 => simp only [maxLen]; omega
        case d4 => omega
        case d5 => simp; omega
        intro v2 w2 hown2 hg2 _
        have HB2 := Lib.hid (below_append (HR.out.2.alloc hs2 _) (by simp; omega) (HR.out.1.alloc _) hg2)
        have HO2 := Lib.hid hown2
        clear hown2 hg2
        go_wp2_with fail
        go_roundw
        case rel =>
          refine ⟨m + 1, by omega, by go_num, Lib.hid ⟨?_, HB2.out⟩⟩
          have h := HO2.out
          rw [HBT.out]
          simpa using h
        case measure => simp [intOf]; omega
    · obtain rfl : m = 64 := by omega
      have ht := text_own HR.out.1
      rw [List.take_of_length_le (Nat.le_of_eq (blockList_length _ _))] at ht
      rw [show ((64 : Nat) : Int) = 64 from rfl]
      go_wp2_with fail
      go_ret
      exact ⟨rfl, HR.out.2⟩

set_option maxHeartbeats 2000000 in
set_option maxRecDepth 100000 in
theorem rkey_long (key : ByteArray) (hk : 64 < key.size) (hm : key.size ≤ 1000000) (x : UInt8) (z : Int) (hz : z = (x.toNat : Int)) (w : World) :
    Calls Tryd.prog 34 #[.string key, .int .u8 z] w fun e w' => e = .returned (.string ⟨(blockList (digestOf key) x).toArray⟩) ∧ Below w.heap.size w w' := by
  subst hz
  obtain ⟨i0, hi0, hz0, hz1, hz2⟩ := info_parts info8
  have HI := Lib.hid hi0
  have HZ0 := Lib.hid hz0
  have HZ1 := Lib.hid hz1
  have HZ2 := Lib.hid hz2
  clear hi0 hz0 hz1 hz2
  have hks : (digestOf key).size ≤ 64 := by rw [digestOf_size]; omega
  have PS := Lib.hid (fun W => rsum_any key hm W)
  generalize digestOf key = kd at *
  go_enter Tryd.func34, Tryd.ntmps34
  go_wp2_with fail
  refine (PS.out w).mono ?_
  rintro e w1 ⟨rfl, hb1⟩
  have HB1 := Lib.hid hb1
  clear hb1
  go_wp2_with fail
  go_loopw [5, 6] (fun v i wr => ∃ m : Nat, m ≤ 64 ∧ i = .int .i64 m ∧ Hid (wr.ownsRow w.heap.size 5 1 v m (((blockList kd x).take m).map enc8) ∧ Below w.heap.size w wr)) (fun _ i _ => 64 - (intOf i).toNat)
  case atStart => exact ⟨0, by omega, rfl, Lib.hid ⟨World.ownsRow_nil _ _ _ _, HB1.out⟩⟩
  case round =>
    obtain ⟨m, hm, rfl, HR⟩ := hrel
    by_cases hm8 : m < 64
    · have hbt := blockList_take kd x m hm8
      have hs2 := HR.out.2.size
      by_cases hin : m < kd.size
      · have hx := u8_xor_nat kd[m].toNat x.toNat kd[m].toNat_lt x.toNat_lt
        rw [← UInt8.toNat_xor, ← keyAt_in kd m hin] at hx
        generalize keyAt kd m ^^^ x = y at *
        rw [keyAt_in kd m hin] at hx
        have HBT := Lib.hid hbt
        clear hbt
        go_wp2_with (at_builtin; refine wpList_append_own _ rfl (.tmp 24) (.tmp 28) 78 rfl w.heap.size 5 i0 (.int .u8 0) 1 1 Tryd.underlying78 HI.out HZ0.out HZ1.out HZ2.out rfl (by decide) _ _ _ rfl (HR.out.1.alloc _) ⟨wr.heap.size, 0, none⟩ 1 1 [enc8 y] rfl rfl ?c1 ?c2 ?c3 ?c4 ?c5 ?_)
        case c1 => exact new_cells wr _ _
        case c2 => intro u hu; simp at hu; subst hu; rfl
        case c3 => simp only [maxLen]; omega
        case c4 => omega
        case c5 => simp; omega
        intro v2 w2 hown2 hg2 _
        have HB2 := Lib.hid (below_append (HR.out.2.alloc hs2 _) (by simp; omega) (HR.out.1.alloc _) hg2)
        have HO2 := Lib.hid hown2
        clear hown2 hg2
        go_wp2_with fail
        go_roundw
        case rel =>
          refine ⟨m + 1, by omega, by go_num, Lib.hid ⟨?_, HB2.out⟩⟩
          have h := HO2.out
          rw [HBT.out]
          simpa using h
        case measure => simp [intOf]; omega
      · have hx := u8_xor_nat 0 x.toNat (by omega) x.toNat_lt
        rw [Nat.zero_xor] at hx
        have hy : keyAt kd m ^^^ x = x := by
          rw [keyAt_out kd m hin]
          apply UInt8.toNat_inj.1
          rw [UInt8.toNat_xor]
          simp
        rw [hy] at hbt
        have HBT := Lib.hid hbt
        clear hbt hy
        rw [show ((0 : Nat) : Int) = 0 from rfl] at hx
        go_wp2_with (at_builtin; refine wpList_append_own _ rfl (.tmp 24) (.tmp 28) 78 rfl w.heap.size 5 i0 (.int .u8 0) 1 1 Tryd.underlying78 HI.out HZ0.out HZ1.out HZ2.out rfl (by decide) _ _ _ rfl (HR.out.1.alloc _) ⟨wr.heap.size, 0, none⟩ 1 1 [enc8 x] rfl rfl ?d1 ?d2 ?d3 ?d4 ?d5 ?_)
        case d1 => exact new_cells wr _ _
        case d2 => intro u hu; simp at hu; subst hu; rfl
        case d3 => simp only [maxLen]; omega
        case d4 => omega
        case d5 => simp; omega
        intro v2 w2 hown2 hg2 _
        have HB2 := Lib.hid (below_append (HR.out.2.alloc hs2 _) (by simp; omega) (HR.out.1.alloc _) hg2)
        have HO2 := Lib.hid hown2
        clear hown2 hg2
        go_wp2_with fail
        go_roundw
        case rel =>
          refine ⟨m + 1, by omega, by go_num, Lib.hid ⟨?_, HB2.out⟩⟩
          have h := HO2.out
          rw [HBT.out]
          simpa using h
        case measure => simp [intOf]; omega
    · obtain rfl : m = 64 := by omega
      have ht := text_own HR.out.1
      rw [List.take_of_length_le (Nat.le_of_eq (blockList_length _ _))] at ht
      rw [show ((64 : Nat) : Int) = 64 from rfl]
      go_wp2_with fail
      go_ret
      exact ⟨rfl, HR.out.2⟩
theorem rkey_any (key : ByteArray) (hm : key.size ≤ 1000000) (x : UInt8) (z : Int) (hz : z = (x.toNat : Int)) (w : World) :
    Calls Tryd.prog 34 #[.string key, .int .u8 z] w fun e w' => e = .returned (.string (blockOf key x)) ∧ Below w.heap.size w w' := by
  by_cases h : 64 < key.size
  · have g := rkey_long key h hm x z hz w
    rw [← keyText_long h] at g
    exact g
  · have g := rkey_short key (by omega) x z hz w
    unfold blockOf
    rw [keyText_short h]
    exact g
theorem rhmac_any (key s : ByteArray) (hk : key.size ≤ 900000) (hs : s.size ≤ 900000) (w : World) :
    Calls Tryd.prog 16 #[.string key, .string s] w fun e w' => e = .returned (.string (hmacOf key s)) ∧ Below w.heap.size w w' := by
  have HB := Lib.hid (Below.refl w.heap.size w)
  have h1 := blockOf_size key 54
  have h2 := blockOf_size key 92
  have h3 := digestOf_size (blockOf key 54 ++ s)
  have HH : Hid (hmacOf key s = digestOf (blockOf key 92 ++ digestOf (blockOf key 54 ++ s))) := Lib.hid rfl
  have K54 := Lib.hid (fun W => rkey_any key (by omega) 54 54 (by decide) W)
  have K92 := Lib.hid (fun W => rkey_any key (by omega) 92 92 (by decide) W)
  have g1 : (blockOf key 54 ++ s).size ≤ 1000000 := by rw [ByteArray.size_append]; omega
  have S1 := Lib.hid (fun W => rsum_any (blockOf key 54 ++ s) g1 W)
  generalize hd : digestOf (blockOf key 54 ++ s) = d at *
  have g2 : (blockOf key 92 ++ d).size ≤ 1000000 := by rw [ByteArray.size_append]; omega
  have S2 := Lib.hid (fun W => rsum_any (blockOf key 92 ++ d) g2 W)
  rw [HH.out]
  clear hd HH g1 g2
  generalize digestOf (blockOf key 92 ++ d) = r at *
  generalize blockOf key 54 = b1 at *
  generalize blockOf key 92 = b2 at *
  go_enter Tryd.func16, Tryd.ntmps16
  go_wp2_with (first
    | (go_at_call 34; ((with_reducible refine (K92.out _).mono ?_); rintro e w1 ⟨rfl, hb1⟩); replace HB := Lib.hid (HB.out.trans (hb1.mono HB.out.size)); clear hb1)
    | (go_at_call 34; ((with_reducible refine (K54.out _).mono ?_); rintro e w1 ⟨rfl, hb1⟩); replace HB := Lib.hid (HB.out.trans (hb1.mono HB.out.size)); clear hb1)
    | (go_at_call 33; ((with_reducible refine (S1.out _).mono ?_); rintro e w1 ⟨rfl, hb1⟩); replace HB := Lib.hid (HB.out.trans (hb1.mono HB.out.size)); clear hb1)
    | (go_at_call 33; ((with_reducible refine (S2.out _).mono ?_); rintro e w1 ⟨rfl, hb1⟩); replace HB := Lib.hid (HB.out.trans (hb1.mono HB.out.size)); clear hb1))
  go_ret
  exact ⟨rfl, HB.out⟩
/-- Whether two texts are the same. -/
def sameB (a b : ByteArray) : Bool := decide (a = b)
theorem sameB_true {a b : ByteArray} (h : a = b) : sameB a b = true := decide_eq_true h
theorem sameB_false {a b : ByteArray} (h : a ≠ b) : sameB a b = false := decide_eq_false h
theorem eqB_true {a b : ByteArray} (h : a = b) : (a.toList == b.toList) = true := by subst h; simp
theorem eqB_false {a b : ByteArray} (h : a ≠ b) : (a.toList == b.toList) = false := by
  rw [ByteArray.toList_eq, ByteArray.toList_eq]
  exact beq_eq_false_iff_ne.2 fun e => h (ByteArray.ext (Array.toList_inj.1 e))
theorem eqB_same (a b : ByteArray) : (a.toList == b.toList) = sameB a b := by
  by_cases h : a = b
  · rw [eqB_true h, sameB_true h]
  · rw [eqB_false h, sameB_false h]
end Go.Proofs.YthfiebdpoleeeaaDoor
