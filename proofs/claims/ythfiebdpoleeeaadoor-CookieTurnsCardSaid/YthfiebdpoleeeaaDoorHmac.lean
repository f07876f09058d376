/-
  Package hmac: the block of a key; Sum; Same; Check.
-/
import Derived.Test.YthfiebdpoleeeaaDoorSame
import Derived.Test.YthfiebdpoleeeaaDoorMarked
namespace Go.Proofs.YthfiebdpoleeeaaDoor
open Go.RowKit
set_option linter.unusedVariables false

/-- A key with noughts behind it up to 64 bytes. -/
def noughtsB (n : Nat) : ByteArray := ⟨Array.replicate n (0 : UInt8)⟩
theorem noughtsB_size (n : Nat) : (noughtsB n).size = n := by
  show (Array.replicate n (0 : UInt8)).size = n
  rw [Array.size_replicate]
theorem noughtsB_is (n : Nat) : (⟨(Lib.repeatL (⟨#[0]⟩ : ByteArray).data.toList n).toArray⟩ : ByteArray) = noughtsB n := by
  rw [show (⟨#[0]⟩ : ByteArray).data.toList = [0] from rfl, repeat_nought]
  unfold noughtsB
  simp
def padKey (k : ByteArray) : ByteArray := k ++ noughtsB (64 - k.size)
theorem padKey_size {k : ByteArray} (h : k.size ≤ 64) : (padKey k).size = 64 := by
  unfold padKey
  rw [ByteArray.size_append, noughtsB_size]
  omega
theorem marked_block {k : ByteArray} (h : k.size ≤ 64) (x : UInt8) : markedList (padKey k) x = blockList k x := by
  have hl : k.data.toList.length = k.size := by simp
  rw [markedList_is]
  unfold padKey blockList noughtsB
  apply List.ext_getElem
  · simp
    omega
  · intro i h1 h2
    have hi : i < 64 := by simpa using h2
    simp only [List.getElem_map, List.getElem_range]
    congr 1
    unfold keyAt
    rw [List.getD_eq_getElem?_getD]
    simp only [ByteArray.data_append, Array.toList_append]
    rw [List.getElem_append]
    split
    · rename_i h3
      rw [List.getElem?_eq_getElem h3]
      rfl
    · rename_i h3
      rw [List.getElem?_eq_none (by omega)]
      simp
theorem same_any (a b : ByteArray) (ha : a.size ≤ 900000) (hb : b.size ≤ 900000) (w : World) : Calls Tryd.prog 49 #[.string a, .string b] w fun e w' => e = .returned (.bool (sameB a b)) ∧ Below w.heap.size w w' := by
  by_cases hab : a.size = b.size
  · exact callsIn_wide.1 (same_long a b ha hab w)
  · have hs : sameB a b = false := sameB_false fun e => hab (by rw [e])
    rw [hs]
    exact callsIn_wide.1 (same_short a b hab w)

set_option maxHeartbeats 1000000 in
theorem hblock_short (key : ByteArray) (hk : key.size ≤ 64) (w : World) :
    Calls Tryd.prog 45 #[.string key] w fun e w' => e = .returned (.string (padKey key)) ∧ Below w.heap.size w w' := by
  have hn : (64 : Int) - (key.size : Int) = ((64 - key.size : Nat) : Int) := by omega
  have HP := Lib.hid (show padKey key = key ++ noughtsB (64 - key.size) from rfl)
  have hb : 64 - key.size ≤ 64 := by omega
  generalize 64 - key.size = n at *
  rw [HP.out]
  clear HP
  go_enter Tryd.func45, Tryd.ntmps45
  go_wp2_with fail
  refine (Tryd.strings_Repeat ⟨#[0]⟩ n w (by omega) (by show 1 * n ≤ _; omega)).mono ?_
  rintro e w1 ⟨rfl, hb1⟩
  rw [noughtsB_is]
  have hz := noughtsB_size n
  have HB1 := Lib.hid hb1
  clear hb1
  go_wp2_with fail
  go_ret
  exact ⟨rfl, HB1.out⟩
set_option maxHeartbeats 1000000 in
theorem hblock_long (key : ByteArray) (hk : 64 < key.size) (hm : key.size ≤ 1000000) (w : World) (hK : Kub w) :
    Calls Tryd.prog 45 #[.string key] w fun e w' => e = .returned (.string (padKey (digestOf key))) ∧ Below w.heap.size w w' := by
  have HK := Lib.hid hK
  clear hK
  have hks := digestOf_size key
  have HP := Lib.hid (show padKey (digestOf key) = digestOf key ++ noughtsB (64 - (digestOf key).size) from rfl)
  rw [hks, show 64 - 32 = 32 from rfl] at HP
  have PS := Lib.hid (fun W (h : Kub W) => sum_any key hm W h)
  generalize digestOf key = kd at *
  rw [HP.out]
  clear HP
  go_enter Tryd.func45, Tryd.ntmps45
  go_wp2_with fail
  refine (PS.out w HK.out).mono ?_
  rintro e w1 ⟨rfl, hb1⟩
  have HB1 := Lib.hid hb1
  clear hb1
  go_wp2_with fail
  refine (Tryd.strings_Repeat ⟨#[0]⟩ 32 w1 (by omega) (by show 1 * 32 ≤ _; omega)).mono ?_
  rintro e w2 ⟨rfl, hb2⟩
  rw [noughtsB_is]
  have hz := noughtsB_size 32
  have HB2 := Lib.hid (HB1.out.trans (hb2.mono HB1.out.size))
  clear hb2
  go_wp2_with fail
  go_ret
  exact ⟨rfl, HB2.out⟩
theorem hblock_any (key : ByteArray) (hm : key.size ≤ 1000000) (w : World) (hK : Kub w) :
    Calls Tryd.prog 45 #[.string key] w fun e w' => e = .returned (.string (padKey (keyText key))) ∧ Below w.heap.size w w' := by
  by_cases h : 64 < key.size
  · rw [keyText_long h]
    exact hblock_long key h hm w hK
  · rw [keyText_short h]
    exact hblock_short key (by omega) w
theorem marked_any (key : ByteArray) (x : UInt8) (z : Int) (hz : z = (x.toNat : Int)) (w : World) :
    Calls Tryd.prog 47 #[.string (padKey (keyText key)), .int .u8 z] w fun e w' => e = .returned (.string (blockOf key x)) ∧ Below w.heap.size w w' := by
  have hs := padKey_size (keyText_size key)
  have h := callsIn_wide.1 (marked_in (padKey (keyText key)) (by omega) x z hz w)
  rw [marked_block (keyText_size key) x] at h
  exact h
set_option maxHeartbeats 1000000 in
theorem hsum_any (key s : ByteArray) (hk : key.size ≤ 900000) (hs : s.size ≤ 900000) (w : World) (hK : Kub w) :
    Calls Tryd.prog 28 #[.string key, .string s] w fun e w' => e = .returned (.string (hmacOf key s)) ∧ Below w.heap.size w w' := by
  have HB := Lib.hid (Below.refl w.heap.size w)
  have HK := Lib.hid hK
  clear hK
  have h1 := blockOf_size key 54
  have h2 := blockOf_size key 92
  have h3 := digestOf_size (blockOf key 54 ++ s)
  have HH : Hid (hmacOf key s = digestOf (blockOf key 92 ++ digestOf (blockOf key 54 ++ s))) := Lib.hid rfl
  have PB := Lib.hid (fun W (h : Kub W) => hblock_any key (by omega) W h)
  have K54 := Lib.hid (fun W => marked_any key 54 54 (by decide) W)
  have K92 := Lib.hid (fun W => marked_any key 92 92 (by decide) W)
  have g1 : (blockOf key 54 ++ s).size ≤ 1000000 := by rw [ByteArray.size_append]; omega
  have S1 := Lib.hid (fun W (h : Kub W) => sum_any (blockOf key 54 ++ s) g1 W h)
  generalize hd : digestOf (blockOf key 54 ++ s) = d at *
  have g2 : (blockOf key 92 ++ d).size ≤ 1000000 := by rw [ByteArray.size_append]; omega
  have S2 := Lib.hid (fun W (h : Kub W) => sum_any (blockOf key 92 ++ d) g2 W h)
  rw [HH.out]
  clear hd HH g1 g2
  generalize digestOf (blockOf key 92 ++ d) = r at *
  generalize blockOf key 54 = b1 at *
  generalize blockOf key 92 = b2 at *
  generalize padKey (keyText key) = kb at *
  go_enter Tryd.func28, Tryd.ntmps28
  go_wp2_with (first
    | (go_at_call 45; ((with_reducible refine (PB.out _ (HK.out.later HB.out)).mono ?_); rintro e w1 ⟨rfl, hb1⟩); replace HB := Lib.hid (HB.out.trans (hb1.mono HB.out.size)); clear hb1)
    | (go_at_call 47; ((with_reducible refine (K92.out _).mono ?_); rintro e w1 ⟨rfl, hb1⟩); replace HB := Lib.hid (HB.out.trans (hb1.mono HB.out.size)); clear hb1)
    | (go_at_call 47; ((with_reducible refine (K54.out _).mono ?_); rintro e w1 ⟨rfl, hb1⟩); replace HB := Lib.hid (HB.out.trans (hb1.mono HB.out.size)); clear hb1)
    | (go_at_call 46; ((with_reducible refine (S1.out _ (HK.out.later HB.out)).mono ?_); rintro e w1 ⟨rfl, hb1⟩); replace HB := Lib.hid (HB.out.trans (hb1.mono HB.out.size)); clear hb1)
    | (go_at_call 46; ((with_reducible refine (S2.out _ (HK.out.later HB.out)).mono ?_); rintro e w1 ⟨rfl, hb1⟩); replace HB := Lib.hid (HB.out.trans (hb1.mono HB.out.size)); clear hb1))
  go_ret
  exact ⟨rfl, HB.out⟩
set_option maxHeartbeats 1000000 in
theorem hcheck_any (key s sum : ByteArray) (hk : key.size ≤ 900000) (hs : s.size ≤ 900000) (hm : sum.size ≤ 900000) (w : World) (hK : Kub w) :
    Calls Tryd.prog 30 #[.string key, .string s, .string sum] w fun e w' => e = .returned (.bool (sameB (hmacOf key s) sum)) ∧ Below w.heap.size w w' := by
  have HB := Lib.hid (Below.refl w.heap.size w)
  have HK := Lib.hid hK
  clear hK
  have hsz := hmacOf_size key s
  have HS := Lib.hid (fun W (h : Kub W) => hsum_any key s hk hs W h)
  have HE := Lib.hid (fun W => same_any (hmacOf key s) sum (by omega) hm W)
  generalize hmacOf key s = r at *
  generalize sameB r sum = c at *
  go_enter Tryd.func30, Tryd.ntmps30
  go_wp2_with (first
    | (go_at_call 28; ((with_reducible refine (HS.out _ (HK.out.later HB.out)).mono ?_); rintro e w1 ⟨rfl, hb1⟩); replace HB := Lib.hid (HB.out.trans (hb1.mono HB.out.size)); clear hb1)
    | (go_at_call 49; ((with_reducible refine (HE.out _).mono ?_); rintro e w1 ⟨rfl, hb1⟩); replace HB := Lib.hid (HB.out.trans (hb1.mono HB.out.size)); clear hb1))
  go_ret
  exact ⟨rfl, HB.out⟩
end Go.Proofs.YthfiebdpoleeeaaDoor
