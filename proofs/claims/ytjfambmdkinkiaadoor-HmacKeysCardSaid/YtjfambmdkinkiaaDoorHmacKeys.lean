/-
  A key and that key with noughts behind it, up to 64 bytes, have the same sums; so has a key of more than 64 bytes and its sha.Sum: any texts, any number (a key of at most 500 bytes, a text of at most 1000; others are not asked of).
-/
import Derived.Test.YtjfambmdkinkiaaDoorLift
import Derived.Test.YtjfambmdkinkiaaDoorShown
import Derived.Test.YtjfambmdkinkiaaDoorLaid
import Derived.Test.YtjfambmdkinkiaaDoorCards
import Derived.Test.YtjfambmdkinkiaaDoorTie
import Derived.SevenTiedAt
import Derived.Test.YtjfambmdkinkiaaDoorText
import Derived.RegionCalls
import Derived.Deep.RegionHeld3
import Derived.Maps.AppendAt
namespace Go.Proofs.YtjfambmdkinkiaaDoor.hmacKeys
open Go.ChangeShapes Go.WideShapes Go.ChangeAt Go.RowKit
set_option linter.unusedVariables false

theorem keyAt_more {k t : ByteArray} {j : Nat} (h : t.data.toList = k.data.toList ++ List.replicate j 0) (i : Nat) : keyAt t i = keyAt k i := by
  unfold keyAt
  rw [h, List.getD_eq_getElem?_getD, List.getD_eq_getElem?_getD]
  by_cases hi : i < k.data.toList.length
  · rw [List.getElem?_append_left hi]
  · rw [List.getElem?_append_right (by omega), List.getElem?_eq_none (l := k.data.toList) (by omega), List.getElem?_replicate]
    split <;> rfl
theorem hmac_more {k t : ByteArray} {j : Nat} (h : t.data.toList = k.data.toList ++ List.replicate j 0) (hs : k.size + j ≤ 64) (s : ByteArray) : hmacOf t s = hmacOf k s := by
  have ht : t.size = k.size + j := by rw [size_list, h, List.length_append, List.length_replicate, ← size_list]
  have e : ∀ x, blockOf t x = blockOf k x := fun x => by
    unfold blockOf
    rw [keyText_short (by omega), keyText_short (by omega)]
    have : blockList t x = blockList k x := by
      unfold blockList
      apply List.map_congr_left
      intro i _
      rw [keyAt_more h]
    rw [this]
  unfold hmacOf
  rw [e, e]
theorem hmac_long {k : ByteArray} (h : 64 < k.size) (s : ByteArray) : hmacOf (digestOf k) s = hmacOf k s := by
  have e : ∀ x, blockOf (digestOf k) x = blockOf k x := fun x => by
    unfold blockOf
    rw [keyText_short (by rw [digestOf_size]; omega), keyText_long h]
  unfold hmacOf
  rw [e, e]

set_option maxHeartbeats 1000000 in
set_option maxRecDepth 100000 in
theorem walk (key : ByteArray) (hk : key.size ≤ maxLen) (s : ByteArray) (hs : s.size ≤ maxLen) (n : Int) (hn1 : -9223372036854775808 ≤ n) (hn2 : n ≤ 9223372036854775807) (w : World) (hK : Kub w) :
    Calls Tryd.prog 4 #[.string key, .string s, .int .i64 n] w fun e w' => e = .returned (.bool true) ∧ Below w.heap.size w w' := by
  have HB := Lib.hid (Below.refl w.heap.size w)
  have HK := Lib.hid hK
  clear hK
  unfold maxLen at hk hs
  by_cases hbig : 500 < key.size ∨ 1000 < s.size
  · rcases (by omega : 500 < key.size ∨ (key.size ≤ 500 ∧ 1000 < s.size)) with g1 | ⟨g1, g2⟩
    all_goals
      clear hbig
      go_enter Tryd.func4, Tryd.ntmps4
      go_wp2_with (go_at_call 7; ((with_reducible refine (shown_any _ (HK.out.later HB.out)).mono ?_); rintro e w1 ⟨rfl, hb1⟩); replace HB := Lib.hid (HB.out.trans (hb1.mono HB.out.size)); clear hb1)
      go_ret
      exact ⟨rfl, HB.out⟩
  have l1 : key.size ≤ 500 := by omega
  have l2 : s.size ≤ 1000 := by omega
  clear hbig
  have HS := Lib.hid (fun W (h : Kub W) => hsum_any key s (by omega) (by omega) W h)
  by_cases hlong : 64 < key.size
  · have HD := Lib.hid (fun W (h : Kub W) => sum_any key (by omega) W h)
    have d2 := fun W (h : Kub W) => hsum_any (digestOf key) s (by rw [digestOf_size]; omega) (by omega) W h
    rw [hmac_long hlong s] at d2
    have HD2 := Lib.hid d2
    clear d2
    generalize digestOf key = kd at *
    generalize hmacOf key s = r at *
    go_enter Tryd.func4, Tryd.ntmps4
    go_wp2_with (first
    | (go_at_call 7; ((with_reducible refine (shown_any _ (HK.out.later HB.out)).mono ?_); rintro e w1 ⟨rfl, hb1⟩); replace HB := Lib.hid (HB.out.trans (hb1.mono HB.out.size)); clear hb1)
    | (go_at_call 9; ((with_reducible refine (HS.out _ (HK.out.later HB.out)).mono ?_); rintro e w1 ⟨rfl, hb1⟩); replace HB := Lib.hid (HB.out.trans (hb1.mono HB.out.size)); clear hb1)
    | (go_at_call 9; ((with_reducible refine (HD2.out _ (HK.out.later HB.out)).mono ?_); rintro e w1 ⟨rfl, hb1⟩); replace HB := Lib.hid (HB.out.trans (hb1.mono HB.out.size)); clear hb1)
    | (go_at_call 12; ((with_reducible refine (HD.out _ (HK.out.later HB.out)).mono ?_); rintro e w1 ⟨rfl, hb1⟩); replace HB := Lib.hid (HB.out.trans (hb1.mono HB.out.size)); clear hb1))
    go_ret
    exact ⟨rfl, HB.out⟩
  have hsz := hmacOf_size key s
  have HM : Hid (∀ (t : ByteArray) (j : Nat), t.data.toList = key.data.toList ++ List.replicate j 0 → key.size + j ≤ 64 → ∀ W, Kub W → Calls Tryd.prog 9 #[.string t, .string s] W fun e w' => e = .returned (.string (hmacOf key s)) ∧ Below W.heap.size W w') := Lib.hid fun t j ht hj W hKW => by
    have hts : t.size = key.size + j := by rw [size_list, ht, List.length_append, List.length_replicate, ← size_list]
    have h := hsum_any t s (by omega) (by omega) W hKW
    rw [hmac_more ht hj s] at h
    exact h
  generalize hmacOf key s = r at *
  go_enter Tryd.func4, Tryd.ntmps4
  go_wp2_with (go_at_call 7; ((with_reducible refine (shown_any _ (HK.out.later HB.out)).mono ?_); rintro e w1 ⟨rfl, hb1⟩); replace HB := Lib.hid (HB.out.trans (hb1.mono HB.out.size)); clear hb1)
  go_loop [8, 9] (fun v i => ∃ (j : Nat) (t : ByteArray), key.size + j ≤ 64 ∧ i = .int .i64 j ∧ v = .string t ∧ t.size ≤ key.size + j ∧ key.size + j ≤ t.size ∧ Hid (t.data.toList = key.data.toList ++ List.replicate j 0)) (fun _ i => 64 - (intOf i).toNat)
  case atStart => exact ⟨0, key, by omega, rfl, rfl, by omega, by omega, Lib.hid (by simp)⟩
  case round =>
    obtain ⟨j, t, hj, rfl, rfl, ht1, ht2, HT⟩ := hrel
    by_cases hgo : (j : Int) < n ∧ t.size < 64
    · obtain ⟨hg1, hg2⟩ := hgo
      have HN := Lib.hid (show (t ++ (⟨#[0]⟩ : ByteArray)).data.toList = key.data.toList ++ List.replicate (j + 1) 0 by
        rw [ByteArray.data_append, Array.toList_append, HT.out, List.replicate_succ', List.append_assoc])
      have hzz : (t ++ (⟨#[0]⟩ : ByteArray)).size = t.size + 1 := by rw [ByteArray.size_append]; rfl
      have HZZ := Lib.hid hzz
      clear hzz
      go_wp2_with fail
      go_round
      case rel =>
        have := HZZ.out
        exact ⟨j + 1, t ++ ⟨#[0]⟩, by omega, by go_num, rfl, by omega, by omega, HN⟩
      case measure => simp [intOf]; omega
    · have HKS := Lib.hid (HM.out t j HT.out hj)
      rcases (by omega : ¬ (j : Int) < n ∨ ((j : Int) < n ∧ ¬ t.size < 64)) with hg1 | ⟨hg1, hg2⟩
      all_goals
        clear hgo
        go_wp2_with (first
    | (go_at_call 9; ((with_reducible refine (HKS.out _ (HK.out.later HB.out)).mono ?_); rintro e w1 ⟨rfl, hb1⟩); replace HB := Lib.hid (HB.out.trans (hb1.mono HB.out.size)); clear hb1)
    | (go_at_call 9; ((with_reducible refine (HS.out _ (HK.out.later HB.out)).mono ?_); rintro e w1 ⟨rfl, hb1⟩); replace HB := Lib.hid (HB.out.trans (hb1.mono HB.out.size)); clear hb1))
        go_ret
        exact ⟨rfl, HB.out⟩

set_option maxRecDepth 100000 in
theorem lifted (os : Os) (started : os.Started) (H : Type) (enc : TypeId × Value → H) :
    ReturnsInHanded {} Tryd.checked os 4 .any (fun w args => (Rows.hmacKeysSpec.pre enc Tryd.prog Tryd.f4 [] false w args ∧ laidMetH Tryd.prog laidK w) ∧ sizedMet enc Tryd.prog Tryd.f4 (OpenSpec.ofChange Rows.hmacKeysSpec) false w args) (Rows.hmacKeysSpec.post enc Tryd.prog Tryd.f4 false true false false) := by
  refine returnsInHanded_of_change_and (C := Tryd.checked) (X := fun w _ => laidMetH Tryd.prog laidK w) (fun _ _ _ hh h => h.of_heap hh) own started (by kernel_rfl) Tryd.func4
    (ChangeSpec.witness_shaped (enc := enc) (C := Tryd.checked) (os := os) (X := fun w _ => laidMetH Tryd.prog laidK w) false (World.doorLaid Tryd.prog 14 os) #[.string ⟨#[]⟩, .string ⟨#[]⟩, .int .i64 0] 8 rfl (World.shaped_of_RefB (by kernel_rfl) (by kernel_rfl)) (by kernel_rfl) (by kernel_rfl) (by kernel_rfl) (door_met os _)) ?_
  intro W base args ds gs before hval0 hW _ hreach hL _
  have hval : ∀ (j : Nat) t v, Tryd.f4.params[j]? = some t → args[j]? = some v → Value.okWide Tryd.prog W .any base t v := hval0
  obtain ⟨p, q, hA0, _, _, _, _⟩ := id hW
  have hA : DataW.TrodAll enc Tryd.prog W 0 (fun _ => true) true Tryd.f4.params.toList args.toList ds p := hA0
  rw [Tryd.params4] at hA hval
  obtain ⟨v0, vs0, d0, ds0, p0, q0, hargs, rfl, rfl, h0, r0⟩ := trodAll_cons hA
  obtain ⟨v1, vs1, d1, ds1, p1, q1, rfl, rfl, rfl, h1, r1⟩ := trodAll_cons r0
  obtain ⟨v2, vs2, d2, ds2, p2, q2, rfl, rfl, rfl, h2, r2⟩ := trodAll_cons r1
  obtain ⟨rfl, rfl, rfl⟩ := trodAll_nil r2
  obtain rfl : args = #[v0, v1, v2] := by cases args; simp_all
  obtain ⟨a0, rfl, rfl, rfl, w0⟩ := Go.ChangeMaps.open_string Tryd.underlying9 (hval 0 9 v0 rfl rfl) h0
  obtain ⟨a1, rfl, rfl, rfl, w1⟩ := Go.ChangeMaps.open_string Tryd.underlying9 (hval 1 9 v1 rfl rfl) h1
  obtain ⟨a2, rfl, rfl, rfl, w2⟩ := open_int Tryd.underlying3 (hval 2 3 v2 rfl rfl) h2
  refine (walk a0 w0 a1 w1 a2 (bounds_i64 w2).1 (bounds_i64 w2).2 W (kub_of_laid hL)).mono fun e W' ⟨he, hg⟩ => ?_
  subst he
  exact ⟨_, rfl, law_post laidOut Tryd.underlying4 (by kernel_rfl) (by kernel_rfl) rfl hW (by simp [Rows.hmacKeysSpec]) hg⟩

theorem row_proved : Rows.HmacKeysSaid :=
  OpenClaim.holds_of_wide 4 Tryd.f4 rfl rfl rfl rfl rfl rfl rfl ⟨rfl, rfl, rfl, rfl, rfl⟩ rfl rfl rfl rfl rfl (by kernel_rfl) Tryd.func4 (by kernel_rfl)
    (of_decide_eq_true (by kernel_rfl)) (by unfold Func.isWrapper; first | (rw [if_pos (by decide +kernel)]; kernel_rfl) | (rw [if_neg (by decide +kernel)]; exact ⟨rfl, rfl⟩))
    (fun os started H enc _ => lifted os started H enc)

theorem proved : Rows.HmacKeysCardSaid :=
  Claim7.holds_tied_plain_at .later [] [.data] true _ _
    row_proved (fun _ h => by cases h) (by kernel_rfl) (fun _ h => by cases h) hmacKeys_row_tie rfl ⟨rfl, rfl⟩ (by kernel_rfl) rfl
    (fun f fn hf hfn => by
      obtain rfl : f = 4 := Option.some.inj ((show Tryd.prog.funcNamed "towline/towlinelaw4.HmacKeys" = some 4 by kernel_rfl).symm.trans hf) |>.symm
      obtain rfl : fn = Tryd.f4 := (Option.some.inj (Tryd.func4.symm.trans hfn)).symm
      exact ⟨by kernel_rfl, fun j t ht => by
        rw [Tryd.params4] at ht
        have hm : t ∈ [3, 9] := by have := Array.mem_of_getElem? ht; simp at this; simp; first | omega | (rcases this with h | h <;> simp [h]) | (rcases this with h | h | h <;> simp [h]) | (rcases this with h | h | h | h <;> simp [h])
        have hall : ([3, 9].all fun u => !Tryd.prog.wantsStandIn u) = true := by kernel_rfl
        exact (show Tryd.prog.wantsStandIn t = false by simpa using List.all_eq_true.1 hall t hm)⟩)
    (by kernel_rfl)
#print axioms proved
end Go.Proofs.YtjfambmdkinkiaaDoor.hmacKeys
