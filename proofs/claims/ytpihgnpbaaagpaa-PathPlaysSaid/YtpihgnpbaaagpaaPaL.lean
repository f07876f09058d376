/-
  Package path: what New asks of its addresses: contracts.
-/
import Derived.Test.YtpihgnpbaaagpaaPaH
import Derived.Test.YtpihgnpbaaagpaaShelf
namespace Go.Proofs.Ytpihgnpbaaagpaa
open Go.RowKit
set_option linter.unusedVariables false
set_option linter.unusedSimpArgs false
set_option maxRecDepth 100000

def encS (s : ByteArray) : Value := .string s
def badB (l : List ByteArray) : Bool := l.any fun s => !addrB s
theorem ret_ex {a : Int} : Ending.returned (.int .i64 a) = .returned (.int .i64 a) := rfl
theorem clone_str (s : ByteArray) (w : World) (hs : s.size ≤ 281474976710656) : Calls Try.prog 60 #[.string s] w fun e w' => e = .returned (.string s) ∧ Below w.heap.size w w' := by
  have H := Lib.hid (fun W => Try.stringslite_Clone s W hs)
  have HB := Lib.hid (Below.refl w.heap.size w)
  go_enter Try.func60, Try.ntmps60
  go_wp2_with (go_at_call 78; ((with_reducible refine (H.out _).mono ?_); rintro e w1 ⟨rfl, hb1⟩); replace HB := Lib.hid (HB.out.trans (hb1.mono HB.out.size)); clear hb1)
  go_ret
  exact ⟨rfl, HB.out⟩
theorem bad_any (s : ByteArray) (hs : s.size ≤ maxLen) (w : World) : Calls Try.prog 58 #[.string s] w fun e w' => e = .returned (.bool (!addrB s)) ∧ w' = w := by
  have hs' : (s.size : Int) ≤ 9223372036854775807 := by unfold maxLen at hs; omega
  by_cases h4 : s.size = 4
  · have HT := Lib.hid (show (!addrB s) = false by simp [addrB, h4])
    generalize (!addrB s) = q at *
    have h4' : (s.size : Int) = 4 := by omega
    clear h4 hs hs'
    go_enter Try.func58, Try.ntmps58
    go_wp2_with fail
    go_ret
    exact ⟨by rw [HT.out]; rfl, rfl⟩
  · by_cases h16 : s.size = 16
    · have HT := Lib.hid (show (!addrB s) = false by simp [addrB, h16])
      generalize (!addrB s) = q at *
      have h4' : (s.size : Int) = 16 := by omega
      clear h4 h16 hs hs'
      go_enter Try.func58, Try.ntmps58
      go_wp2_with fail
      go_ret
      exact ⟨by rw [HT.out]; rfl, rfl⟩
    · have HT := Lib.hid (show (!addrB s) = true by simp [addrB, h4, h16])
      generalize (!addrB s) = q at *
      have e1 : ((s.size : Int) == 4) = false := by simp; omega
      have e2 : ((s.size : Int) == 16) = false := by simp; omega
      have e3 : ((s.size : Int) != 4) = true := by simp; omega
      have e4 : ((s.size : Int) != 16) = true := by simp; omega
      go_enter Try.func58, Try.ntmps58
      go_wp2_with fail
      go_ret
      exact ⟨by rw [HT.out]; rfl, rfl⟩
theorem bad_in (l : List ByteArray) (k : Nat) (h : k < l.length) (hp : (!addrB l[k]) = true) : badB l = true := by
  unfold badB
  rw [List.any_eq_true]
  exact ⟨l[k], List.getElem_mem h, hp⟩
theorem bad_not (l : List ByteArray) (k : Nat) (h : k < l.length) (h0 : badB (l.take k) = false) (hp : (!addrB l[k]) = false) : badB (l.take (k + 1)) = false := by
  unfold badB at *
  rw [List.take_succ_eq_append_getElem h, List.any_append, h0, Bool.false_or]
  simp only [List.any_cons, List.any_nil, Bool.or_false]
  exact hp
set_option maxHeartbeats 1000000 in
theorem index_bad (l : List ByteArray) (hl : l.length ≤ 100000) (hs : ∀ s ∈ l, s.size ≤ maxLen) (v : Value) (w : World) (hv : RowE encS w v l) :
    Calls Try.prog 76 #[v, .func (.func 58) #[] #[]] w fun e w' => ∃ i : Int, e = .returned (.int .i64 i) ∧ ((0 ≤ i ∧ badB l = true) ∨ (i = -1 ∧ badB l = false)) ∧ w' = w := by
  obtain ⟨A, cap, rfl, hcap, hmax, hcells⟩ := hv
  have HC := Lib.hid hcells
  have HI := Lib.hid (fun k (h : k < l.length) hp => bad_in l k h hp)
  have HN := Lib.hid (fun k (h : k < l.length) h0 hp => bad_not l k h h0 hp)
  have HL := Lib.hid (show badB (l.take l.length) = badB l by rw [List.take_length])
  have HS := Lib.hid hs
  clear hcells hs
  have hl' : (l.length : Int) ≤ 100000 := by omega
  go_enter Try.func76, Try.ntmps76
  go_wp2_with fail
  go_loopw [8] (fun i wr => ∃ k : Nat, k ≤ l.length ∧ i = .int .i64 k ∧ Hid (badB (l.take k) = false) ∧ Hid (wr = w))
    (fun i _ => l.length - (intOf i).toNat)
  case atStart => exact ⟨0, Nat.zero_le _, rfl, Lib.hid rfl, Lib.hid rfl⟩
  case round =>
    obtain ⟨k, hk, rfl, HF, HW⟩ := hrel
    have hwr := HW.out
    subst hwr
    by_cases hlt : k < l.length
    · obtain ⟨b, off, rfl, hb, hc⟩ := HC.out (by omega)
      have hc0 := hc k hlt
      rw [getElem!_pos l k hlt] at hc0
      have HT := Lib.hid (HI.out k hlt)
      have HU := Lib.hid (HN.out k hlt HF.out)
      have hsz := HS.out l[k] (List.getElem_mem hlt)
      generalize hxe : l[k] = t at *
      have HSZ := Lib.hid (fun W => bad_any t hsz W)
      unfold encS at hc0
      generalize hq : (!addrB t) = q at *
      clear hc hxe hq hsz
      cases q with
      | true =>
        go_wp2_with (go_at_call 58; ((with_reducible refine (HSZ.out _).mono ?_); rintro e w1 ⟨rfl, rfl⟩))
        go_ret
        exact ⟨(k : Int), rfl, .inl ⟨by omega, HT.out trivial⟩, rfl⟩
      | false =>
        go_wp2_with (go_at_call 58; ((with_reducible refine (HSZ.out _).mono ?_); rintro e w1 ⟨rfl, rfl⟩))
        go_roundw
        case rel => exact ⟨k + 1, by omega, by go_num, Lib.hid (HU.out trivial), Lib.hid (by trivial)⟩
        case measure => simp [intOf]; omega
    · obtain rfl : k = l.length := by omega
      go_wp2_with fail
      go_ret
      exact ⟨-1, rfl, .inr ⟨rfl, by rw [← HL.out]; exact HF.out⟩, rfl⟩
theorem contains_bad (l : List ByteArray) (hl : l.length ≤ 100000) (hs : ∀ s ∈ l, s.size ≤ maxLen) (v : Value) (w : World) (hv : RowE encS w v l) :
    Calls Try.prog 57 #[v, .func (.func 58) #[] #[]] w fun e w' => e = .returned (.bool (badB l)) ∧ w' = w := by
  have H := Lib.hid (index_bad l hl hs v w hv)
  generalize badB l = q at *
  clear hv
  go_enter Try.func57, Try.ntmps57
  go_wp2_with fail
  refine H.out.mono ?_
  rintro e w1 ⟨i, rfl, hi, rfl⟩
  rcases hi with ⟨hi, rfl⟩ | ⟨rfl, rfl⟩
  all_goals
    go_wp2_with fail
    go_ret
    exact ⟨rfl, rfl⟩
theorem are_any (l : List ByteArray) (hl : l.length ≤ 100000) (hs : ∀ s ∈ l, s.size ≤ maxLen) (v : Value) (w : World) (hv : RowE encS w v l) :
    Calls Try.prog 29 #[v] w fun e w' => e = .returned (.bool (decide (0 < l.length) && !badB l)) ∧ w' = w := by
  have H := Lib.hid (fun W h => contains_bad l hl hs v W h)
  have HV := Lib.hid hv
  obtain ⟨A, cap, rfl, hcap, hmax, _⟩ := hv
  have hl' : (l.length : Int) ≤ 100000 := by omega
  by_cases h0 : 0 < l.length
  · have h0' : (0 : Int) < (l.length : Int) := by omega
    have HT := Lib.hid (show (decide (0 < l.length) && !badB l) = !badB l by simp [h0])
    generalize (decide (0 < l.length) && !badB l) = q at *
    generalize badB l = r at *
    cases r
    all_goals
      go_enter Try.func29, Try.ntmps29
      go_wp2_with (go_at_call 57; ((with_reducible refine (H.out _ HV.out).mono ?_); rintro e w1 ⟨rfl, rfl⟩))
      go_ret
      exact ⟨by rw [HT.out]; rfl, rfl⟩
  · have h0' : ¬ (0 : Int) < (l.length : Int) := by omega
    have h00 : (l.length : Int) = 0 := by omega
    have HT := Lib.hid (show (decide (0 < l.length) && !badB l) = false by simp; omega)
    generalize (decide (0 < l.length) && !badB l) = q at *
    go_enter Try.func29, Try.ntmps29
    go_wp2_with fail
    go_ret
    exact ⟨by rw [HT.out]; rfl, rfl⟩
theorem mem_take {l : List ByteArray} {s : ByteArray} {k : Nat} (h : k < l.length) : s ∈ l.take (k + 1) ↔ s ∈ l.take k ∨ s = l[k] := by
  rw [List.take_succ_eq_append_getElem h, List.mem_append, List.mem_singleton]
def memB (l : List ByteArray) (s : ByteArray) : Bool := l.any fun t => decide (t = s)
theorem memB_true {l : List ByteArray} {s : ByteArray} (h : s ∈ l) : memB l s = true := by
  unfold memB
  rw [List.any_eq_true]
  exact ⟨s, h, decide_eq_true rfl⟩
theorem memB_false {l : List ByteArray} {s : ByteArray} (h : s ∉ l) : memB l s = false := by
  unfold memB
  rw [List.any_eq_false]
  intro t ht e
  exact h ((of_decide_eq_true e) ▸ ht)
set_option maxHeartbeats 1000000 in
theorem index_str (l : List ByteArray) (hl : l.length ≤ 100000) (s : ByteArray) (v : Value) (w : World) (hv : RowE encS w v l) :
    Calls Try.prog 77 #[v, .string s] w fun e w' => ∃ i : Int, e = .returned (.int .i64 i) ∧ ((0 ≤ i ∧ s ∈ l) ∨ (i = -1 ∧ s ∉ l)) ∧ w' = w := by
  obtain ⟨A, cap, rfl, hcap, hmax, hcells⟩ := hv
  have HC := Lib.hid hcells
  have HM := Lib.hid (fun k (h : k < l.length) => mem_take (s := s) h)
  have HL := Lib.hid (show l.take l.length = l by rw [List.take_length])
  clear hcells
  have hl' : (l.length : Int) ≤ 100000 := by omega
  go_enter Try.func77, Try.ntmps77
  go_wp2_with fail
  go_loopw [8] (fun i wr => ∃ k : Nat, k ≤ l.length ∧ i = .int .i64 k ∧ Hid (s ∉ l.take k) ∧ Hid (wr = w))
    (fun i _ => l.length - (intOf i).toNat)
  case atStart => exact ⟨0, Nat.zero_le _, rfl, Lib.hid (by simp), Lib.hid rfl⟩
  case round =>
    obtain ⟨k, hk, rfl, HF, HW⟩ := hrel
    have hwr := HW.out
    subst hwr
    by_cases hlt : k < l.length
    · obtain ⟨b, off, rfl, hb, hc⟩ := HC.out (by omega)
      have hc0 := hc k hlt
      rw [getElem!_pos l k hlt] at hc0
      have HT := Lib.hid (show l[k] ∈ l from List.getElem_mem hlt)
      have HU := Lib.hid (HM.out k hlt)
      generalize hxe : l[k] = t at *
      unfold encS at hc0
      clear hc hxe
      by_cases hx : s = t
      · subst hx
        go_wp2_with fail
        go_ret
        exact ⟨(k : Int), rfl, .inl ⟨by omega, HT.out⟩, rfl⟩
      · have hx2 : (s.toList == t.toList) = false := by simpa using bytes_ne hx
        have hx3 : (t.toList == s.toList) = false := by simpa using bytes_ne (Ne.symm hx)
        have HN := Lib.hid (show s ∉ l.take (k + 1) from fun h => ((HU.out).1 h).elim (fun h => HF.out h) (fun h => hx h))
        go_wp2_with fail
        go_roundw
        case rel => exact ⟨k + 1, by omega, by go_num, HN, Lib.hid (by trivial)⟩
        case measure => simp [intOf]; omega
    · obtain rfl : k = l.length := by omega
      go_wp2_with fail
      go_ret
      exact ⟨-1, rfl, .inr ⟨rfl, by have h := HF.out; rw [HL.out] at h; exact h⟩, rfl⟩
theorem contains_str (l : List ByteArray) (hl : l.length ≤ 100000) (s : ByteArray) (v : Value) (w : World) (hv : RowE encS w v l) :
    Calls Try.prog 59 #[v, .string s] w fun e w' => e = .returned (.bool (memB l s)) ∧ w' = w := by
  have H := Lib.hid (index_str l hl s v w hv)
  clear hv
  go_enter Try.func59, Try.ntmps59
  go_wp2_with fail
  refine H.out.mono ?_
  rintro e w1 ⟨i, rfl, hi, rfl⟩
  rcases hi with ⟨hi, hm⟩ | ⟨rfl, hm⟩
  · have HT := Lib.hid (memB_true hm)
    clear hm
    go_wp2_with fail
    go_ret
    exact ⟨ret_bool HT.out.symm, rfl⟩
  · have HT := Lib.hid (memB_false hm)
    clear hm
    go_wp2_with fail
    go_ret
    exact ⟨ret_bool HT.out.symm, rfl⟩
/-- None of the first k texts stands ahead of itself. -/
def NoDup (l : List ByteArray) (k : Nat) : Prop := ∀ j (h : j < l.length), j < k → l[j] ∉ l.take j
def dupB (l : List ByteArray) : Bool := (List.range l.length).any fun j => memB (l.take j) (l.getD j ⟨#[]⟩)
theorem dup_in {l : List ByteArray} {k : Nat} (h : k < l.length) (hm : l[k] ∈ l.take k) : dupB l = true := by
  unfold dupB
  rw [List.any_eq_true]
  refine ⟨k, by simpa using h, ?_⟩
  rw [List.getD_eq_getElem?_getD, List.getElem?_eq_getElem h]
  exact memB_true hm
theorem dup_not {l : List ByteArray} (h : NoDup l l.length) : dupB l = false := by
  unfold dupB
  rw [List.any_eq_false]
  intro j hj
  have hj' : j < l.length := by simpa using hj
  rw [List.getD_eq_getElem?_getD, List.getElem?_eq_getElem hj']
  simp only [Option.getD_some, memB_false (h j hj' hj'), Bool.false_eq_true, not_false_eq_true]
theorem noDup_succ {l : List ByteArray} {k : Nat} (h : NoDup l k) (hk : k < l.length) (hm : l[k] ∉ l.take k) : NoDup l (k + 1) := fun j hj hjk => by
  by_cases e : j = k
  · subst e; exact hm
  · exact h j hj (by omega)
theorem rowE_take {w : World} {A : Option Addr} {cap : Nat} {l : List ByteArray} (h : RowE encS w (.slice A l.length cap) l) (k : Nat) (hk : k ≤ l.length) : RowE encS w (.slice A k cap) (l.take k) := by
  obtain ⟨A', cap', hv, hc, hm, hcells⟩ := h
  cases hv
  have hl : (l.take k).length = k := by rw [List.length_take]; omega
  refine ⟨A, cap, by rw [hl], by omega, hm, fun hp => ?_⟩
  obtain ⟨b, off, rfl, hlt, hcell⟩ := hcells (by omega)
  refine ⟨b, off, rfl, hlt, fun j hj => ?_⟩
  rw [hl] at hj
  rw [hcell j (by omega), getElem!_pos l j (by omega), getElem!_pos (l.take k) j (by omega), List.getElem_take]
set_option maxHeartbeats 1000000 in
theorem twice_any (l : List ByteArray) (hl : l.length ≤ 100000) (v : Value) (w : World) (hv : RowE encS w v l) :
    Calls Try.prog 30 #[v] w fun e w' => e = .returned (.bool (dupB l)) ∧ w' = w := by
  obtain ⟨R, hR⟩ : ∃ R, dupB l = R := ⟨_, rfl⟩
  rw [hR]
  have HRR := Lib.hid hR
  clear hR
  have HV := Lib.hid hv
  obtain ⟨A, cap, rfl, hcap, hmax, hcells⟩ := hv
  have HC := Lib.hid hcells
  have HCT := Lib.hid (fun (k : Nat) (hk : k ≤ l.length) (s : ByteArray) => contains_str (l.take k) (by rw [List.length_take]; omega) s (.slice A k cap) w (rowE_take HV.out k hk))
  clear hcells
  have hl' : (l.length : Int) ≤ 100000 := by omega
  have hcap' : (l.length : Int) ≤ (cap : Int) := by omega
  have hmax' : (cap : Int) ≤ 9223372036854775807 := by unfold maxLen at hmax; omega
  go_enter Try.func30, Try.ntmps30
  go_wp2_with fail
  go_loopw [7] (fun i wr => ∃ k : Nat, k ≤ l.length ∧ i = .int .i64 k ∧ Hid (NoDup l k) ∧ Hid (wr = w))
    (fun i _ => l.length - (intOf i).toNat)
  case atStart => exact ⟨0, Nat.zero_le _, rfl, Lib.hid (fun j _ h => absurd h (by omega)), Lib.hid rfl⟩
  case round =>
    obtain ⟨k, hk, rfl, HF, HW⟩ := hrel
    have hwr := HW.out
    subst hwr
    by_cases hlt : k < l.length
    · obtain ⟨b, off, rfl, hb, hc⟩ := HC.out (by omega)
      have hc0 := hc k hlt
      rw [getElem!_pos l k hlt] at hc0
      have HIN := Lib.hid (fun h => dup_in hlt h)
      have HNO := Lib.hid (fun h => noDup_succ HF.out hlt h)
      have HCK := Lib.hid (HCT.out k hk l[k])
      generalize hxe : l[k] = t at *
      unfold encS at hc0
      have q4 : (0 : Int) ≤ (k : Int) := by omega
      have q5 : (k : Int) < (l.length : Int) := by omega
      have q6 : (k : Int) ≤ (cap : Int) := by omega
      clear hc hxe
      by_cases hm : t ∈ l.take k
      · rw [memB_true hm] at HCK
        have HD := Lib.hid (HIN.out hm)
        clear hm
        go_wp2_with (go_at_call 59; ((with_reducible refine HCK.out.mono ?_); rintro e w1 ⟨rfl, rfl⟩))
        go_ret
        exact ⟨ret_bool (by rw [← HRR.out]; exact HD.out.symm), rfl⟩
      · rw [memB_false hm] at HCK
        have HD := Lib.hid (HNO.out hm)
        clear hm
        go_wp2_with (go_at_call 59; ((with_reducible refine HCK.out.mono ?_); rintro e w1 ⟨rfl, rfl⟩))
        go_roundw
        case rel => exact ⟨k + 1, by omega, by go_num, HD, Lib.hid (by trivial)⟩
        case measure => simp [intOf]; omega
    · obtain rfl : k = l.length := by omega
      have HD := Lib.hid (dup_not HF.out)
      go_wp2_with fail
      go_ret
      exact ⟨ret_bool (by rw [← HRR.out]; exact HD.out.symm), rfl⟩
def freshPa (peer : Int) (s : ByteArray) : Pa := ⟨s, 1, 0, newT, Wi.newT peer, 0, 0, 0⟩
theorem fresh_any (s : ByteArray) (hs : s.size ≤ 281474976710656) (peer : Int) (w : World) : Calls Try.prog 31 #[.string s, .int .i64 peer] w fun e w' => e = .returned (.agg (cellsPa (freshPa peer s))) ∧ Below w.heap.size w w' := by
  have H1 := Lib.hid (fun W => clone_str s W hs)
  have H2 : Hid (∀ W : World, Calls Try.prog 61 #[] W fun e W' => e = .returned (.agg #[.int .i64 0, .int .i64 0, .int .i64 1000, .int .i64 0, .bool false]) ∧ Below W.heap.size W W') := Lib.hid (fun W => new_any W)
  have H3 : Hid (∀ W : World, Calls Try.prog 62 #[.int .i64 peer] W fun e W' => e = .returned (.agg #[.int .i64 4500, .int .i64 (Wi.keptI peer), .int .i64 0]) ∧ Below W.heap.size W W') := Lib.hid (fun W => Wi.new_any peer W)
  have HY : Hid (cellsPa (freshPa peer s) = #[.string s, .int .i64 1, .int .i64 0, .int .i64 0, .int .i64 0, .int .i64 1000, .int .i64 0, .bool false, .int .i64 4500, .int .i64 (Wi.keptI peer), .int .i64 0, .int .u32 0, .int .i64 0, .int .i64 0]) := Lib.hid rfl
  generalize Wi.keptI peer = kp at *
  have HZ := Lib.hid (BS.first w 47 (cellsPa zeroPa))
  generalize freshPa peer s = y9 at *
  go_enter Try.func31, Try.ntmps31
  go_wp2_with (first
    | (go_at_call 60; (with_reducible refine (H1.out _).mono ?_); rintro e w1 ⟨rfl, hb⟩; replace HZ := Lib.hid (HZ.out.later hb); clear hb)
    | (go_at_call 61; (with_reducible refine (H2.out _).mono ?_); rintro e w1 ⟨rfl, hb⟩; replace HZ := Lib.hid (HZ.out.later hb); clear hb)
    | (go_at_call 62; (with_reducible refine (H3.out _).mono ?_); rintro e w1 ⟨rfl, hb⟩; replace HZ := Lib.hid (HZ.out.later hb); clear hb)
    | ((with_reducible refine gate9 ?_); refine stB #[.string s, .int .i64 1, .int .i64 0, .int .i64 0, .int .i64 0, .int .i64 1000, .int .i64 0, .bool false, .int .i64 4500, .int .i64 kp, .int .i64 0, .int .u32 0, .int .i64 0, .int .i64 0] rfl rfl rfl rfl HZ.out.own infoPa rfl (by simp [Value.oneCell']) ?_; intro w2 ht hg; replace HZ := Lib.hid (HZ.out.set ht hg); clear ht hg))
  exact bodyPost_ret (retPa rfl rfl rfl HZ.out.own) rfl ⟨by rw [HY.out], HZ.out.below⟩
end Go.Proofs.Ytpihgnpbaaagpaa
