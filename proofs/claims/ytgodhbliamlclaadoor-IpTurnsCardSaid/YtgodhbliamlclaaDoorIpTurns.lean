/-
  A datagram of version 4 with one byte of its header turned is refused: any header, any text, any place, any turn (addresses of at most 100 bytes, a text of at most 2000; others are not asked of).
-/
import Derived.Test.YtgodhbliamlclaaDoorLift
import Derived.Test.YtgodhbliamlclaaDoorShown
import Derived.Test.YtgodhbliamlclaaDoorLaid
import Derived.Test.YtgodhbliamlclaaDoorCards
import Derived.Test.YtgodhbliamlclaaDoorTie
import Derived.SevenTiedAt
import Derived.Test.YtgodhbliamlclaaDoorText
import Derived.RegionCalls
import Derived.Deep.RegionHeld3
import Derived.Maps.AppendAt
import Derived.Test.YtgodhbliamlclaaDoorHdr
import Derived.Test.YtgodhbliamlclaaDoorBack
import Derived.Laws.BitsAllLaws
namespace Go.Proofs.YtgodhbliamlclaaDoor.ipTurns
open Go.ChangeShapes Go.WideShapes Go.ChangeAt Go.RowKit
set_option linter.unusedVariables false

theorem keep5 {wc : World} {g : Nat} {ty : TypeId} {ver hops mark : Int} {f t : ByteArray} {X : World} {fn : FuncId} {args : Array Value} {v : Value} (h : Hid (Stays wc g ty ver hops mark f t X))
    (hc : Calls Tryd.prog fn args X fun e X' => e = .returned v ∧ Below X.heap.size X X') : Calls Tryd.prog fn args X fun e X' => e = .returned v ∧ Lie X' g ver hops mark f t ∧ Hid (Stays wc g ty ver hops mark f t X') :=
  hc.mono fun e X' ⟨he, hb⟩ => ⟨he, lie_of (h.out.next hb).1, h.out.next hb⟩
theorem still_below {X : World} {fn : FuncId} {args : Array Value} {v : Value} (hc : Calls Tryd.prog fn args X fun e X' => e = .returned v ∧ X = X') : Calls Tryd.prog fn args X fun e X' => e = .returned v ∧ Below X.heap.size X X' :=
  hc.mono fun e X' ⟨he, hb⟩ => ⟨he, by subst hb; exact Below.refl _ _⟩
/-- The four kinds of headers and payloads that can be gone through. -/
theorem kinds (ver hops mark : Int) (f t : ByteArray) (n : Nat) : rightB ver hops mark f.size t.size = false ∨ (rightB ver hops mark f.size t.size = true ∧ 1500 < n) ∨
    (rightB ver hops mark f.size t.size = true ∧ ver = 4 ∧ (∃ h m : Nat, hops = (h : Int) ∧ mark = (m : Int) ∧ h < 256 ∧ m < 65536) ∧ f.size = 4 ∧ t.size = 4 ∧ n ≤ 1500) ∨
    (rightB ver hops mark f.size t.size = true ∧ ver = 6 ∧ mark = 0 ∧ (∃ h : Nat, hops = (h : Int) ∧ h < 256) ∧ f.size = 16 ∧ t.size = 16 ∧ n ≤ 1500) := by
  cases hr : rightB ver hops mark f.size t.size with
  | false => exact .inl rfl
  | true =>
    by_cases hn : 1500 < n
    · exact .inr (.inl ⟨rfl, hn⟩)
    · unfold rightB wB at hr
      by_cases h4 : ver = 4
      · rw [if_pos h4] at hr
        have := of_decide_eq_true hr
        exact .inr (.inr (.inl ⟨rfl, h4, ⟨hops.toNat, mark.toNat, by omega, by omega, by omega, by omega⟩, by omega, by omega, by omega⟩))
      · rw [if_neg h4] at hr
        by_cases h6 : ver = 6
        · rw [if_pos h6] at hr
          have := of_decide_eq_true hr
          exact .inr (.inr (.inr ⟨rfl, h6, by omega, ⟨hops.toNat, by omega, by omega⟩, by omega, by omega, by omega⟩))
        · rw [if_neg h6] at hr
          cases hr

theorem xor_small {a b : Nat} (ha : a < 256) (hb : b < 256) : a ^^^ b < 256 := Nat.xor_lt_two_pow (n := 8) ha hb
theorem xor_moves {a x : Nat} (h : a ^^^ x = a) : x = 0 := by
  have e : a ^^^ (a ^^^ x) = a ^^^ a := by rw [h]
  rw [← Nat.xor_assoc, Nat.xor_self, Nat.zero_xor] at e
  exact e

set_option maxHeartbeats 4000000 in
set_option maxRecDepth 100000 in
theorem walk_long (i : Int) (x : Nat) (ver hops mark : Int) (f t s : ByteArray) (hshort : shortB f.size t.size s.size = false) (w : World) (hK : Kub w) :
    Calls Tryd.prog 6 #[.agg #[.int .i64 ver, .int .i64 hops, .int .i64 mark, .string f, .string t], .string s, .int .i64 i, .int .u8 (x : Int)] w fun e w' => e = .returned (.bool true) ∧ Below w.heap.size w w' := by
  have HB := Lib.hid ((Below.refl w.heap.size w).alloc (Nat.le_refl _) (.cells #[.int .i64 ver, .int .i64 hops, .int .i64 mark, .string f, .string t] 23))
  have HS : Hid (HdrAt (w.alloc (.cells #[.int .i64 ver, .int .i64 hops, .int .i64 mark, .string f, .string t] 23)) w.heap.size 23 ver hops mark f t) := Lib.hid (heap_alloc_new _ _)
  have HK := Lib.hid hK
  clear hK
  have HSH := Lib.hid (show ∀ W, Calls Tryd.prog 8 #[.agg #[.int .i64 ver, .int .i64 hops, .int .i64 mark, .string f, .string t], .string s] W fun e w' => e = .returned (.bool false) ∧ Below W.heap.size W w' from fun W => by have h := short_any ver hops mark f t s W; rw [hshort] at h; exact h)
  clear hshort
  go_enter Tryd.func6, Tryd.ntmps6
  go_wp2_with (first
    | (go_at_call 7; ((with_reducible refine (shown_any _ (HK.out.later HB.out)).mono ?_); rintro e w1 ⟨rfl, hb1⟩); replace HS := Lib.hid (HdrAt.later HS.out hb1); have k0 := HdrAt.c0 HS.out; have k1 := HdrAt.c1 HS.out; have k2 := HdrAt.c2 HS.out; have k3 := HdrAt.c3 HS.out; have k4 := HdrAt.c4 HS.out; replace HB := Lib.hid (HB.out.trans (hb1.mono HB.out.size)); clear hb1)
    | (go_at_call 8; ((with_reducible refine (HSH.out _).mono ?_); rintro e w1 ⟨rfl, hb1⟩); replace HS := Lib.hid (HdrAt.later HS.out hb1); have k0 := HdrAt.c0 HS.out; have k1 := HdrAt.c1 HS.out; have k2 := HdrAt.c2 HS.out; have k3 := HdrAt.c3 HS.out; have k4 := HdrAt.c4 HS.out; replace HB := Lib.hid (HB.out.trans (hb1.mono HB.out.size)); clear hb1))
  go_ret
  exact ⟨rfl, HB.out⟩
set_option maxHeartbeats 4000000 in
set_option maxRecDepth 100000 in
theorem walk_ver (i : Int) (x : Nat) (ver hops mark : Int) (f t s : ByteArray) (hshort : shortB f.size t.size s.size = true) (hv : (ver != 4) = true) (w : World) (hK : Kub w) :
    Calls Tryd.prog 6 #[.agg #[.int .i64 ver, .int .i64 hops, .int .i64 mark, .string f, .string t], .string s, .int .i64 i, .int .u8 (x : Int)] w fun e w' => e = .returned (.bool true) ∧ Below w.heap.size w w' := by
  have HB := Lib.hid ((Below.refl w.heap.size w).alloc (Nat.le_refl _) (.cells #[.int .i64 ver, .int .i64 hops, .int .i64 mark, .string f, .string t] 23))
  have HS : Hid (HdrAt (w.alloc (.cells #[.int .i64 ver, .int .i64 hops, .int .i64 mark, .string f, .string t] 23)) w.heap.size 23 ver hops mark f t) := Lib.hid (heap_alloc_new _ _)
  have HK := Lib.hid hK
  clear hK
  have HSH := Lib.hid (show ∀ W, Calls Tryd.prog 8 #[.agg #[.int .i64 ver, .int .i64 hops, .int .i64 mark, .string f, .string t], .string s] W fun e w' => e = .returned (.bool true) ∧ Below W.heap.size W w' from fun W => by have h := short_any ver hops mark f t s W; rw [hshort] at h; exact h)
  clear hshort
  go_enter Tryd.func6, Tryd.ntmps6
  go_wp2_with (first
    | (go_at_call 7; ((with_reducible refine (shown_any _ (HK.out.later HB.out)).mono ?_); rintro e w1 ⟨rfl, hb1⟩); replace HS := Lib.hid (HdrAt.later HS.out hb1); have k0 := HdrAt.c0 HS.out; have k1 := HdrAt.c1 HS.out; have k2 := HdrAt.c2 HS.out; have k3 := HdrAt.c3 HS.out; have k4 := HdrAt.c4 HS.out; replace HB := Lib.hid (HB.out.trans (hb1.mono HB.out.size)); clear hb1)
    | (go_at_call 8; ((with_reducible refine (HSH.out _).mono ?_); rintro e w1 ⟨rfl, hb1⟩); replace HS := Lib.hid (HdrAt.later HS.out hb1); have k0 := HdrAt.c0 HS.out; have k1 := HdrAt.c1 HS.out; have k2 := HdrAt.c2 HS.out; have k3 := HdrAt.c3 HS.out; have k4 := HdrAt.c4 HS.out; replace HB := Lib.hid (HB.out.trans (hb1.mono HB.out.size)); clear hb1))
  go_ret
  exact ⟨rfl, HB.out⟩
set_option maxHeartbeats 4000000 in
set_option maxRecDepth 100000 in
theorem walk_neg (i : Int) (x : Nat) (ver hops mark : Int) (f t s : ByteArray) (hshort : shortB f.size t.size s.size = true) (hv : (ver != 4) = false) (h0 : i < 0) (w : World) (hK : Kub w) :
    Calls Tryd.prog 6 #[.agg #[.int .i64 ver, .int .i64 hops, .int .i64 mark, .string f, .string t], .string s, .int .i64 i, .int .u8 (x : Int)] w fun e w' => e = .returned (.bool true) ∧ Below w.heap.size w w' := by
  have HB := Lib.hid ((Below.refl w.heap.size w).alloc (Nat.le_refl _) (.cells #[.int .i64 ver, .int .i64 hops, .int .i64 mark, .string f, .string t] 23))
  have HS : Hid (HdrAt (w.alloc (.cells #[.int .i64 ver, .int .i64 hops, .int .i64 mark, .string f, .string t] 23)) w.heap.size 23 ver hops mark f t) := Lib.hid (heap_alloc_new _ _)
  have HK := Lib.hid hK
  clear hK
  have HSH := Lib.hid (show ∀ W, Calls Tryd.prog 8 #[.agg #[.int .i64 ver, .int .i64 hops, .int .i64 mark, .string f, .string t], .string s] W fun e w' => e = .returned (.bool true) ∧ Below W.heap.size W w' from fun W => by have h := short_any ver hops mark f t s W; rw [hshort] at h; exact h)
  clear hshort
  go_enter Tryd.func6, Tryd.ntmps6
  go_wp2_with (first
    | (go_at_call 7; ((with_reducible refine (shown_any _ (HK.out.later HB.out)).mono ?_); rintro e w1 ⟨rfl, hb1⟩); replace HS := Lib.hid (HdrAt.later HS.out hb1); have k0 := HdrAt.c0 HS.out; have k1 := HdrAt.c1 HS.out; have k2 := HdrAt.c2 HS.out; have k3 := HdrAt.c3 HS.out; have k4 := HdrAt.c4 HS.out; replace HB := Lib.hid (HB.out.trans (hb1.mono HB.out.size)); clear hb1)
    | (go_at_call 8; ((with_reducible refine (HSH.out _).mono ?_); rintro e w1 ⟨rfl, hb1⟩); replace HS := Lib.hid (HdrAt.later HS.out hb1); have k0 := HdrAt.c0 HS.out; have k1 := HdrAt.c1 HS.out; have k2 := HdrAt.c2 HS.out; have k3 := HdrAt.c3 HS.out; have k4 := HdrAt.c4 HS.out; replace HB := Lib.hid (HB.out.trans (hb1.mono HB.out.size)); clear hb1))
  go_ret
  exact ⟨rfl, HB.out⟩
set_option maxHeartbeats 4000000 in
set_option maxRecDepth 100000 in
theorem walk_far (i : Int) (x : Nat) (ver hops mark : Int) (f t s : ByteArray) (hshort : shortB f.size t.size s.size = true) (hv : (ver != 4) = false) (h0 : ¬ i < 0) (h1 : 20 ≤ i) (w : World) (hK : Kub w) :
    Calls Tryd.prog 6 #[.agg #[.int .i64 ver, .int .i64 hops, .int .i64 mark, .string f, .string t], .string s, .int .i64 i, .int .u8 (x : Int)] w fun e w' => e = .returned (.bool true) ∧ Below w.heap.size w w' := by
  have HB := Lib.hid ((Below.refl w.heap.size w).alloc (Nat.le_refl _) (.cells #[.int .i64 ver, .int .i64 hops, .int .i64 mark, .string f, .string t] 23))
  have HS : Hid (HdrAt (w.alloc (.cells #[.int .i64 ver, .int .i64 hops, .int .i64 mark, .string f, .string t] 23)) w.heap.size 23 ver hops mark f t) := Lib.hid (heap_alloc_new _ _)
  have HK := Lib.hid hK
  clear hK
  have HSH := Lib.hid (show ∀ W, Calls Tryd.prog 8 #[.agg #[.int .i64 ver, .int .i64 hops, .int .i64 mark, .string f, .string t], .string s] W fun e w' => e = .returned (.bool true) ∧ Below W.heap.size W w' from fun W => by have h := short_any ver hops mark f t s W; rw [hshort] at h; exact h)
  clear hshort
  go_enter Tryd.func6, Tryd.ntmps6
  go_wp2_with (first
    | (go_at_call 7; ((with_reducible refine (shown_any _ (HK.out.later HB.out)).mono ?_); rintro e w1 ⟨rfl, hb1⟩); replace HS := Lib.hid (HdrAt.later HS.out hb1); have k0 := HdrAt.c0 HS.out; have k1 := HdrAt.c1 HS.out; have k2 := HdrAt.c2 HS.out; have k3 := HdrAt.c3 HS.out; have k4 := HdrAt.c4 HS.out; replace HB := Lib.hid (HB.out.trans (hb1.mono HB.out.size)); clear hb1)
    | (go_at_call 8; ((with_reducible refine (HSH.out _).mono ?_); rintro e w1 ⟨rfl, hb1⟩); replace HS := Lib.hid (HdrAt.later HS.out hb1); have k0 := HdrAt.c0 HS.out; have k1 := HdrAt.c1 HS.out; have k2 := HdrAt.c2 HS.out; have k3 := HdrAt.c3 HS.out; have k4 := HdrAt.c4 HS.out; replace HB := Lib.hid (HB.out.trans (hb1.mono HB.out.size)); clear hb1))
  go_ret
  exact ⟨rfl, HB.out⟩
set_option maxHeartbeats 4000000 in
set_option maxRecDepth 100000 in
theorem walk_same (i : Int) (x : Nat) (ver hops mark : Int) (f t s : ByteArray) (hshort : shortB f.size t.size s.size = true) (hv : (ver != 4) = false) (h0 : ¬ i < 0) (h1 : ¬ 20 ≤ i) (h2 : ((x : Int) == 0) = true) (w : World) (hK : Kub w) :
    Calls Tryd.prog 6 #[.agg #[.int .i64 ver, .int .i64 hops, .int .i64 mark, .string f, .string t], .string s, .int .i64 i, .int .u8 (x : Int)] w fun e w' => e = .returned (.bool true) ∧ Below w.heap.size w w' := by
  have HB := Lib.hid ((Below.refl w.heap.size w).alloc (Nat.le_refl _) (.cells #[.int .i64 ver, .int .i64 hops, .int .i64 mark, .string f, .string t] 23))
  have HS : Hid (HdrAt (w.alloc (.cells #[.int .i64 ver, .int .i64 hops, .int .i64 mark, .string f, .string t] 23)) w.heap.size 23 ver hops mark f t) := Lib.hid (heap_alloc_new _ _)
  have HK := Lib.hid hK
  clear hK
  have HSH := Lib.hid (show ∀ W, Calls Tryd.prog 8 #[.agg #[.int .i64 ver, .int .i64 hops, .int .i64 mark, .string f, .string t], .string s] W fun e w' => e = .returned (.bool true) ∧ Below W.heap.size W w' from fun W => by have h := short_any ver hops mark f t s W; rw [hshort] at h; exact h)
  clear hshort
  go_enter Tryd.func6, Tryd.ntmps6
  go_wp2_with (first
    | (go_at_call 7; ((with_reducible refine (shown_any _ (HK.out.later HB.out)).mono ?_); rintro e w1 ⟨rfl, hb1⟩); replace HS := Lib.hid (HdrAt.later HS.out hb1); have k0 := HdrAt.c0 HS.out; have k1 := HdrAt.c1 HS.out; have k2 := HdrAt.c2 HS.out; have k3 := HdrAt.c3 HS.out; have k4 := HdrAt.c4 HS.out; replace HB := Lib.hid (HB.out.trans (hb1.mono HB.out.size)); clear hb1)
    | (go_at_call 8; ((with_reducible refine (HSH.out _).mono ?_); rintro e w1 ⟨rfl, hb1⟩); replace HS := Lib.hid (HdrAt.later HS.out hb1); have k0 := HdrAt.c0 HS.out; have k1 := HdrAt.c1 HS.out; have k2 := HdrAt.c2 HS.out; have k3 := HdrAt.c3 HS.out; have k4 := HdrAt.c4 HS.out; replace HB := Lib.hid (HB.out.trans (hb1.mono HB.out.size)); clear hb1))
  go_ret
  exact ⟨rfl, HB.out⟩
set_option maxHeartbeats 4000000 in
set_option maxRecDepth 100000 in
theorem walk_arg (i : Int) (x : Nat) (ver hops mark : Int) (f t s : ByteArray) (hshort : shortB f.size t.size s.size = true) (hv : (ver != 4) = false) (h0 : ¬ i < 0) (h1 : ¬ 20 ≤ i) (h2 : ((x : Int) == 0) = false) (hr : rightB ver hops mark f.size t.size = false) (w : World) (hK : Kub w) :
    Calls Tryd.prog 6 #[.agg #[.int .i64 ver, .int .i64 hops, .int .i64 mark, .string f, .string t], .string s, .int .i64 i, .int .u8 (x : Int)] w fun e w' => e = .returned (.bool true) ∧ Below w.heap.size w w' := by
  have HB := Lib.hid ((Below.refl w.heap.size w).alloc (Nat.le_refl _) (.cells #[.int .i64 ver, .int .i64 hops, .int .i64 mark, .string f, .string t] 23))
  have HS : Hid (HdrAt (w.alloc (.cells #[.int .i64 ver, .int .i64 hops, .int .i64 mark, .string f, .string t] 23)) w.heap.size 23 ver hops mark f t) := Lib.hid (heap_alloc_new _ _)
  have HK := Lib.hid hK
  clear hK
  have HSH := Lib.hid (show ∀ W, Calls Tryd.prog 8 #[.agg #[.int .i64 ver, .int .i64 hops, .int .i64 mark, .string f, .string t], .string s] W fun e w' => e = .returned (.bool true) ∧ Below W.heap.size W w' from fun W => by have h := short_any ver hops mark f t s W; rw [hshort] at h; exact h)
  have HBU := Lib.hid (fun W => build_arg ver hops mark f t s hr W)
  clear hshort hr
  go_enter Tryd.func6, Tryd.ntmps6
  go_wp2_with (first
    | (go_at_call 7; ((with_reducible refine (shown_any _ (HK.out.later HB.out)).mono ?_); rintro e w1 ⟨rfl, hb1⟩); replace HS := Lib.hid (HdrAt.later HS.out hb1); have k0 := HdrAt.c0 HS.out; have k1 := HdrAt.c1 HS.out; have k2 := HdrAt.c2 HS.out; have k3 := HdrAt.c3 HS.out; have k4 := HdrAt.c4 HS.out; replace HB := Lib.hid (HB.out.trans (hb1.mono HB.out.size)); clear hb1)
    | (go_at_call 8; ((with_reducible refine (HSH.out _).mono ?_); rintro e w1 ⟨rfl, hb1⟩); replace HS := Lib.hid (HdrAt.later HS.out hb1); have k0 := HdrAt.c0 HS.out; have k1 := HdrAt.c1 HS.out; have k2 := HdrAt.c2 HS.out; have k3 := HdrAt.c3 HS.out; have k4 := HdrAt.c4 HS.out; replace HB := Lib.hid (HB.out.trans (hb1.mono HB.out.size)); clear hb1)
    | (go_at_call 9; ((with_reducible refine (HBU.out _).mono ?_); rintro e w1 ⟨rfl, hb1⟩); replace HS := Lib.hid (HdrAt.later HS.out hb1); have k0 := HdrAt.c0 HS.out; have k1 := HdrAt.c1 HS.out; have k2 := HdrAt.c2 HS.out; have k3 := HdrAt.c3 HS.out; have k4 := HdrAt.c4 HS.out; replace HB := Lib.hid (HB.out.trans (hb1.mono HB.out.size)); clear hb1))
  go_ret
  exact ⟨rfl, HB.out⟩
set_option maxHeartbeats 4000000 in
set_option maxRecDepth 100000 in
theorem walk_big (i : Int) (x : Nat) (ver hops mark : Int) (f t s : ByteArray) (hshort : shortB f.size t.size s.size = true) (hv : (ver != 4) = false) (h0 : ¬ i < 0) (h1 : ¬ 20 ≤ i) (h2 : ((x : Int) == 0) = false) (hr : rightB ver hops mark f.size t.size = true) (hl : (1500 : Int) < (s.size : Int)) (w : World) (hK : Kub w) :
    Calls Tryd.prog 6 #[.agg #[.int .i64 ver, .int .i64 hops, .int .i64 mark, .string f, .string t], .string s, .int .i64 i, .int .u8 (x : Int)] w fun e w' => e = .returned (.bool true) ∧ Below w.heap.size w w' := by
  have HB := Lib.hid ((Below.refl w.heap.size w).alloc (Nat.le_refl _) (.cells #[.int .i64 ver, .int .i64 hops, .int .i64 mark, .string f, .string t] 23))
  have HS : Hid (HdrAt (w.alloc (.cells #[.int .i64 ver, .int .i64 hops, .int .i64 mark, .string f, .string t] 23)) w.heap.size 23 ver hops mark f t) := Lib.hid (heap_alloc_new _ _)
  have HK := Lib.hid hK
  clear hK
  have HSH := Lib.hid (show ∀ W, Calls Tryd.prog 8 #[.agg #[.int .i64 ver, .int .i64 hops, .int .i64 mark, .string f, .string t], .string s] W fun e w' => e = .returned (.bool true) ∧ Below W.heap.size W w' from fun W => by have h := short_any ver hops mark f t s W; rw [hshort] at h; exact h)
  have HBU := Lib.hid (fun W => build_long ver hops mark f t s hr hl W)
  clear hshort hr
  go_enter Tryd.func6, Tryd.ntmps6
  go_wp2_with (first
    | (go_at_call 7; ((with_reducible refine (shown_any _ (HK.out.later HB.out)).mono ?_); rintro e w1 ⟨rfl, hb1⟩); replace HS := Lib.hid (HdrAt.later HS.out hb1); have k0 := HdrAt.c0 HS.out; have k1 := HdrAt.c1 HS.out; have k2 := HdrAt.c2 HS.out; have k3 := HdrAt.c3 HS.out; have k4 := HdrAt.c4 HS.out; replace HB := Lib.hid (HB.out.trans (hb1.mono HB.out.size)); clear hb1)
    | (go_at_call 8; ((with_reducible refine (HSH.out _).mono ?_); rintro e w1 ⟨rfl, hb1⟩); replace HS := Lib.hid (HdrAt.later HS.out hb1); have k0 := HdrAt.c0 HS.out; have k1 := HdrAt.c1 HS.out; have k2 := HdrAt.c2 HS.out; have k3 := HdrAt.c3 HS.out; have k4 := HdrAt.c4 HS.out; replace HB := Lib.hid (HB.out.trans (hb1.mono HB.out.size)); clear hb1)
    | (go_at_call 9; ((with_reducible refine (HBU.out _).mono ?_); rintro e w1 ⟨rfl, hb1⟩); replace HS := Lib.hid (HdrAt.later HS.out hb1); have k0 := HdrAt.c0 HS.out; have k1 := HdrAt.c1 HS.out; have k2 := HdrAt.c2 HS.out; have k3 := HdrAt.c3 HS.out; have k4 := HdrAt.c4 HS.out; replace HB := Lib.hid (HB.out.trans (hb1.mono HB.out.size)); clear hb1))
  go_ret
  exact ⟨rfl, HB.out⟩
set_option maxHeartbeats 4000000 in
set_option maxRecDepth 100000 in
theorem walk_v4 (k : Nat) (x : Nat) (hops mark : Nat) (hh : hops < 256) (hm : mark < 65536) (f t s : ByteArray) (hshort : shortB f.size t.size s.size = true) (hk : k < 20) (hx : x < 256) (hx0 : x ≠ 0) (hf : f.size = 4) (ht : t.size = 4) (hl : s.size ≤ 1500) (w : World) (hK : Kub w) :
    Calls Tryd.prog 6 #[.agg #[.int .i64 4, .int .i64 hops, .int .i64 mark, .string f, .string t], .string s, .int .i64 (k : Int), .int .u8 (x : Int)] w fun e w' => e = .returned (.bool true) ∧ Below w.heap.size w w' := by
  have HB := Lib.hid ((Below.refl w.heap.size w).alloc (Nat.le_refl _) (.cells #[.int .i64 4, .int .i64 hops, .int .i64 mark, .string f, .string t] 23))
  have HS : Hid (HdrAt (w.alloc (.cells #[.int .i64 4, .int .i64 hops, .int .i64 mark, .string f, .string t] 23)) w.heap.size 23 4 hops mark f t) := Lib.hid (heap_alloc_new _ _)
  have HK := Lib.hid hK
  clear hK
  have HSH := Lib.hid (show ∀ W, Calls Tryd.prog 8 #[.agg #[.int .i64 4, .int .i64 hops, .int .i64 mark, .string f, .string t], .string s] W fun e w' => e = .returned (.bool true) ∧ Below W.heap.size W w' from fun W => by have h := short_any 4 hops mark f t s W; rw [hshort] at h; exact h)
  have HBU := Lib.hid (fun W => build_v4 hops mark hh hm f t s hf ht hl W)
  have HT := Lib.hid (fun y hy D hD => parse_turned hops mark hh hm f t s hf ht hl k hk y hy D hD)
  have hds := head4_size hops mark s.size f t s hf ht
  have h0 : ¬ (k : Int) < 0 := by omega
  have h1 : ¬ (20 : Int) ≤ (k : Int) := by omega
  have h2 : ((x : Int) == 0) = false := by simp; omega
  clear hshort hf ht
  generalize head4 hops mark f t s.size ++ s = d at *
  go_enter Tryd.func6, Tryd.ntmps6
  go_wp2_with (first
    | (go_at_call 7; ((with_reducible refine (shown_any _ (HK.out.later HB.out)).mono ?_); rintro e w1 ⟨rfl, hb1⟩); replace HS := Lib.hid (HdrAt.later HS.out hb1); have k0 := HdrAt.c0 HS.out; have k1 := HdrAt.c1 HS.out; have k2 := HdrAt.c2 HS.out; have k3 := HdrAt.c3 HS.out; have k4 := HdrAt.c4 HS.out; replace HB := Lib.hid (HB.out.trans (hb1.mono HB.out.size)); clear hb1)
    | (go_at_call 8; ((with_reducible refine (HSH.out _).mono ?_); rintro e w1 ⟨rfl, hb1⟩); replace HS := Lib.hid (HdrAt.later HS.out hb1); have k0 := HdrAt.c0 HS.out; have k1 := HdrAt.c1 HS.out; have k2 := HdrAt.c2 HS.out; have k3 := HdrAt.c3 HS.out; have k4 := HdrAt.c4 HS.out; replace HB := Lib.hid (HB.out.trans (hb1.mono HB.out.size)); clear hb1)
    | (go_at_call 9; ((with_reducible refine (HBU.out _).mono ?_); rintro e w1 ⟨rfl, hb1⟩); replace HS := Lib.hid (HdrAt.later HS.out hb1); have k0 := HdrAt.c0 HS.out; have k1 := HdrAt.c1 HS.out; have k2 := HdrAt.c2 HS.out; have k3 := HdrAt.c3 HS.out; have k4 := HdrAt.c4 HS.out; replace HB := Lib.hid (HB.out.trans (hb1.mono HB.out.size)); clear hb1))
  have hkd : k < d.size := by omega
  have hkl : k < d.data.toList.length := by rw [← size_list]; exact hkd
  have hdl : d.size ≤ 1520 := by omega
  have hcell := bytes_cell w1 5 d (List.getElem?_eq_getElem hkl)
  have hfree := bytes_free w1 5 d (j := k) hkd
  have hby := bytes_of w1 d
  have hB2 := bytes_below HB.out HB.out.size 5 d
  have hset := fun (y : UInt8) => text_of ((Lib.bytesWorld w1 5 d).setCell ⟨w1.heap.size, k, none⟩ (.int .u8 (y.toNat : Int))) w1.heap.size 0 (grownCap w1 d.size 0 5) (d.data.toList.set k y)
    (set_cells hkl y fun j u hu => by rw [Nat.zero_add]; exact bytes_cell w1 5 d hu)
  have hlen : ∀ y : UInt8, (d.data.toList.set k y).length = d.size := fun y => by rw [List.length_set, ← size_list]
  have hB3 := fun (y : UInt8) => hB2.setCell (p := ⟨w1.heap.size, k, none⟩) HB.out.size (.int .u8 (y.toNat : Int))
  have hbk := byteAt_get hkl
  generalize d.data.toList[k] = u at *
  have hul := u.toNat_lt
  obtain ⟨y, hy⟩ : ∃ y : UInt8, y.toNat = u.toNat ^^^ x := ⟨UInt8.ofNat (u.toNat ^^^ x), UInt8.toNat_ofNat_of_lt' (xor_small hul hx)⟩
  have hxx := u8_xor_nat u.toNat x hul hx
  rw [← hy] at hxx
  have hyu : y.toNat ≠ byteAt d.data.toList k := by
    rw [hbk, hy]
    exact fun e => hx0 (xor_moves e)
  replace hset := hset y
  rw [hlen y] at hset
  have HB3 := Lib.hid (hB3 y)
  obtain ⟨D, hD⟩ : ∃ D : ByteArray, D = ⟨(d.data.toList.set k y).toArray⟩ := ⟨_, rfl⟩
  rw [← hD] at hset
  obtain ⟨er, her, hP⟩ := HT.out y hyu D (by rw [hD])
  have HPA := Lib.hid hP
  have hne := neZero er her
  have hgs : w1.heap.size < (Lib.bytesWorld w1 5 d).heap.size := by rw [Lib.bytesWorld_size]; omega
  have z0 : (0 : Int) ≤ (k : Int) := by omega
  have z1 : (k : Int) < (d.size : Int) := by omega
  clear hD hP her hyu hy hbk hB2 hB3 hlen HT HBU HS k0 k1 k2 k3 k4 hds hkl
  generalize Lib.bytesWorld w1 5 d = wb at *
  go_simp
  go_wp2_with (go_at_call 16; ((with_reducible refine (HPA.out _).mono ?_); rintro e w2 ⟨rfl, hb2⟩); have HB4 := Lib.hid ((HB3.out.trans (hb2.mono HB3.out.size)).alloc (HB3.out.trans (hb2.mono HB3.out.size)).size (.cells noH 23)); clear hb2)
  go_ret
  exact ⟨rfl, HB4.out⟩
theorem walk (ver hops mark : Int) (f t s : ByteArray) (i : Int) (x : Nat) (hx : x < 256) (w : World) (hK : Kub w) :
    Calls Tryd.prog 6 #[.agg #[.int .i64 ver, .int .i64 hops, .int .i64 mark, .string f, .string t], .string s, .int .i64 i, .int .u8 (x : Int)] w fun e w' => e = .returned (.bool true) ∧ Below w.heap.size w w' := by
  cases hsh : shortB f.size t.size s.size with
  | false => exact walk_long i x ver hops mark f t s hsh w hK
  | true =>
    by_cases hv : ver = 4
    · have hv4 : (ver != 4) = false := by simp [hv]
      by_cases h0 : i < 0
      · exact walk_neg i x ver hops mark f t s hsh hv4 h0 w hK
      by_cases h1 : 20 ≤ i
      · exact walk_far i x ver hops mark f t s hsh hv4 h0 h1 w hK
      by_cases hx0 : x = 0
      · exact walk_same i x ver hops mark f t s hsh hv4 h0 h1 (by simp [hx0]) w hK
      have hx1 : ((x : Int) == 0) = false := by simp; omega
      rcases kinds ver hops mark f t s.size with hr | ⟨hr, hl⟩ | ⟨hr, rfl, ⟨h, m, rfl, rfl, hh, hm⟩, hf, ht, hl⟩ | ⟨hr, hv6, _⟩
      · exact walk_arg i x ver hops mark f t s hsh hv4 h0 h1 hx1 hr w hK
      · exact walk_big i x ver hops mark f t s hsh hv4 h0 h1 hx1 hr (by omega) w hK
      · obtain ⟨k, rfl⟩ : ∃ k : Nat, i = (k : Int) := ⟨i.toNat, by omega⟩
        exact walk_v4 k x h m hh hm f t s hsh (by omega) hx hx0 hf ht hl w hK
      · omega
    · exact walk_ver i x ver hops mark f t s hsh (by simpa using hv) w hK

set_option maxRecDepth 100000 in
theorem lifted (os : Os) (started : os.Started) (H : Type) (enc : TypeId × Value → H) :
    ReturnsInHanded {} Tryd.checked os 6 .any (fun w args => (Rows.ipTurnsSpec.pre enc Tryd.prog Tryd.f6 [] false w args ∧ laidMetH Tryd.prog laidK w) ∧ sizedMet enc Tryd.prog Tryd.f6 (OpenSpec.ofChange Rows.ipTurnsSpec) false w args) (Rows.ipTurnsSpec.post enc Tryd.prog Tryd.f6 false true false false) := by
  refine returnsInHanded_of_change_and (C := Tryd.checked) (X := fun w _ => laidMetH Tryd.prog laidK w) (fun _ _ _ hh h => h.of_heap hh) own started (by kernel_rfl) Tryd.func6
    (ChangeSpec.witness_shaped (enc := enc) (C := Tryd.checked) (os := os) (X := fun w _ => laidMetH Tryd.prog laidK w) false (World.doorLaid Tryd.prog 65 os) #[.agg #[.int .i64 0, .int .i64 0, .int .i64 0, .string ⟨#[]⟩, .string ⟨#[]⟩], .string ⟨#[]⟩, .int .i64 0, .int .u8 0] 8 rfl (World.shaped_of_RefB (by kernel_rfl) (by kernel_rfl)) (by kernel_rfl) (by kernel_rfl) (by kernel_rfl) (door_met os _)) ?_
  intro W base args ds gs before hval0 hW _ hreach hL _
  have hval : ∀ (j : Nat) t v, Tryd.f6.params[j]? = some t → args[j]? = some v → Value.okWide Tryd.prog W .any base t v := hval0
  obtain ⟨p, q, hA0, _, _, _, _⟩ := id hW
  have hA : DataW.TrodAll enc Tryd.prog W 0 (fun _ => true) true Tryd.f6.params.toList args.toList ds p := hA0
  rw [Tryd.params6] at hA hval
  obtain ⟨v0, vs0, d0, ds0, p0, q0, hargs, rfl, rfl, h0, r0⟩ := trodAll_cons hA
  obtain ⟨v1, vs1, d1, ds1, p1, q1, rfl, rfl, rfl, h1, r1⟩ := trodAll_cons r0
  obtain ⟨v2, vs2, d2, ds2, p2, q2, rfl, rfl, rfl, h2, r2⟩ := trodAll_cons r1
  obtain ⟨v3, vs3, d3, ds3, p3, q3, rfl, rfl, rfl, h3, r3⟩ := trodAll_cons r2
  obtain ⟨rfl, rfl, rfl⟩ := trodAll_nil r3
  obtain rfl : args = #[v0, v1, v2, v3] := by cases args; simp_all
  obtain ⟨ver0, hops0, mark0, f0, t0, rfl, wv0, wh0, wm0, wf0, wt0⟩ := open_header (hval 0 23 v0 rfl rfl) h0
  obtain ⟨a1, rfl, rfl, rfl, w1⟩ := Go.ChangeMaps.open_string Tryd.underlying9 (hval 1 9 v1 rfl rfl) h1
  obtain ⟨a2, rfl, rfl, rfl, w2⟩ := open_int Tryd.underlying3 (hval 2 3 v2 rfl rfl) h2
  obtain ⟨a3, rfl, rfl, rfl, w3⟩ := open_int Tryd.underlying5 (hval 3 5 v3 rfl rfl) h3
  obtain ⟨n3, rfl, b3⟩ := nat_u8 w3
  refine (walk ver0 hops0 mark0 f0 t0 a1 a2 n3 b3 W (kub_of_laid hL)).mono fun e W' ⟨he, hg⟩ => ?_
  subst he
  exact ⟨_, rfl, law_post laidOut Tryd.underlying4 (by kernel_rfl) (by kernel_rfl) rfl hW (by simp [Rows.ipTurnsSpec]) hg⟩

theorem row_proved : Rows.IpTurnsSaid :=
  OpenClaim.holds_of_wide 6 Tryd.f6 rfl rfl rfl rfl rfl rfl rfl ⟨rfl, rfl, rfl, rfl, rfl⟩ rfl rfl rfl rfl rfl (by kernel_rfl) Tryd.func6 (by kernel_rfl)
    (of_decide_eq_true (by kernel_rfl)) (by unfold Func.isWrapper; first | (rw [if_pos (by decide +kernel)]; kernel_rfl) | (rw [if_neg (by decide +kernel)]; exact ⟨rfl, rfl⟩))
    (fun os started H enc _ => lifted os started H enc)

theorem proved : Rows.IpTurnsCardSaid :=
  Claim7.holds_tied_plain_at .later [] [.data, .data, .data] true _ _
    row_proved (fun _ h => by cases h) (by kernel_rfl) (fun _ h => by cases h) ipTurns_row_tie rfl ⟨rfl, rfl⟩ (by kernel_rfl) rfl
    (fun f fn hf hfn => by
      obtain rfl : f = 6 := Option.some.inj ((show Tryd.prog.funcNamed "towline/towlinelaw5.IpTurns" = some 6 by kernel_rfl).symm.trans hf) |>.symm
      obtain rfl : fn = Tryd.f6 := (Option.some.inj (Tryd.func6.symm.trans hfn)).symm
      exact ⟨by kernel_rfl, fun j t ht => by
        rw [Tryd.params6] at ht
        have hm : t ∈ [3, 9, 23, 5] := by have := Array.mem_of_getElem? ht; simp at this; simp; first | omega | (rcases this with h | h <;> simp [h]) | (rcases this with h | h | h <;> simp [h]) | (rcases this with h | h | h | h <;> simp [h])
        have hall : ([3, 9, 23, 5].all fun u => !Tryd.prog.wantsStandIn u) = true := by kernel_rfl
        exact (show Tryd.prog.wantsStandIn t = false by simpa using List.all_eq_true.1 hall t hm)⟩)
    (by kernel_rfl)
#print axioms proved
end Go.Proofs.YtgodhbliamlclaaDoor.ipTurns
