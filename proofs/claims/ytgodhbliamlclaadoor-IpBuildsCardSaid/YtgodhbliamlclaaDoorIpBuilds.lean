/-
  The datagram of a header and a payload, whether a header is right, and the sum of a text, is what the document says: any header, any text (addresses of at most 100 bytes, a text of at most 2000; others are not asked of).
-/
import Derived.Test.YtgodhbliamlclaaDoorLift
import Derived.Test.YtgodhbliamlclaaDoorShown
import Derived.Test.YtgodhbliamlclaaDoorLaid
import Derived.Test.YtgodhbliamlclaaDoorCards
import Derived.Test.YtgodhbliamlclaaDoorTie
import Derived.SevenTiedAt
import Derived.Test.YtgodhbliamlclaaDoorText
import Derived.RegionCalls
import Derived.Deep.RegionHeld3
import Derived.Maps.AppendAt
import Derived.Test.YtgodhbliamlclaaDoorHdr
import Derived.Test.YtgodhbliamlclaaDoorRefB
import Derived.Test.YtgodhbliamlclaaDoorParsed
namespace Go.Proofs.YtgodhbliamlclaaDoor.ipBuilds
open Go.ChangeShapes Go.WideShapes Go.ChangeAt Go.RowKit
set_option linter.unusedVariables false

theorem keep5 {wc : World} {g : Nat} {ty : TypeId} {ver hops mark : Int} {f t : ByteArray} {X : World} {fn : FuncId} {args : Array Value} {v : Value} (h : Hid (Stays wc g ty ver hops mark f t X))
    (hc : Calls Tryd.prog fn args X fun e X' => e = .returned v ∧ Below X.heap.size X X') : Calls Tryd.prog fn args X fun e X' => e = .returned v ∧ Lie X' g ver hops mark f t ∧ Hid (Stays wc g ty ver hops mark f t X') :=
  hc.mono fun e X' ⟨he, hb⟩ => ⟨he, lie_of (h.out.next hb).1, h.out.next hb⟩
theorem still_below {X : World} {fn : FuncId} {args : Array Value} {v : Value} (hc : Calls Tryd.prog fn args X fun e X' => e = .returned v ∧ X = X') : Calls Tryd.prog fn args X fun e X' => e = .returned v ∧ Below X.heap.size X X' :=
  hc.mono fun e X' ⟨he, hb⟩ => ⟨he, by subst hb; exact Below.refl _ _⟩
/-- The four kinds of headers and payloads that can be gone through. -/
theorem kinds (ver hops mark : Int) (f t : ByteArray) (n : Nat) : rightB ver hops mark f.size t.size = false ∨ (rightB ver hops mark f.size t.size = true ∧ 1500 < n) ∨
    (rightB ver hops mark f.size t.size = true ∧ ver = 4 ∧ (∃ h m : Nat, hops = (h : Int) ∧ mark = (m : Int) ∧ h < 256 ∧ m < 65536) ∧ f.size = 4 ∧ t.size = 4 ∧ n ≤ 1500) ∨
    (rightB ver hops mark f.size t.size = true ∧ ver = 6 ∧ mark = 0 ∧ (∃ h : Nat, hops = (h : Int) ∧ h < 256) ∧ f.size = 16 ∧ t.size = 16 ∧ n ≤ 1500) := by
  cases hr : rightB ver hops mark f.size t.size with
  | false => exact .inl rfl
  | true =>
    by_cases hn : 1500 < n
    · exact .inr (.inl ⟨rfl, hn⟩)
    · unfold rightB wB at hr
      by_cases h4 : ver = 4
      · rw [if_pos h4] at hr
        have := of_decide_eq_true hr
        exact .inr (.inr (.inl ⟨rfl, h4, ⟨hops.toNat, mark.toNat, by omega, by omega, by omega, by omega⟩, by omega, by omega, by omega⟩))
      · rw [if_neg h4] at hr
        by_cases h6 : ver = 6
        · rw [if_pos h6] at hr
          have := of_decide_eq_true hr
          exact .inr (.inr (.inr ⟨rfl, h6, by omega, ⟨hops.toNat, by omega, by omega⟩, by omega, by omega, by omega⟩))
        · rw [if_neg h6] at hr
          cases hr

set_option maxHeartbeats 4000000 in
set_option maxRecDepth 100000 in
theorem walk_long (ver hops mark : Int) (f t s : ByteArray) (hshort : shortB f.size t.size s.size = false) (w : World) (hK : Kub w) :
    Calls Tryd.prog 3 #[.agg #[.int .i64 ver, .int .i64 hops, .int .i64 mark, .string f, .string t], .string s] w fun e w' => e = .returned (.bool true) ∧ Below w.heap.size w w' := by
  have HB := Lib.hid ((Below.refl w.heap.size w).alloc (Nat.le_refl _) (.cells #[.int .i64 ver, .int .i64 hops, .int .i64 mark, .string f, .string t] 23))
  have HS : Hid (HdrAt (w.alloc (.cells #[.int .i64 ver, .int .i64 hops, .int .i64 mark, .string f, .string t] 23)) w.heap.size 23 ver hops mark f t) := Lib.hid (heap_alloc_new _ _)
  have HK := Lib.hid hK
  clear hK
  have HSH := Lib.hid (show ∀ W, Calls Tryd.prog 8 #[.agg #[.int .i64 ver, .int .i64 hops, .int .i64 mark, .string f, .string t], .string s] W fun e w' => e = .returned (.bool false) ∧ Below W.heap.size W w' from fun W => by have h := short_any ver hops mark f t s W; rw [hshort] at h; exact h)
  clear hshort
  go_enter Tryd.func3, Tryd.ntmps3
  go_wp2_with (first
    | (go_at_call 7; ((with_reducible refine (shown_any _ (HK.out.later HB.out)).mono ?_); rintro e w1 ⟨rfl, hb1⟩); replace HS := Lib.hid (HdrAt.later HS.out hb1); have k0 := HdrAt.c0 HS.out; have k1 := HdrAt.c1 HS.out; have k2 := HdrAt.c2 HS.out; have k3 := HdrAt.c3 HS.out; have k4 := HdrAt.c4 HS.out; replace HB := Lib.hid (HB.out.trans (hb1.mono HB.out.size)); clear hb1)
    | (go_at_call 8; ((with_reducible refine (HSH.out _).mono ?_); rintro e w1 ⟨rfl, hb1⟩); replace HS := Lib.hid (HdrAt.later HS.out hb1); have k0 := HdrAt.c0 HS.out; have k1 := HdrAt.c1 HS.out; have k2 := HdrAt.c2 HS.out; have k3 := HdrAt.c3 HS.out; have k4 := HdrAt.c4 HS.out; replace HB := Lib.hid (HB.out.trans (hb1.mono HB.out.size)); clear hb1))
  go_ret
  exact ⟨rfl, HB.out⟩
set_option maxHeartbeats 4000000 in
set_option maxRecDepth 100000 in
theorem walk_arg (ver hops mark : Int) (f t s : ByteArray) (hshort : shortB f.size t.size s.size = true) (hs : s.size ≤ 2000) (hr : rightB ver hops mark f.size t.size = false) (w : World) (hK : Kub w) :
    Calls Tryd.prog 3 #[.agg #[.int .i64 ver, .int .i64 hops, .int .i64 mark, .string f, .string t], .string s] w fun e w' => e = .returned (.bool true) ∧ Below w.heap.size w w' := by
  have HB := Lib.hid ((Below.refl w.heap.size w).alloc (Nat.le_refl _) (.cells #[.int .i64 ver, .int .i64 hops, .int .i64 mark, .string f, .string t] 23))
  have HS : Hid (HdrAt (w.alloc (.cells #[.int .i64 ver, .int .i64 hops, .int .i64 mark, .string f, .string t] 23)) w.heap.size 23 ver hops mark f t) := Lib.hid (heap_alloc_new _ _)
  have HK := Lib.hid hK
  clear hK
  have HSH := Lib.hid (show ∀ W, Calls Tryd.prog 8 #[.agg #[.int .i64 ver, .int .i64 hops, .int .i64 mark, .string f, .string t], .string s] W fun e w' => e = .returned (.bool true) ∧ Below W.heap.size W w' from fun W => by have h := short_any ver hops mark f t s W; rw [hshort] at h; exact h)
  have HBU := Lib.hid (fun W => build_arg ver hops mark f t s hr W)
  have HRB := Lib.hid (fun W => rbuild_arg ver hops mark f t s hr W)
  have HAS := Lib.hid (fun W => as_any ver hops mark f t W)
  have HRI := Lib.hid (fun W => right_any ver hops mark f t W)
  have HRR := Lib.hid (fun W => rright_any ver hops mark f t W)
  have HC := Lib.hid (fun W => check16_any s (by omega) W)
  have HRC := Lib.hid (fun W => still_below (rcheck16_any s (by omega) W))
  clear hshort
  generalize rightB ver hops mark f.size t.size = rr at *
  generalize sumB s = c at *
  skip
  go_enter Tryd.func3, Tryd.ntmps3
  go_wp2_with (first
    | (go_at_call 7; ((with_reducible refine (shown_any _ (HK.out.later HB.out)).mono ?_); rintro e w1 ⟨rfl, hb1⟩); replace HS := Lib.hid (HdrAt.later HS.out hb1); have k0 := HdrAt.c0 HS.out; have k1 := HdrAt.c1 HS.out; have k2 := HdrAt.c2 HS.out; have k3 := HdrAt.c3 HS.out; have k4 := HdrAt.c4 HS.out; replace HB := Lib.hid (HB.out.trans (hb1.mono HB.out.size)); clear hb1)
    | (go_at_call 8; ((with_reducible refine (HSH.out _).mono ?_); rintro e w1 ⟨rfl, hb1⟩); replace HS := Lib.hid (HdrAt.later HS.out hb1); have k0 := HdrAt.c0 HS.out; have k1 := HdrAt.c1 HS.out; have k2 := HdrAt.c2 HS.out; have k3 := HdrAt.c3 HS.out; have k4 := HdrAt.c4 HS.out; replace HB := Lib.hid (HB.out.trans (hb1.mono HB.out.size)); clear hb1)
    | (go_at_call 9; ((with_reducible refine (HBU.out _).mono ?_); rintro e w1 ⟨rfl, hb1⟩); replace HS := Lib.hid (HdrAt.later HS.out hb1); have k0 := HdrAt.c0 HS.out; have k1 := HdrAt.c1 HS.out; have k2 := HdrAt.c2 HS.out; have k3 := HdrAt.c3 HS.out; have k4 := HdrAt.c4 HS.out; replace HB := Lib.hid (HB.out.trans (hb1.mono HB.out.size)); clear hb1)
    | (go_at_call 11; ((with_reducible refine (HAS.out _).mono ?_); rintro e w1 ⟨rfl, hb1⟩); replace HS := Lib.hid (HdrAt.later HS.out hb1); have k0 := HdrAt.c0 HS.out; have k1 := HdrAt.c1 HS.out; have k2 := HdrAt.c2 HS.out; have k3 := HdrAt.c3 HS.out; have k4 := HdrAt.c4 HS.out; replace HB := Lib.hid (HB.out.trans (hb1.mono HB.out.size)); clear hb1)
    | (go_at_call 10; ((with_reducible refine (HRB.out _).mono ?_); rintro e w1 ⟨rfl, hb1⟩); replace HS := Lib.hid (HdrAt.later HS.out hb1); have k0 := HdrAt.c0 HS.out; have k1 := HdrAt.c1 HS.out; have k2 := HdrAt.c2 HS.out; have k3 := HdrAt.c3 HS.out; have k4 := HdrAt.c4 HS.out; replace HB := Lib.hid (HB.out.trans (hb1.mono HB.out.size)); clear hb1))
  obtain ⟨wc, hwc⟩ : ∃ wc, wc = w1 := ⟨_, rfl⟩
  have HK0 : Hid (Lie w1.drew w.heap.size ver hops mark f t ∧ Hid (Stays w1 w.heap.size 23 ver hops mark f t w1.drew)) := Lib.hid ⟨lie_of (show HdrAt w1.drew w.heap.size 23 ver hops mark f t from HS.out), Lib.hid ⟨HS.out, (Below.refl _ _).drew⟩⟩
  clear k0 k1 k2 k3 k4 HBU HRB HSH hwc
  go_region_held3 (fun w' => Lie w' w.heap.size ver hops mark f t ∧ Hid (Stays w1 w.heap.size 23 ver hops mark f t w'))
    (first | exact HK0.out | (go_split_ands; refine ⟨⟨?_, ?_, ?_, ?_, ?_⟩, ?_⟩ <;> assumption))
    (first
      | (go_at_call 12; go_split_ands; (with_reducible refine (keep5 (by assumption) (HRI.out _)).mono ?_); rintro e w2 ⟨rfl, ⟨k0, k1, k2, k3, k4⟩, k5⟩)
      | (go_at_call 11; go_split_ands; (with_reducible refine (keep5 (by assumption) (HAS.out _)).mono ?_); rintro e w2 ⟨rfl, ⟨k0, k1, k2, k3, k4⟩, k5⟩)
      | (go_at_call 13; go_split_ands; (with_reducible refine (keep5 (by assumption) (HRR.out _)).mono ?_); rintro e w2 ⟨rfl, ⟨k0, k1, k2, k3, k4⟩, k5⟩)
      | (go_at_call 14; go_split_ands; (with_reducible refine (keep5 (by assumption) (HC.out _)).mono ?_); rintro e w2 ⟨rfl, ⟨k0, k1, k2, k3, k4⟩, k5⟩)
      | (go_at_call 15; go_split_ands; (with_reducible refine (keep5 (by assumption) (HRC.out _)).mono ?_); rintro e w2 ⟨rfl, ⟨k0, k1, k2, k3, k4⟩, k5⟩))
  have HB2 := Lib.hid (HB.out.trans (k5.out.2.mono HB.out.size))
  clear k0 k1 k2 k3 k4 k5
  go_wp2_with fail
  go_ret
  exact ⟨rfl, HB2.out⟩
set_option maxHeartbeats 4000000 in
set_option maxRecDepth 100000 in
theorem walk_big (ver hops mark : Int) (f t s : ByteArray) (hshort : shortB f.size t.size s.size = true) (hs : s.size ≤ 2000) (hr : rightB ver hops mark f.size t.size = true) (hl : (1500 : Int) < (s.size : Int)) (w : World) (hK : Kub w) :
    Calls Tryd.prog 3 #[.agg #[.int .i64 ver, .int .i64 hops, .int .i64 mark, .string f, .string t], .string s] w fun e w' => e = .returned (.bool true) ∧ Below w.heap.size w w' := by
  have HB := Lib.hid ((Below.refl w.heap.size w).alloc (Nat.le_refl _) (.cells #[.int .i64 ver, .int .i64 hops, .int .i64 mark, .string f, .string t] 23))
  have HS : Hid (HdrAt (w.alloc (.cells #[.int .i64 ver, .int .i64 hops, .int .i64 mark, .string f, .string t] 23)) w.heap.size 23 ver hops mark f t) := Lib.hid (heap_alloc_new _ _)
  have HK := Lib.hid hK
  clear hK
  have HSH := Lib.hid (show ∀ W, Calls Tryd.prog 8 #[.agg #[.int .i64 ver, .int .i64 hops, .int .i64 mark, .string f, .string t], .string s] W fun e w' => e = .returned (.bool true) ∧ Below W.heap.size W w' from fun W => by have h := short_any ver hops mark f t s W; rw [hshort] at h; exact h)
  have HBU := Lib.hid (fun W => build_long ver hops mark f t s hr hl W)
  have HRB := Lib.hid (fun W => rbuild_long ver hops mark f t s hr hl W)
  have HAS := Lib.hid (fun W => as_any ver hops mark f t W)
  have HRI := Lib.hid (fun W => right_any ver hops mark f t W)
  have HRR := Lib.hid (fun W => rright_any ver hops mark f t W)
  have HC := Lib.hid (fun W => check16_any s (by omega) W)
  have HRC := Lib.hid (fun W => still_below (rcheck16_any s (by omega) W))
  clear hshort
  generalize rightB ver hops mark f.size t.size = rr at *
  generalize sumB s = c at *
  skip
  go_enter Tryd.func3, Tryd.ntmps3
  go_wp2_with (first
    | (go_at_call 7; ((with_reducible refine (shown_any _ (HK.out.later HB.out)).mono ?_); rintro e w1 ⟨rfl, hb1⟩); replace HS := Lib.hid (HdrAt.later HS.out hb1); have k0 := HdrAt.c0 HS.out; have k1 := HdrAt.c1 HS.out; have k2 := HdrAt.c2 HS.out; have k3 := HdrAt.c3 HS.out; have k4 := HdrAt.c4 HS.out; replace HB := Lib.hid (HB.out.trans (hb1.mono HB.out.size)); clear hb1)
    | (go_at_call 8; ((with_reducible refine (HSH.out _).mono ?_); rintro e w1 ⟨rfl, hb1⟩); replace HS := Lib.hid (HdrAt.later HS.out hb1); have k0 := HdrAt.c0 HS.out; have k1 := HdrAt.c1 HS.out; have k2 := HdrAt.c2 HS.out; have k3 := HdrAt.c3 HS.out; have k4 := HdrAt.c4 HS.out; replace HB := Lib.hid (HB.out.trans (hb1.mono HB.out.size)); clear hb1)
    | (go_at_call 9; ((with_reducible refine (HBU.out _).mono ?_); rintro e w1 ⟨rfl, hb1⟩); replace HS := Lib.hid (HdrAt.later HS.out hb1); have k0 := HdrAt.c0 HS.out; have k1 := HdrAt.c1 HS.out; have k2 := HdrAt.c2 HS.out; have k3 := HdrAt.c3 HS.out; have k4 := HdrAt.c4 HS.out; replace HB := Lib.hid (HB.out.trans (hb1.mono HB.out.size)); clear hb1)
    | (go_at_call 11; ((with_reducible refine (HAS.out _).mono ?_); rintro e w1 ⟨rfl, hb1⟩); replace HS := Lib.hid (HdrAt.later HS.out hb1); have k0 := HdrAt.c0 HS.out; have k1 := HdrAt.c1 HS.out; have k2 := HdrAt.c2 HS.out; have k3 := HdrAt.c3 HS.out; have k4 := HdrAt.c4 HS.out; replace HB := Lib.hid (HB.out.trans (hb1.mono HB.out.size)); clear hb1)
    | (go_at_call 10; ((with_reducible refine (HRB.out _).mono ?_); rintro e w1 ⟨rfl, hb1⟩); replace HS := Lib.hid (HdrAt.later HS.out hb1); have k0 := HdrAt.c0 HS.out; have k1 := HdrAt.c1 HS.out; have k2 := HdrAt.c2 HS.out; have k3 := HdrAt.c3 HS.out; have k4 := HdrAt.c4 HS.out; replace HB := Lib.hid (HB.out.trans (hb1.mono HB.out.size)); clear hb1))
  obtain ⟨wc, hwc⟩ : ∃ wc, wc = w1 := ⟨_, rfl⟩
  have HK0 : Hid (Lie w1.drew w.heap.size ver hops mark f t ∧ Hid (Stays w1 w.heap.size 23 ver hops mark f t w1.drew)) := Lib.hid ⟨lie_of (show HdrAt w1.drew w.heap.size 23 ver hops mark f t from HS.out), Lib.hid ⟨HS.out, (Below.refl _ _).drew⟩⟩
  clear k0 k1 k2 k3 k4 HBU HRB HSH hwc
  go_region_held3 (fun w' => Lie w' w.heap.size ver hops mark f t ∧ Hid (Stays w1 w.heap.size 23 ver hops mark f t w'))
    (first | exact HK0.out | (go_split_ands; refine ⟨⟨?_, ?_, ?_, ?_, ?_⟩, ?_⟩ <;> assumption))
    (first
      | (go_at_call 12; go_split_ands; (with_reducible refine (keep5 (by assumption) (HRI.out _)).mono ?_); rintro e w2 ⟨rfl, ⟨k0, k1, k2, k3, k4⟩, k5⟩)
      | (go_at_call 11; go_split_ands; (with_reducible refine (keep5 (by assumption) (HAS.out _)).mono ?_); rintro e w2 ⟨rfl, ⟨k0, k1, k2, k3, k4⟩, k5⟩)
      | (go_at_call 13; go_split_ands; (with_reducible refine (keep5 (by assumption) (HRR.out _)).mono ?_); rintro e w2 ⟨rfl, ⟨k0, k1, k2, k3, k4⟩, k5⟩)
      | (go_at_call 14; go_split_ands; (with_reducible refine (keep5 (by assumption) (HC.out _)).mono ?_); rintro e w2 ⟨rfl, ⟨k0, k1, k2, k3, k4⟩, k5⟩)
      | (go_at_call 15; go_split_ands; (with_reducible refine (keep5 (by assumption) (HRC.out _)).mono ?_); rintro e w2 ⟨rfl, ⟨k0, k1, k2, k3, k4⟩, k5⟩))
  have HB2 := Lib.hid (HB.out.trans (k5.out.2.mono HB.out.size))
  clear k0 k1 k2 k3 k4 k5
  go_wp2_with fail
  go_ret
  exact ⟨rfl, HB2.out⟩
set_option maxHeartbeats 4000000 in
set_option maxRecDepth 100000 in
theorem walk_v4 (hops mark : Nat) (hh : hops < 256) (hm : mark < 65536) (f t s : ByteArray) (hshort : shortB f.size t.size s.size = true) (hs : s.size ≤ 2000) (hf : f.size = 4) (ht : t.size = 4) (hl : s.size ≤ 1500) (w : World) (hK : Kub w) :
    Calls Tryd.prog 3 #[.agg #[.int .i64 4, .int .i64 hops, .int .i64 mark, .string f, .string t], .string s] w fun e w' => e = .returned (.bool true) ∧ Below w.heap.size w w' := by
  have HB := Lib.hid ((Below.refl w.heap.size w).alloc (Nat.le_refl _) (.cells #[.int .i64 4, .int .i64 hops, .int .i64 mark, .string f, .string t] 23))
  have HS : Hid (HdrAt (w.alloc (.cells #[.int .i64 4, .int .i64 hops, .int .i64 mark, .string f, .string t] 23)) w.heap.size 23 4 hops mark f t) := Lib.hid (heap_alloc_new _ _)
  have HK := Lib.hid hK
  clear hK
  have HSH := Lib.hid (show ∀ W, Calls Tryd.prog 8 #[.agg #[.int .i64 4, .int .i64 hops, .int .i64 mark, .string f, .string t], .string s] W fun e w' => e = .returned (.bool true) ∧ Below W.heap.size W w' from fun W => by have h := short_any 4 hops mark f t s W; rw [hshort] at h; exact h)
  have HBU := Lib.hid (fun W => build_v4 hops mark hh hm f t s hf ht hl W)
  have HRB := Lib.hid (fun W => rbuild_v4 hops mark hh hm f t s hf ht hl W)
  have HAS := Lib.hid (fun W => as_any 4 hops mark f t W)
  have HRI := Lib.hid (fun W => right_any 4 hops mark f t W)
  have HRR := Lib.hid (fun W => rright_any 4 hops mark f t W)
  have HC := Lib.hid (fun W => check16_any s (by omega) W)
  have HRC := Lib.hid (fun W => still_below (rcheck16_any s (by omega) W))
  clear hshort
  generalize rightB 4 hops mark f.size t.size = rr at *
  generalize sumB s = c at *
  generalize head4 hops mark f t s.size ++ s = d at *
  go_enter Tryd.func3, Tryd.ntmps3
  go_wp2_with (first
    | (go_at_call 7; ((with_reducible refine (shown_any _ (HK.out.later HB.out)).mono ?_); rintro e w1 ⟨rfl, hb1⟩); replace HS := Lib.hid (HdrAt.later HS.out hb1); have k0 := HdrAt.c0 HS.out; have k1 := HdrAt.c1 HS.out; have k2 := HdrAt.c2 HS.out; have k3 := HdrAt.c3 HS.out; have k4 := HdrAt.c4 HS.out; replace HB := Lib.hid (HB.out.trans (hb1.mono HB.out.size)); clear hb1)
    | (go_at_call 8; ((with_reducible refine (HSH.out _).mono ?_); rintro e w1 ⟨rfl, hb1⟩); replace HS := Lib.hid (HdrAt.later HS.out hb1); have k0 := HdrAt.c0 HS.out; have k1 := HdrAt.c1 HS.out; have k2 := HdrAt.c2 HS.out; have k3 := HdrAt.c3 HS.out; have k4 := HdrAt.c4 HS.out; replace HB := Lib.hid (HB.out.trans (hb1.mono HB.out.size)); clear hb1)
    | (go_at_call 9; ((with_reducible refine (HBU.out _).mono ?_); rintro e w1 ⟨rfl, hb1⟩); replace HS := Lib.hid (HdrAt.later HS.out hb1); have k0 := HdrAt.c0 HS.out; have k1 := HdrAt.c1 HS.out; have k2 := HdrAt.c2 HS.out; have k3 := HdrAt.c3 HS.out; have k4 := HdrAt.c4 HS.out; replace HB := Lib.hid (HB.out.trans (hb1.mono HB.out.size)); clear hb1)
    | (go_at_call 11; ((with_reducible refine (HAS.out _).mono ?_); rintro e w1 ⟨rfl, hb1⟩); replace HS := Lib.hid (HdrAt.later HS.out hb1); have k0 := HdrAt.c0 HS.out; have k1 := HdrAt.c1 HS.out; have k2 := HdrAt.c2 HS.out; have k3 := HdrAt.c3 HS.out; have k4 := HdrAt.c4 HS.out; replace HB := Lib.hid (HB.out.trans (hb1.mono HB.out.size)); clear hb1)
    | (go_at_call 10; ((with_reducible refine (HRB.out _).mono ?_); rintro e w1 ⟨rfl, hb1⟩); replace HS := Lib.hid (HdrAt.later HS.out hb1); have k0 := HdrAt.c0 HS.out; have k1 := HdrAt.c1 HS.out; have k2 := HdrAt.c2 HS.out; have k3 := HdrAt.c3 HS.out; have k4 := HdrAt.c4 HS.out; replace HB := Lib.hid (HB.out.trans (hb1.mono HB.out.size)); clear hb1))
  obtain ⟨wc, hwc⟩ : ∃ wc, wc = w1 := ⟨_, rfl⟩
  have HK0 : Hid (Lie w1.drew w.heap.size 4 hops mark f t ∧ Hid (Stays w1 w.heap.size 23 4 hops mark f t w1.drew)) := Lib.hid ⟨lie_of (show HdrAt w1.drew w.heap.size 23 4 hops mark f t from HS.out), Lib.hid ⟨HS.out, (Below.refl _ _).drew⟩⟩
  clear k0 k1 k2 k3 k4 HBU HRB HSH hwc
  go_region_held3 (fun w' => Lie w' w.heap.size 4 hops mark f t ∧ Hid (Stays w1 w.heap.size 23 4 hops mark f t w'))
    (first | exact HK0.out | (go_split_ands; refine ⟨⟨?_, ?_, ?_, ?_, ?_⟩, ?_⟩ <;> assumption))
    (first
      | (go_at_call 12; go_split_ands; (with_reducible refine (keep5 (by assumption) (HRI.out _)).mono ?_); rintro e w2 ⟨rfl, ⟨k0, k1, k2, k3, k4⟩, k5⟩)
      | (go_at_call 11; go_split_ands; (with_reducible refine (keep5 (by assumption) (HAS.out _)).mono ?_); rintro e w2 ⟨rfl, ⟨k0, k1, k2, k3, k4⟩, k5⟩)
      | (go_at_call 13; go_split_ands; (with_reducible refine (keep5 (by assumption) (HRR.out _)).mono ?_); rintro e w2 ⟨rfl, ⟨k0, k1, k2, k3, k4⟩, k5⟩)
      | (go_at_call 14; go_split_ands; (with_reducible refine (keep5 (by assumption) (HC.out _)).mono ?_); rintro e w2 ⟨rfl, ⟨k0, k1, k2, k3, k4⟩, k5⟩)
      | (go_at_call 15; go_split_ands; (with_reducible refine (keep5 (by assumption) (HRC.out _)).mono ?_); rintro e w2 ⟨rfl, ⟨k0, k1, k2, k3, k4⟩, k5⟩))
  have HB2 := Lib.hid (HB.out.trans (k5.out.2.mono HB.out.size))
  clear k0 k1 k2 k3 k4 k5
  go_wp2_with fail
  go_ret
  exact ⟨rfl, HB2.out⟩
set_option maxHeartbeats 4000000 in
set_option maxRecDepth 100000 in
theorem walk_v6 (hops : Nat) (hh : hops < 256) (f t s : ByteArray) (hshort : shortB f.size t.size s.size = true) (hs : s.size ≤ 2000) (hf : f.size = 16) (ht : t.size = 16) (hl : s.size ≤ 1500) (w : World) (hK : Kub w) :
    Calls Tryd.prog 3 #[.agg #[.int .i64 6, .int .i64 hops, .int .i64 0, .string f, .string t], .string s] w fun e w' => e = .returned (.bool true) ∧ Below w.heap.size w w' := by
  have HB := Lib.hid ((Below.refl w.heap.size w).alloc (Nat.le_refl _) (.cells #[.int .i64 6, .int .i64 hops, .int .i64 0, .string f, .string t] 23))
  have HS : Hid (HdrAt (w.alloc (.cells #[.int .i64 6, .int .i64 hops, .int .i64 0, .string f, .string t] 23)) w.heap.size 23 6 hops 0 f t) := Lib.hid (heap_alloc_new _ _)
  have HK := Lib.hid hK
  clear hK
  have HSH := Lib.hid (show ∀ W, Calls Tryd.prog 8 #[.agg #[.int .i64 6, .int .i64 hops, .int .i64 0, .string f, .string t], .string s] W fun e w' => e = .returned (.bool true) ∧ Below W.heap.size W w' from fun W => by have h := short_any 6 hops 0 f t s W; rw [hshort] at h; exact h)
  have HBU := Lib.hid (fun W => build_v6 hops hh f t s hf ht hl W)
  have HRB := Lib.hid (fun W => rbuild_v6 hops hh f t s hf ht hl W)
  have HAS := Lib.hid (fun W => as_any 6 hops 0 f t W)
  have HRI := Lib.hid (fun W => right_any 6 hops 0 f t W)
  have HRR := Lib.hid (fun W => rright_any 6 hops 0 f t W)
  have HC := Lib.hid (fun W => check16_any s (by omega) W)
  have HRC := Lib.hid (fun W => still_below (rcheck16_any s (by omega) W))
  clear hshort
  generalize rightB 6 hops 0 f.size t.size = rr at *
  generalize sumB s = c at *
  generalize head6 hops f t s.size ++ s = d at *
  go_enter Tryd.func3, Tryd.ntmps3
  go_wp2_with (first
    | (go_at_call 7; ((with_reducible refine (shown_any _ (HK.out.later HB.out)).mono ?_); rintro e w1 ⟨rfl, hb1⟩); replace HS := Lib.hid (HdrAt.later HS.out hb1); have k0 := HdrAt.c0 HS.out; have k1 := HdrAt.c1 HS.out; have k2 := HdrAt.c2 HS.out; have k3 := HdrAt.c3 HS.out; have k4 := HdrAt.c4 HS.out; replace HB := Lib.hid (HB.out.trans (hb1.mono HB.out.size)); clear hb1)
    | (go_at_call 8; ((with_reducible refine (HSH.out _).mono ?_); rintro e w1 ⟨rfl, hb1⟩); replace HS := Lib.hid (HdrAt.later HS.out hb1); have k0 := HdrAt.c0 HS.out; have k1 := HdrAt.c1 HS.out; have k2 := HdrAt.c2 HS.out; have k3 := HdrAt.c3 HS.out; have k4 := HdrAt.c4 HS.out; replace HB := Lib.hid (HB.out.trans (hb1.mono HB.out.size)); clear hb1)
    | (go_at_call 9; ((with_reducible refine (HBU.out _).mono ?_); rintro e w1 ⟨rfl, hb1⟩); replace HS := Lib.hid (HdrAt.later HS.out hb1); have k0 := HdrAt.c0 HS.out; have k1 := HdrAt.c1 HS.out; have k2 := HdrAt.c2 HS.out; have k3 := HdrAt.c3 HS.out; have k4 := HdrAt.c4 HS.out; replace HB := Lib.hid (HB.out.trans (hb1.mono HB.out.size)); clear hb1)
    | (go_at_call 11; ((with_reducible refine (HAS.out _).mono ?_); rintro e w1 ⟨rfl, hb1⟩); replace HS := Lib.hid (HdrAt.later HS.out hb1); have k0 := HdrAt.c0 HS.out; have k1 := HdrAt.c1 HS.out; have k2 := HdrAt.c2 HS.out; have k3 := HdrAt.c3 HS.out; have k4 := HdrAt.c4 HS.out; replace HB := Lib.hid (HB.out.trans (hb1.mono HB.out.size)); clear hb1)
    | (go_at_call 10; ((with_reducible refine (HRB.out _).mono ?_); rintro e w1 ⟨rfl, hb1⟩); replace HS := Lib.hid (HdrAt.later HS.out hb1); have k0 := HdrAt.c0 HS.out; have k1 := HdrAt.c1 HS.out; have k2 := HdrAt.c2 HS.out; have k3 := HdrAt.c3 HS.out; have k4 := HdrAt.c4 HS.out; replace HB := Lib.hid (HB.out.trans (hb1.mono HB.out.size)); clear hb1))
  obtain ⟨wc, hwc⟩ : ∃ wc, wc = w1 := ⟨_, rfl⟩
  have HK0 : Hid (Lie w1.drew w.heap.size 6 hops 0 f t ∧ Hid (Stays w1 w.heap.size 23 6 hops 0 f t w1.drew)) := Lib.hid ⟨lie_of (show HdrAt w1.drew w.heap.size 23 6 hops 0 f t from HS.out), Lib.hid ⟨HS.out, (Below.refl _ _).drew⟩⟩
  clear k0 k1 k2 k3 k4 HBU HRB HSH hwc
  go_region_held3 (fun w' => Lie w' w.heap.size 6 hops 0 f t ∧ Hid (Stays w1 w.heap.size 23 6 hops 0 f t w'))
    (first | exact HK0.out | (go_split_ands; refine ⟨⟨?_, ?_, ?_, ?_, ?_⟩, ?_⟩ <;> assumption))
    (first
      | (go_at_call 12; go_split_ands; (with_reducible refine (keep5 (by assumption) (HRI.out _)).mono ?_); rintro e w2 ⟨rfl, ⟨k0, k1, k2, k3, k4⟩, k5⟩)
      | (go_at_call 11; go_split_ands; (with_reducible refine (keep5 (by assumption) (HAS.out _)).mono ?_); rintro e w2 ⟨rfl, ⟨k0, k1, k2, k3, k4⟩, k5⟩)
      | (go_at_call 13; go_split_ands; (with_reducible refine (keep5 (by assumption) (HRR.out _)).mono ?_); rintro e w2 ⟨rfl, ⟨k0, k1, k2, k3, k4⟩, k5⟩)
      | (go_at_call 14; go_split_ands; (with_reducible refine (keep5 (by assumption) (HC.out _)).mono ?_); rintro e w2 ⟨rfl, ⟨k0, k1, k2, k3, k4⟩, k5⟩)
      | (go_at_call 15; go_split_ands; (with_reducible refine (keep5 (by assumption) (HRC.out _)).mono ?_); rintro e w2 ⟨rfl, ⟨k0, k1, k2, k3, k4⟩, k5⟩))
  have HB2 := Lib.hid (HB.out.trans (k5.out.2.mono HB.out.size))
  clear k0 k1 k2 k3 k4 k5
  go_wp2_with fail
  go_ret
  exact ⟨rfl, HB2.out⟩
theorem walk (ver hops mark : Int) (f t s : ByteArray) (w : World) (hK : Kub w) :
    Calls Tryd.prog 3 #[.agg #[.int .i64 ver, .int .i64 hops, .int .i64 mark, .string f, .string t], .string s] w fun e w' => e = .returned (.bool true) ∧ Below w.heap.size w w' := by
  cases hsh : shortB f.size t.size s.size with
  | false => exact walk_long ver hops mark f t s hsh w hK
  | true =>
    have hs : s.size ≤ 2000 := by
      unfold shortB at hsh
      have := of_decide_eq_true hsh
      omega
    rcases kinds ver hops mark f t s.size with hr | ⟨hr, hl⟩ | ⟨hr, rfl, ⟨h, m, rfl, rfl, hh, hm⟩, hf, ht, hl⟩ | ⟨hr, rfl, rfl, ⟨h, rfl, hh⟩, hf, ht, hl⟩
    · exact walk_arg ver hops mark f t s hsh hs hr w hK
    · exact walk_big ver hops mark f t s hsh hs hr (by omega) w hK
    · exact walk_v4 h m hh hm f t s hsh hs hf ht hl w hK
    · exact walk_v6 h hh f t s hsh hs hf ht hl w hK

set_option maxRecDepth 100000 in
theorem lifted (os : Os) (started : os.Started) (H : Type) (enc : TypeId × Value → H) :
    ReturnsInHanded {} Tryd.checked os 3 .any (fun w args => (Rows.ipBuildsSpec.pre enc Tryd.prog Tryd.f3 [] false w args ∧ laidMetH Tryd.prog laidK w) ∧ sizedMet enc Tryd.prog Tryd.f3 (OpenSpec.ofChange Rows.ipBuildsSpec) false w args) (Rows.ipBuildsSpec.post enc Tryd.prog Tryd.f3 false true false false) := by
  refine returnsInHanded_of_change_and (C := Tryd.checked) (X := fun w _ => laidMetH Tryd.prog laidK w) (fun _ _ _ hh h => h.of_heap hh) own started (by kernel_rfl) Tryd.func3
    (ChangeSpec.witness_shaped (enc := enc) (C := Tryd.checked) (os := os) (X := fun w _ => laidMetH Tryd.prog laidK w) false (World.doorLaid Tryd.prog 65 os) #[.agg #[.int .i64 0, .int .i64 0, .int .i64 0, .string ⟨#[]⟩, .string ⟨#[]⟩], .string ⟨#[]⟩] 8 rfl (World.shaped_of_RefB (by kernel_rfl) (by kernel_rfl)) (by kernel_rfl) (by kernel_rfl) (by kernel_rfl) (door_met os _)) ?_
  intro W base args ds gs before hval0 hW _ hreach hL _
  have hval : ∀ (j : Nat) t v, Tryd.f3.params[j]? = some t → args[j]? = some v → Value.okWide Tryd.prog W .any base t v := hval0
  obtain ⟨p, q, hA0, _, _, _, _⟩ := id hW
  have hA : DataW.TrodAll enc Tryd.prog W 0 (fun _ => true) true Tryd.f3.params.toList args.toList ds p := hA0
  rw [Tryd.params3] at hA hval
  obtain ⟨v0, vs0, d0, ds0, p0, q0, hargs, rfl, rfl, h0, r0⟩ := trodAll_cons hA
  obtain ⟨v1, vs1, d1, ds1, p1, q1, rfl, rfl, rfl, h1, r1⟩ := trodAll_cons r0
  obtain ⟨rfl, rfl, rfl⟩ := trodAll_nil r1
  obtain rfl : args = #[v0, v1] := by cases args; simp_all
  obtain ⟨ver0, hops0, mark0, f0, t0, rfl, wv0, wh0, wm0, wf0, wt0⟩ := open_header (hval 0 23 v0 rfl rfl) h0
  obtain ⟨a1, rfl, rfl, rfl, w1⟩ := Go.ChangeMaps.open_string Tryd.underlying9 (hval 1 9 v1 rfl rfl) h1
  refine (walk ver0 hops0 mark0 f0 t0 a1 W (kub_of_laid hL)).mono fun e W' ⟨he, hg⟩ => ?_
  subst he
  exact ⟨_, rfl, law_post laidOut Tryd.underlying4 (by kernel_rfl) (by kernel_rfl) rfl hW (by simp [Rows.ipBuildsSpec]) hg⟩

theorem row_proved : Rows.IpBuildsSaid :=
  OpenClaim.holds_of_wide 3 Tryd.f3 rfl rfl rfl rfl rfl rfl rfl ⟨rfl, rfl, rfl, rfl, rfl⟩ rfl rfl rfl rfl rfl (by kernel_rfl) Tryd.func3 (by kernel_rfl)
    (of_decide_eq_true (by kernel_rfl)) (by unfold Func.isWrapper; first | (rw [if_pos (by decide +kernel)]; kernel_rfl) | (rw [if_neg (by decide +kernel)]; exact ⟨rfl, rfl⟩))
    (fun os started H enc _ => lifted os started H enc)

theorem proved : Rows.IpBuildsCardSaid :=
  Claim7.holds_tied_plain_at .later [] [.data, .data, .data] true _ _
    row_proved (fun _ h => by cases h) (by kernel_rfl) (fun _ h => by cases h) ipBuilds_row_tie rfl ⟨rfl, rfl⟩ (by kernel_rfl) rfl
    (fun f fn hf hfn => by
      obtain rfl : f = 3 := Option.some.inj ((show Tryd.prog.funcNamed "towline/towlinelaw5.IpBuilds" = some 3 by kernel_rfl).symm.trans hf) |>.symm
      obtain rfl : fn = Tryd.f3 := (Option.some.inj (Tryd.func3.symm.trans hfn)).symm
      exact ⟨by kernel_rfl, fun j t ht => by
        rw [Tryd.params3] at ht
        have hm : t ∈ [9, 23] := by have := Array.mem_of_getElem? ht; simp at this; simp; first | omega | (rcases this with h | h <;> simp [h]) | (rcases this with h | h | h <;> simp [h]) | (rcases this with h | h | h | h <;> simp [h])
        have hall : ([9, 23].all fun u => !Tryd.prog.wantsStandIn u) = true := by kernel_rfl
        exact (show Tryd.prog.wantsStandIn t = false by simpa using List.all_eq_true.1 hall t hm)⟩)
    (by kernel_rfl)
#print axioms proved
end Go.Proofs.YtgodhbliamlclaaDoor.ipBuilds
