/-
  What is built is parsed as what was handed in; the sum of a header with its sum in it is 0: any header, any text (addresses of at most 100 bytes, a text of at most 2000; others are not asked of).
-/
import Derived.Test.YtgodhbliamlclaaDoorLift
import Derived.Test.YtgodhbliamlclaaDoorShown
import Derived.Test.YtgodhbliamlclaaDoorLaid
import Derived.Test.YtgodhbliamlclaaDoorCards
import Derived.Test.YtgodhbliamlclaaDoorTie
import Derived.SevenTiedAt
import Derived.Test.YtgodhbliamlclaaDoorText
import Derived.RegionCalls
import Derived.Deep.RegionHeld3
import Derived.Maps.AppendAt
import Derived.Test.YtgodhbliamlclaaDoorHdr
import Derived.Test.YtgodhbliamlclaaDoorBack
namespace Go.Proofs.YtgodhbliamlclaaDoor.ipBack
open Go.ChangeShapes Go.WideShapes Go.ChangeAt Go.RowKit
set_option linter.unusedVariables false

theorem keep5 {wc : World} {g : Nat} {ty : TypeId} {ver hops mark : Int} {f t : ByteArray} {X : World} {fn : FuncId} {args : Array Value} {v : Value} (h : Hid (Stays wc g ty ver hops mark f t X))
    (hc : Calls Tryd.prog fn args X fun e X' => e = .returned v ∧ Below X.heap.size X X') : Calls Tryd.prog fn args X fun e X' => e = .returned v ∧ Lie X' g ver hops mark f t ∧ Hid (Stays wc g ty ver hops mark f t X') :=
  hc.mono fun e X' ⟨he, hb⟩ => ⟨he, lie_of (h.out.next hb).1, h.out.next hb⟩
theorem still_below {X : World} {fn : FuncId} {args : Array Value} {v : Value} (hc : Calls Tryd.prog fn args X fun e X' => e = .returned v ∧ X = X') : Calls Tryd.prog fn args X fun e X' => e = .returned v ∧ Below X.heap.size X X' :=
  hc.mono fun e X' ⟨he, hb⟩ => ⟨he, by subst hb; exact Below.refl _ _⟩
/-- The four kinds of headers and payloads that can be gone through. -/
theorem kinds (ver hops mark : Int) (f t : ByteArray) (n : Nat) : rightB ver hops mark f.size t.size = false ∨ (rightB ver hops mark f.size t.size = true ∧ 1500 < n) ∨
    (rightB ver hops mark f.size t.size = true ∧ ver = 4 ∧ (∃ h m : Nat, hops = (h : Int) ∧ mark = (m : Int) ∧ h < 256 ∧ m < 65536) ∧ f.size = 4 ∧ t.size = 4 ∧ n ≤ 1500) ∨
    (rightB ver hops mark f.size t.size = true ∧ ver = 6 ∧ mark = 0 ∧ (∃ h : Nat, hops = (h : Int) ∧ h < 256) ∧ f.size = 16 ∧ t.size = 16 ∧ n ≤ 1500) := by
  cases hr : rightB ver hops mark f.size t.size with
  | false => exact .inl rfl
  | true =>
    by_cases hn : 1500 < n
    · exact .inr (.inl ⟨rfl, hn⟩)
    · unfold rightB wB at hr
      by_cases h4 : ver = 4
      · rw [if_pos h4] at hr
        have := of_decide_eq_true hr
        exact .inr (.inr (.inl ⟨rfl, h4, ⟨hops.toNat, mark.toNat, by omega, by omega, by omega, by omega⟩, by omega, by omega, by omega⟩))
      · rw [if_neg h4] at hr
        by_cases h6 : ver = 6
        · rw [if_pos h6] at hr
          have := of_decide_eq_true hr
          exact .inr (.inr (.inr ⟨rfl, h6, by omega, ⟨hops.toNat, by omega, by omega⟩, by omega, by omega, by omega⟩))
        · rw [if_neg h6] at hr
          cases hr

set_option maxHeartbeats 4000000 in
set_option maxRecDepth 100000 in
theorem walk_long (ver hops mark : Int) (f t s : ByteArray) (hshort : shortB f.size t.size s.size = false) (w : World) (hK : Kub w) :
    Calls Tryd.prog 4 #[.agg #[.int .i64 ver, .int .i64 hops, .int .i64 mark, .string f, .string t], .string s] w fun e w' => e = .returned (.bool true) ∧ Below w.heap.size w w' := by
  have HB := Lib.hid ((Below.refl w.heap.size w).alloc (Nat.le_refl _) (.cells #[.int .i64 ver, .int .i64 hops, .int .i64 mark, .string f, .string t] 23))
  have HS : Hid (HdrAt (w.alloc (.cells #[.int .i64 ver, .int .i64 hops, .int .i64 mark, .string f, .string t] 23)) w.heap.size 23 ver hops mark f t) := Lib.hid (heap_alloc_new _ _)
  have HK := Lib.hid hK
  clear hK
  have HSH := Lib.hid (show ∀ W, Calls Tryd.prog 8 #[.agg #[.int .i64 ver, .int .i64 hops, .int .i64 mark, .string f, .string t], .string s] W fun e w' => e = .returned (.bool false) ∧ Below W.heap.size W w' from fun W => by have h := short_any ver hops mark f t s W; rw [hshort] at h; exact h)
  clear hshort
  go_enter Tryd.func4, Tryd.ntmps4
  go_wp2_with (first
    | (go_at_call 7; ((with_reducible refine (shown_any _ (HK.out.later HB.out)).mono ?_); rintro e w1 ⟨rfl, hb1⟩); replace HS := Lib.hid (HdrAt.later HS.out hb1); have k0 := HdrAt.c0 HS.out; have k1 := HdrAt.c1 HS.out; have k2 := HdrAt.c2 HS.out; have k3 := HdrAt.c3 HS.out; have k4 := HdrAt.c4 HS.out; replace HB := Lib.hid (HB.out.trans (hb1.mono HB.out.size)); clear hb1)
    | (go_at_call 8; ((with_reducible refine (HSH.out _).mono ?_); rintro e w1 ⟨rfl, hb1⟩); replace HS := Lib.hid (HdrAt.later HS.out hb1); have k0 := HdrAt.c0 HS.out; have k1 := HdrAt.c1 HS.out; have k2 := HdrAt.c2 HS.out; have k3 := HdrAt.c3 HS.out; have k4 := HdrAt.c4 HS.out; replace HB := Lib.hid (HB.out.trans (hb1.mono HB.out.size)); clear hb1))
  go_ret
  exact ⟨rfl, HB.out⟩
set_option maxHeartbeats 4000000 in
set_option maxRecDepth 100000 in
theorem walk_arg (ver hops mark : Int) (f t s : ByteArray) (hshort : shortB f.size t.size s.size = true) (hs : s.size ≤ 2000) (hr : rightB ver hops mark f.size t.size = false) (w : World) (hK : Kub w) :
    Calls Tryd.prog 4 #[.agg #[.int .i64 ver, .int .i64 hops, .int .i64 mark, .string f, .string t], .string s] w fun e w' => e = .returned (.bool true) ∧ Below w.heap.size w w' := by
  have HB := Lib.hid ((Below.refl w.heap.size w).alloc (Nat.le_refl _) (.cells #[.int .i64 ver, .int .i64 hops, .int .i64 mark, .string f, .string t] 23))
  have HS : Hid (HdrAt (w.alloc (.cells #[.int .i64 ver, .int .i64 hops, .int .i64 mark, .string f, .string t] 23)) w.heap.size 23 ver hops mark f t) := Lib.hid (heap_alloc_new _ _)
  have HK := Lib.hid hK
  clear hK
  have HSH := Lib.hid (show ∀ W, Calls Tryd.prog 8 #[.agg #[.int .i64 ver, .int .i64 hops, .int .i64 mark, .string f, .string t], .string s] W fun e w' => e = .returned (.bool true) ∧ Below W.heap.size W w' from fun W => by have h := short_any ver hops mark f t s W; rw [hshort] at h; exact h)
  have HBU := Lib.hid (fun W => build_arg ver hops mark f t s hr W)
  have hri := fun W => right_any ver hops mark f t W
  rw [hr] at hri
  have HRI := Lib.hid hri
  clear hshort hr hri
  go_enter Tryd.func4, Tryd.ntmps4
  go_wp2_with (first
    | (go_at_call 7; ((with_reducible refine (shown_any _ (HK.out.later HB.out)).mono ?_); rintro e w1 ⟨rfl, hb1⟩); replace HS := Lib.hid (HdrAt.later HS.out hb1); have k0 := HdrAt.c0 HS.out; have k1 := HdrAt.c1 HS.out; have k2 := HdrAt.c2 HS.out; have k3 := HdrAt.c3 HS.out; have k4 := HdrAt.c4 HS.out; replace HB := Lib.hid (HB.out.trans (hb1.mono HB.out.size)); clear hb1)
    | (go_at_call 8; ((with_reducible refine (HSH.out _).mono ?_); rintro e w1 ⟨rfl, hb1⟩); replace HS := Lib.hid (HdrAt.later HS.out hb1); have k0 := HdrAt.c0 HS.out; have k1 := HdrAt.c1 HS.out; have k2 := HdrAt.c2 HS.out; have k3 := HdrAt.c3 HS.out; have k4 := HdrAt.c4 HS.out; replace HB := Lib.hid (HB.out.trans (hb1.mono HB.out.size)); clear hb1)
    | (go_at_call 9; ((with_reducible refine (HBU.out _).mono ?_); rintro e w1 ⟨rfl, hb1⟩); replace HS := Lib.hid (HdrAt.later HS.out hb1); have k0 := HdrAt.c0 HS.out; have k1 := HdrAt.c1 HS.out; have k2 := HdrAt.c2 HS.out; have k3 := HdrAt.c3 HS.out; have k4 := HdrAt.c4 HS.out; replace HB := Lib.hid (HB.out.trans (hb1.mono HB.out.size)); clear hb1)
    | (go_at_call 12; ((with_reducible refine (HRI.out _).mono ?_); rintro e w1 ⟨rfl, hb1⟩); replace HS := Lib.hid (HdrAt.later HS.out hb1); have k0 := HdrAt.c0 HS.out; have k1 := HdrAt.c1 HS.out; have k2 := HdrAt.c2 HS.out; have k3 := HdrAt.c3 HS.out; have k4 := HdrAt.c4 HS.out; replace HB := Lib.hid (HB.out.trans (hb1.mono HB.out.size)); clear hb1))
  go_ret
  exact ⟨rfl, HB.out⟩
set_option maxHeartbeats 4000000 in
set_option maxRecDepth 100000 in
theorem walk_big (ver hops mark : Int) (f t s : ByteArray) (hshort : shortB f.size t.size s.size = true) (hs : s.size ≤ 2000) (hr : rightB ver hops mark f.size t.size = true) (hl : (1500 : Int) < (s.size : Int)) (w : World) (hK : Kub w) :
    Calls Tryd.prog 4 #[.agg #[.int .i64 ver, .int .i64 hops, .int .i64 mark, .string f, .string t], .string s] w fun e w' => e = .returned (.bool true) ∧ Below w.heap.size w w' := by
  have HB := Lib.hid ((Below.refl w.heap.size w).alloc (Nat.le_refl _) (.cells #[.int .i64 ver, .int .i64 hops, .int .i64 mark, .string f, .string t] 23))
  have HS : Hid (HdrAt (w.alloc (.cells #[.int .i64 ver, .int .i64 hops, .int .i64 mark, .string f, .string t] 23)) w.heap.size 23 ver hops mark f t) := Lib.hid (heap_alloc_new _ _)
  have HK := Lib.hid hK
  clear hK
  have HSH := Lib.hid (show ∀ W, Calls Tryd.prog 8 #[.agg #[.int .i64 ver, .int .i64 hops, .int .i64 mark, .string f, .string t], .string s] W fun e w' => e = .returned (.bool true) ∧ Below W.heap.size W w' from fun W => by have h := short_any ver hops mark f t s W; rw [hshort] at h; exact h)
  have HBU := Lib.hid (fun W => build_long ver hops mark f t s hr hl W)
  have hri := fun W => right_any ver hops mark f t W
  rw [hr] at hri
  have HRI := Lib.hid hri
  clear hshort hr hri
  go_enter Tryd.func4, Tryd.ntmps4
  go_wp2_with (first
    | (go_at_call 7; ((with_reducible refine (shown_any _ (HK.out.later HB.out)).mono ?_); rintro e w1 ⟨rfl, hb1⟩); replace HS := Lib.hid (HdrAt.later HS.out hb1); have k0 := HdrAt.c0 HS.out; have k1 := HdrAt.c1 HS.out; have k2 := HdrAt.c2 HS.out; have k3 := HdrAt.c3 HS.out; have k4 := HdrAt.c4 HS.out; replace HB := Lib.hid (HB.out.trans (hb1.mono HB.out.size)); clear hb1)
    | (go_at_call 8; ((with_reducible refine (HSH.out _).mono ?_); rintro e w1 ⟨rfl, hb1⟩); replace HS := Lib.hid (HdrAt.later HS.out hb1); have k0 := HdrAt.c0 HS.out; have k1 := HdrAt.c1 HS.out; have k2 := HdrAt.c2 HS.out; have k3 := HdrAt.c3 HS.out; have k4 := HdrAt.c4 HS.out; replace HB := Lib.hid (HB.out.trans (hb1.mono HB.out.size)); clear hb1)
    | (go_at_call 9; ((with_reducible refine (HBU.out _).mono ?_); rintro e w1 ⟨rfl, hb1⟩); replace HS := Lib.hid (HdrAt.later HS.out hb1); have k0 := HdrAt.c0 HS.out; have k1 := HdrAt.c1 HS.out; have k2 := HdrAt.c2 HS.out; have k3 := HdrAt.c3 HS.out; have k4 := HdrAt.c4 HS.out; replace HB := Lib.hid (HB.out.trans (hb1.mono HB.out.size)); clear hb1)
    | (go_at_call 12; ((with_reducible refine (HRI.out _).mono ?_); rintro e w1 ⟨rfl, hb1⟩); replace HS := Lib.hid (HdrAt.later HS.out hb1); have k0 := HdrAt.c0 HS.out; have k1 := HdrAt.c1 HS.out; have k2 := HdrAt.c2 HS.out; have k3 := HdrAt.c3 HS.out; have k4 := HdrAt.c4 HS.out; replace HB := Lib.hid (HB.out.trans (hb1.mono HB.out.size)); clear hb1))
  go_ret
  exact ⟨rfl, HB.out⟩
set_option maxHeartbeats 4000000 in
set_option maxRecDepth 100000 in
theorem walk_v4 (hops mark : Nat) (hh : hops < 256) (hm : mark < 65536) (f t s : ByteArray) (hshort : shortB f.size t.size s.size = true) (hs : s.size ≤ 2000) (hf : f.size = 4) (ht : t.size = 4) (hl : s.size ≤ 1500) (w : World) (hK : Kub w) :
    Calls Tryd.prog 4 #[.agg #[.int .i64 4, .int .i64 hops, .int .i64 mark, .string f, .string t], .string s] w fun e w' => e = .returned (.bool true) ∧ Below w.heap.size w w' := by
  have HB := Lib.hid ((Below.refl w.heap.size w).alloc (Nat.le_refl _) (.cells #[.int .i64 4, .int .i64 hops, .int .i64 mark, .string f, .string t] 23))
  have HS : Hid (HdrAt (w.alloc (.cells #[.int .i64 4, .int .i64 hops, .int .i64 mark, .string f, .string t] 23)) w.heap.size 23 4 hops mark f t) := Lib.hid (heap_alloc_new _ _)
  have HK := Lib.hid hK
  clear hK
  have HSH := Lib.hid (show ∀ W, Calls Tryd.prog 8 #[.agg #[.int .i64 4, .int .i64 hops, .int .i64 mark, .string f, .string t], .string s] W fun e w' => e = .returned (.bool true) ∧ Below W.heap.size W w' from fun W => by have h := short_any 4 hops mark f t s W; rw [hshort] at h; exact h)
  have HBU := Lib.hid (fun W => build_v4 hops mark hh hm f t s hf ht hl W)
  have HPA := Lib.hid (fun W => parse_back4 hops mark hh hm f t s hf ht hl W)
  have h20 : (20 : Int) ≤ ((head4 hops mark f t s.size ++ s).size : Int) := by rw [head4_size hops mark s.size f t s hf ht]; omega
  have hcs := fun W => check16_any ((head4 hops mark f t s.size ++ s).extract 0 20) (by rw [ByteArray.size_extract]; omega) W
  have hcx := (cut4 (mark := mark) (s := s) hh hf ht rfl).2.2.2.2.2
  rw [show sumB ((head4 hops mark f t s.size ++ s).extract 0 20) = 0 by rw [hcx]; exact head4_sum hops mark s.size f t hh] at hcs
  have HC : Hid (∀ W, Calls Tryd.prog 14 #[.string ((head4 hops mark f t s.size ++ s).extract 0 20)] W fun e w' => e = .returned (.int .u16 0) ∧ Below W.heap.size W w') := Lib.hid hcs
  clear hcs hcx hf ht
  clear hshort
  generalize head4 hops mark f t s.size ++ s = d at *
  go_enter Tryd.func4, Tryd.ntmps4
  go_wp2_with (first
    | (go_at_call 7; ((with_reducible refine (shown_any _ (HK.out.later HB.out)).mono ?_); rintro e w1 ⟨rfl, hb1⟩); replace HS := Lib.hid (HdrAt.later HS.out hb1); have k0 := HdrAt.c0 HS.out; have k1 := HdrAt.c1 HS.out; have k2 := HdrAt.c2 HS.out; have k3 := HdrAt.c3 HS.out; have k4 := HdrAt.c4 HS.out; replace HB := Lib.hid (HB.out.trans (hb1.mono HB.out.size)); clear hb1)
    | (go_at_call 8; ((with_reducible refine (HSH.out _).mono ?_); rintro e w1 ⟨rfl, hb1⟩); replace HS := Lib.hid (HdrAt.later HS.out hb1); have k0 := HdrAt.c0 HS.out; have k1 := HdrAt.c1 HS.out; have k2 := HdrAt.c2 HS.out; have k3 := HdrAt.c3 HS.out; have k4 := HdrAt.c4 HS.out; replace HB := Lib.hid (HB.out.trans (hb1.mono HB.out.size)); clear hb1)
    | (go_at_call 9; ((with_reducible refine (HBU.out _).mono ?_); rintro e w1 ⟨rfl, hb1⟩); replace HS := Lib.hid (HdrAt.later HS.out hb1); have k0 := HdrAt.c0 HS.out; have k1 := HdrAt.c1 HS.out; have k2 := HdrAt.c2 HS.out; have k3 := HdrAt.c3 HS.out; have k4 := HdrAt.c4 HS.out; replace HB := Lib.hid (HB.out.trans (hb1.mono HB.out.size)); clear hb1)
    | (go_at_call 16; ((with_reducible refine (HPA.out _).mono ?_); rintro e w1 ⟨rfl, hb1⟩); replace HS := Lib.hid (HdrAt.later HS.out hb1); have k0 := HdrAt.c0 HS.out; have k1 := HdrAt.c1 HS.out; have k2 := HdrAt.c2 HS.out; have k3 := HdrAt.c3 HS.out; have k4 := HdrAt.c4 HS.out; replace HB := Lib.hid (HB.out.trans (hb1.mono HB.out.size)); clear hb1; replace HS := Lib.hid (HdrAt.later HS.out ((Below.refl w1.heap.size w1).alloc (Nat.le_refl _) (.cells #[.int .i64 4, .int .i64 hops, .int .i64 mark, .string f, .string t] 23))); have k0 := HdrAt.c0 HS.out; have k1 := HdrAt.c1 HS.out; have k2 := HdrAt.c2 HS.out; have k3 := HdrAt.c3 HS.out; have k4 := HdrAt.c4 HS.out; replace HB := Lib.hid (HB.out.alloc HB.out.size (.cells #[.int .i64 4, .int .i64 hops, .int .i64 mark, .string f, .string t] 23)))
    | (go_at_call 14; ((with_reducible refine (HC.out _).mono ?_); rintro e w1 ⟨rfl, hb1⟩); replace HS := Lib.hid (HdrAt.later HS.out hb1); have k0 := HdrAt.c0 HS.out; have k1 := HdrAt.c1 HS.out; have k2 := HdrAt.c2 HS.out; have k3 := HdrAt.c3 HS.out; have k4 := HdrAt.c4 HS.out; replace HB := Lib.hid (HB.out.trans (hb1.mono HB.out.size)); clear hb1))
  go_ret
  exact ⟨rfl, HB.out⟩
set_option maxHeartbeats 4000000 in
set_option maxRecDepth 100000 in
theorem walk_v6 (hops : Nat) (hh : hops < 256) (f t s : ByteArray) (hshort : shortB f.size t.size s.size = true) (hs : s.size ≤ 2000) (hf : f.size = 16) (ht : t.size = 16) (hl : s.size ≤ 1500) (w : World) (hK : Kub w) :
    Calls Tryd.prog 4 #[.agg #[.int .i64 6, .int .i64 hops, .int .i64 0, .string f, .string t], .string s] w fun e w' => e = .returned (.bool true) ∧ Below w.heap.size w w' := by
  have HB := Lib.hid ((Below.refl w.heap.size w).alloc (Nat.le_refl _) (.cells #[.int .i64 6, .int .i64 hops, .int .i64 0, .string f, .string t] 23))
  have HS : Hid (HdrAt (w.alloc (.cells #[.int .i64 6, .int .i64 hops, .int .i64 0, .string f, .string t] 23)) w.heap.size 23 6 hops 0 f t) := Lib.hid (heap_alloc_new _ _)
  have HK := Lib.hid hK
  clear hK
  have HSH := Lib.hid (show ∀ W, Calls Tryd.prog 8 #[.agg #[.int .i64 6, .int .i64 hops, .int .i64 0, .string f, .string t], .string s] W fun e w' => e = .returned (.bool true) ∧ Below W.heap.size W w' from fun W => by have h := short_any 6 hops 0 f t s W; rw [hshort] at h; exact h)
  have HBU := Lib.hid (fun W => build_v6 hops hh f t s hf ht hl W)
  have HPA := Lib.hid (fun W => parse_back6 hops hh f t s hf ht hl W)
  clear hshort
  generalize head6 hops f t s.size ++ s = d at *
  go_enter Tryd.func4, Tryd.ntmps4
  go_wp2_with (first
    | (go_at_call 7; ((with_reducible refine (shown_any _ (HK.out.later HB.out)).mono ?_); rintro e w1 ⟨rfl, hb1⟩); replace HS := Lib.hid (HdrAt.later HS.out hb1); have k0 := HdrAt.c0 HS.out; have k1 := HdrAt.c1 HS.out; have k2 := HdrAt.c2 HS.out; have k3 := HdrAt.c3 HS.out; have k4 := HdrAt.c4 HS.out; replace HB := Lib.hid (HB.out.trans (hb1.mono HB.out.size)); clear hb1)
    | (go_at_call 8; ((with_reducible refine (HSH.out _).mono ?_); rintro e w1 ⟨rfl, hb1⟩); replace HS := Lib.hid (HdrAt.later HS.out hb1); have k0 := HdrAt.c0 HS.out; have k1 := HdrAt.c1 HS.out; have k2 := HdrAt.c2 HS.out; have k3 := HdrAt.c3 HS.out; have k4 := HdrAt.c4 HS.out; replace HB := Lib.hid (HB.out.trans (hb1.mono HB.out.size)); clear hb1)
    | (go_at_call 9; ((with_reducible refine (HBU.out _).mono ?_); rintro e w1 ⟨rfl, hb1⟩); replace HS := Lib.hid (HdrAt.later HS.out hb1); have k0 := HdrAt.c0 HS.out; have k1 := HdrAt.c1 HS.out; have k2 := HdrAt.c2 HS.out; have k3 := HdrAt.c3 HS.out; have k4 := HdrAt.c4 HS.out; replace HB := Lib.hid (HB.out.trans (hb1.mono HB.out.size)); clear hb1)
    | (go_at_call 16; ((with_reducible refine (HPA.out _).mono ?_); rintro e w1 ⟨rfl, hb1⟩); replace HS := Lib.hid (HdrAt.later HS.out hb1); have k0 := HdrAt.c0 HS.out; have k1 := HdrAt.c1 HS.out; have k2 := HdrAt.c2 HS.out; have k3 := HdrAt.c3 HS.out; have k4 := HdrAt.c4 HS.out; replace HB := Lib.hid (HB.out.trans (hb1.mono HB.out.size)); clear hb1; replace HS := Lib.hid (HdrAt.later HS.out ((Below.refl w1.heap.size w1).alloc (Nat.le_refl _) (.cells #[.int .i64 6, .int .i64 hops, .int .i64 0, .string f, .string t] 23))); have k0 := HdrAt.c0 HS.out; have k1 := HdrAt.c1 HS.out; have k2 := HdrAt.c2 HS.out; have k3 := HdrAt.c3 HS.out; have k4 := HdrAt.c4 HS.out; replace HB := Lib.hid (HB.out.alloc HB.out.size (.cells #[.int .i64 6, .int .i64 hops, .int .i64 0, .string f, .string t] 23))))
  go_ret
  exact ⟨rfl, HB.out⟩
theorem walk (ver hops mark : Int) (f t s : ByteArray) (w : World) (hK : Kub w) :
    Calls Tryd.prog 4 #[.agg #[.int .i64 ver, .int .i64 hops, .int .i64 mark, .string f, .string t], .string s] w fun e w' => e = .returned (.bool true) ∧ Below w.heap.size w w' := by
  cases hsh : shortB f.size t.size s.size with
  | false => exact walk_long ver hops mark f t s hsh w hK
  | true =>
    have hs : s.size ≤ 2000 := by
      unfold shortB at hsh
      have := of_decide_eq_true hsh
      omega
    rcases kinds ver hops mark f t s.size with hr | ⟨hr, hl⟩ | ⟨hr, rfl, ⟨h, m, rfl, rfl, hh, hm⟩, hf, ht, hl⟩ | ⟨hr, rfl, rfl, ⟨h, rfl, hh⟩, hf, ht, hl⟩
    · exact walk_arg ver hops mark f t s hsh hs hr w hK
    · exact walk_big ver hops mark f t s hsh hs hr (by omega) w hK
    · exact walk_v4 h m hh hm f t s hsh hs hf ht hl w hK
    · exact walk_v6 h hh f t s hsh hs hf ht hl w hK

set_option maxRecDepth 100000 in
theorem lifted (os : Os) (started : os.Started) (H : Type) (enc : TypeId × Value → H) :
    ReturnsInHanded {} Tryd.checked os 4 .any (fun w args => (Rows.ipBackSpec.pre enc Tryd.prog Tryd.f4 [] false w args ∧ laidMetH Tryd.prog laidK w) ∧ sizedMet enc Tryd.prog Tryd.f4 (OpenSpec.ofChange Rows.ipBackSpec) false w args) (Rows.ipBackSpec.post enc Tryd.prog Tryd.f4 false true false false) := by
  refine returnsInHanded_of_change_and (C := Tryd.checked) (X := fun w _ => laidMetH Tryd.prog laidK w) (fun _ _ _ hh h => h.of_heap hh) own started (by kernel_rfl) Tryd.func4
    (ChangeSpec.witness_shaped (enc := enc) (C := Tryd.checked) (os := os) (X := fun w _ => laidMetH Tryd.prog laidK w) false (World.doorLaid Tryd.prog 65 os) #[.agg #[.int .i64 0, .int .i64 0, .int .i64 0, .string ⟨#[]⟩, .string ⟨#[]⟩], .string ⟨#[]⟩] 8 rfl (World.shaped_of_RefB (by kernel_rfl) (by kernel_rfl)) (by kernel_rfl) (by kernel_rfl) (by kernel_rfl) (door_met os _)) ?_
  intro W base args ds gs before hval0 hW _ hreach hL _
  have hval : ∀ (j : Nat) t v, Tryd.f4.params[j]? = some t → args[j]? = some v → Value.okWide Tryd.prog W .any base t v := hval0
  obtain ⟨p, q, hA0, _, _, _, _⟩ := id hW
  have hA : DataW.TrodAll enc Tryd.prog W 0 (fun _ => true) true Tryd.f4.params.toList args.toList ds p := hA0
  rw [Tryd.params4] at hA hval
  obtain ⟨v0, vs0, d0, ds0, p0, q0, hargs, rfl, rfl, h0, r0⟩ := trodAll_cons hA
  obtain ⟨v1, vs1, d1, ds1, p1, q1, rfl, rfl, rfl, h1, r1⟩ := trodAll_cons r0
  obtain ⟨rfl, rfl, rfl⟩ := trodAll_nil r1
  obtain rfl : args = #[v0, v1] := by cases args; simp_all
  obtain ⟨ver0, hops0, mark0, f0, t0, rfl, wv0, wh0, wm0, wf0, wt0⟩ := open_header (hval 0 23 v0 rfl rfl) h0
  obtain ⟨a1, rfl, rfl, rfl, w1⟩ := Go.ChangeMaps.open_string Tryd.underlying9 (hval 1 9 v1 rfl rfl) h1
  refine (walk ver0 hops0 mark0 f0 t0 a1 W (kub_of_laid hL)).mono fun e W' ⟨he, hg⟩ => ?_
  subst he
  exact ⟨_, rfl, law_post laidOut Tryd.underlying4 (by kernel_rfl) (by kernel_rfl) rfl hW (by simp [Rows.ipBackSpec]) hg⟩

theorem row_proved : Rows.IpBackSaid :=
  OpenClaim.holds_of_wide 4 Tryd.f4 rfl rfl rfl rfl rfl rfl rfl ⟨rfl, rfl, rfl, rfl, rfl⟩ rfl rfl rfl rfl rfl (by kernel_rfl) Tryd.func4 (by kernel_rfl)
    (of_decide_eq_true (by kernel_rfl)) (by unfold Func.isWrapper; first | (rw [if_pos (by decide +kernel)]; kernel_rfl) | (rw [if_neg (by decide +kernel)]; exact ⟨rfl, rfl⟩))
    (fun os started H enc _ => lifted os started H enc)

theorem proved : Rows.IpBackCardSaid :=
  Claim7.holds_tied_plain_at .later [] [.data, .data, .data] true _ _
    row_proved (fun _ h => by cases h) (by kernel_rfl) (fun _ h => by cases h) ipBack_row_tie rfl ⟨rfl, rfl⟩ (by kernel_rfl) rfl
    (fun f fn hf hfn => by
      obtain rfl : f = 4 := Option.some.inj ((show Tryd.prog.funcNamed "towline/towlinelaw5.IpBack" = some 4 by kernel_rfl).symm.trans hf) |>.symm
      obtain rfl : fn = Tryd.f4 := (Option.some.inj (Tryd.func4.symm.trans hfn)).symm
      exact ⟨by kernel_rfl, fun j t ht => by
        rw [Tryd.params4] at ht
        have hm : t ∈ [9, 23] := by have := Array.mem_of_getElem? ht; simp at this; simp; first | omega | (rcases this with h | h <;> simp [h]) | (rcases this with h | h | h <;> simp [h]) | (rcases this with h | h | h | h <;> simp [h])
        have hall : ([9, 23].all fun u => !Tryd.prog.wantsStandIn u) = true := by kernel_rfl
        exact (show Tryd.prog.wantsStandIn t = false by simpa using List.all_eq_true.1 hall t hm)⟩)
    (by kernel_rfl)
#print axioms proved
end Go.Proofs.YtgodhbliamlclaaDoor.ipBack
