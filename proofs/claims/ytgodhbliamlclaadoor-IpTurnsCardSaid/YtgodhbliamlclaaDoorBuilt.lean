/-
  Package ip: datagrams built; the document's answer: contracts.
-/
import Derived.Test.YtgodhbliamlclaaDoorBuild
namespace Go.Proofs.YtgodhbliamlclaaDoor
open Go.RowKit
set_option linter.unusedVariables false

set_option maxHeartbeats 2000000 in
theorem build_arg (ver hops mark : Int) (f t s : ByteArray) (hright : rightB ver hops mark f.size t.size = false) (w : World) :
    Calls Tryd.prog 9 #[.agg #[.int .i64 ver, .int .i64 hops, .int .i64 mark, .string f, .string t], .string s] w fun e w' => e = .returned (.tuple #[.string ⟨#[]⟩, .int .i64 1]) ∧ Below w.heap.size w w' := by
  have HB := Lib.hid ((Below.refl w.heap.size w).alloc (Nat.le_refl _) (.cells #[.int .i64 ver, .int .i64 hops, .int .i64 mark, .string f, .string t] 23))
  have HH : Hid (HdrAt (w.alloc (.cells #[.int .i64 ver, .int .i64 hops, .int .i64 mark, .string f, .string t] 23)) w.heap.size 23 ver hops mark f t) := Lib.hid (heap_alloc_new _ _)
  have hr := fun W => right_any ver hops mark f t W
  rw [hright] at hr
  have HRT := Lib.hid hr
  clear hr hright
  go_enter Tryd.func9, Tryd.ntmps9
  go_wp2_with (first
    | (go_at_call 12; go_loud (((with_reducible refine (HRT.out _).mono ?_); rintro e w1 ⟨rfl, hb1⟩); have HS := Lib.hid (HdrAt.later HH.out hb1); have k0 := HdrAt.c0 HS.out; have k1 := HdrAt.c1 HS.out; have k2 := HdrAt.c2 HS.out; have k3 := HdrAt.c3 HS.out; have k4 := HdrAt.c4 HS.out; replace HB := Lib.hid (HB.out.trans (hb1.mono HB.out.size)); clear hb1)))
  go_ret2
  exact ⟨rfl, HB.out⟩
set_option maxHeartbeats 2000000 in
theorem build_long (ver hops mark : Int) (f t s : ByteArray) (hright : rightB ver hops mark f.size t.size = true) (hl : (1500 : Int) < (s.size : Int)) (w : World) :
    Calls Tryd.prog 9 #[.agg #[.int .i64 ver, .int .i64 hops, .int .i64 mark, .string f, .string t], .string s] w fun e w' => e = .returned (.tuple #[.string ⟨#[]⟩, .int .i64 4]) ∧ Below w.heap.size w w' := by
  have HB := Lib.hid ((Below.refl w.heap.size w).alloc (Nat.le_refl _) (.cells #[.int .i64 ver, .int .i64 hops, .int .i64 mark, .string f, .string t] 23))
  have HH : Hid (HdrAt (w.alloc (.cells #[.int .i64 ver, .int .i64 hops, .int .i64 mark, .string f, .string t] 23)) w.heap.size 23 ver hops mark f t) := Lib.hid (heap_alloc_new _ _)
  have hr := fun W => right_any ver hops mark f t W
  rw [hright] at hr
  have HRT := Lib.hid hr
  clear hr hright
  go_enter Tryd.func9, Tryd.ntmps9
  go_wp2_with (first
    | (go_at_call 12; go_loud (((with_reducible refine (HRT.out _).mono ?_); rintro e w1 ⟨rfl, hb1⟩); have HS := Lib.hid (HdrAt.later HH.out hb1); have k0 := HdrAt.c0 HS.out; have k1 := HdrAt.c1 HS.out; have k2 := HdrAt.c2 HS.out; have k3 := HdrAt.c3 HS.out; have k4 := HdrAt.c4 HS.out; replace HB := Lib.hid (HB.out.trans (hb1.mono HB.out.size)); clear hb1)))
  go_ret2
  exact ⟨rfl, HB.out⟩
set_option maxHeartbeats 2000000 in
theorem build_v4 (hops mark : Nat) (hh : hops < 256) (hm : mark < 65536) (f t s : ByteArray) (hf : f.size = 4) (ht : t.size = 4) (hl : s.size ≤ 1500) (w : World) :
    Calls Tryd.prog 9 #[.agg #[.int .i64 4, .int .i64 hops, .int .i64 mark, .string f, .string t], .string s] w fun e w' => e = .returned (.tuple #[.string (head4 hops mark f t s.size ++ s), .int .i64 0]) ∧ Below w.heap.size w w' := by
  have HB := Lib.hid ((Below.refl w.heap.size w).alloc (Nat.le_refl _) (.cells #[.int .i64 4, .int .i64 hops, .int .i64 mark, .string f, .string t] 23))
  have HH : Hid (HdrAt (w.alloc (.cells #[.int .i64 4, .int .i64 hops, .int .i64 mark, .string f, .string t] 23)) w.heap.size 23 4 hops mark f t) := Lib.hid (heap_alloc_new _ _)
  have hright : rightB 4 hops mark f.size t.size = true := by unfold rightB wB; simp; omega
  have hr := fun W => right_any 4 hops mark f t W
  rw [hright] at hr
  have HRT := Lib.hid hr
  clear hr hright
  have H4 := Lib.hid (fun W => build4_any 4 hops mark hh hm f t hf ht s.size hl W)
  have q : ¬ 9223372036854775807 < (head4 hops mark f t s.size).size + s.size := by
    have e : (head4 hops mark f t s.size).size = 20 := by unfold head4 ahead4; simp only [ByteArray.size_append, twoB_size]; omega
    omega
  generalize head4 hops mark f t s.size = x at *
  have hl' : (s.size : Int) ≤ 1500 := by omega
  clear hf ht
  go_enter Tryd.func9, Tryd.ntmps9
  go_wp2_with (first
    | (go_at_call 12; go_loud (((with_reducible refine (HRT.out _).mono ?_); rintro e w1 ⟨rfl, hb1⟩); have HS := Lib.hid (HdrAt.later HH.out hb1); have k0 := HdrAt.c0 HS.out; have k1 := HdrAt.c1 HS.out; have k2 := HdrAt.c2 HS.out; have k3 := HdrAt.c3 HS.out; have k4 := HdrAt.c4 HS.out; replace HB := Lib.hid (HB.out.trans (hb1.mono HB.out.size)); clear hb1))
    | (go_at_call 18; ((with_reducible refine (H4.out _).mono ?_); rintro e w2 ⟨rfl, hb2⟩); replace HB := Lib.hid (HB.out.trans (hb2.mono HB.out.size)); clear hb2))
  go_ret2
  exact ⟨rfl, HB.out⟩
set_option maxHeartbeats 2000000 in
theorem build_v6 (hops : Nat) (hh : hops < 256) (f t s : ByteArray) (hf : f.size = 16) (ht : t.size = 16) (hl : s.size ≤ 1500) (w : World) :
    Calls Tryd.prog 9 #[.agg #[.int .i64 6, .int .i64 hops, .int .i64 0, .string f, .string t], .string s] w fun e w' => e = .returned (.tuple #[.string (head6 hops f t s.size ++ s), .int .i64 0]) ∧ Below w.heap.size w w' := by
  have HB := Lib.hid ((Below.refl w.heap.size w).alloc (Nat.le_refl _) (.cells #[.int .i64 6, .int .i64 hops, .int .i64 0, .string f, .string t] 23))
  have HH : Hid (HdrAt (w.alloc (.cells #[.int .i64 6, .int .i64 hops, .int .i64 0, .string f, .string t] 23)) w.heap.size 23 6 hops 0 f t) := Lib.hid (heap_alloc_new _ _)
  have hright : rightB 6 hops 0 f.size t.size = true := by unfold rightB wB; simp; omega
  have hr := fun W => right_any 6 hops 0 f t W
  rw [hright] at hr
  have HRT := Lib.hid hr
  clear hr hright
  have H6 := Lib.hid (fun W => build6_any 6 hops hh 0 f t hf ht s.size hl W)
  have q : ¬ 9223372036854775807 < (head6 hops f t s.size).size + s.size := by
    have e : (head6 hops f t s.size).size = 40 := by unfold head6; simp only [ByteArray.size_append, twoB_size]; omega
    omega
  generalize head6 hops f t s.size = x at *
  have hl' : (s.size : Int) ≤ 1500 := by omega
  clear hf ht
  go_enter Tryd.func9, Tryd.ntmps9
  go_wp2_with (first
    | (go_at_call 12; go_loud (((with_reducible refine (HRT.out _).mono ?_); rintro e w1 ⟨rfl, hb1⟩); have HS := Lib.hid (HdrAt.later HH.out hb1); have k0 := HdrAt.c0 HS.out; have k1 := HdrAt.c1 HS.out; have k2 := HdrAt.c2 HS.out; have k3 := HdrAt.c3 HS.out; have k4 := HdrAt.c4 HS.out; replace HB := Lib.hid (HB.out.trans (hb1.mono HB.out.size)); clear hb1))
    | (go_at_call 19; ((with_reducible refine (H6.out _).mono ?_); rintro e w2 ⟨rfl, hb2⟩); replace HB := Lib.hid (HB.out.trans (hb2.mono HB.out.size)); clear hb2))
  go_ret2
  exact ⟨rfl, HB.out⟩
end Go.Proofs.YtgodhbliamlclaaDoor
