/-
  Package ip: datagrams taken apart: contracts.
-/
import Derived.Test.YtgodhbliamlclaaDoorHeader
namespace Go.Proofs.YtgodhbliamlclaaDoor
open Go.RowKit
set_option linter.unusedVariables false

/-- The header is known, the result is not laid yet. -/
def PQ (w : World) (g Bs Ba : Nat) (s : ByteArray) (k : Nat) (X : World) : Prop := Tk X Bs Ba s k ∧ HdrAt X g 23 0 0 0 ⟨#[]⟩ ⟨#[]⟩ ∧ Below w.heap.size w X ∧ (g < Bs ∧ g < Ba) ∧ w.heap.size = g
section
variable {w X Y : World} {g Bs Ba k : Nat} {s : ByteArray}
theorem PQ.to {k' : Nat} (h : PQ w g Bs Ba s k X) (ht : Tk Y Bs Ba s k') (hg : X.grownBy Y (some Ba)) : PQ w g Bs Ba s k' Y :=
  ⟨ht, (hg.block g h.2.1.lt (by have := h.2.2.2.1.2; intro e; injection e; omega)).trans h.2.1, h.2.2.1.trans (below_of_grown hg h.2.2.1.size (by have := h.2.2.2; omega)), h.2.2.2⟩
theorem PQ.later (h : PQ w g Bs Ba s k X) (hb : Below X.heap.size X Y) : PQ w g Bs Ba s k Y := h.to (h.1.later hb) (grownBy_of_below hb)
theorem PQ.laid (h : PQ w g Bs Ba s k X) (cs : Array Value) : (X.setRow g cs).heap[g]? = some (.cells cs 23 (0, 0)) ∧ Below w.heap.size w (X.setRow g cs) := by
  refine ⟨setRow_heap X g _ cs _ _ h.2.1, ⟨h.2.2.1.os, h.2.2.1.tape, h.2.2.1.output, ?_, fun j hj => (setRow_other X g j cs (by have := h.2.2.2.2; omega)).trans (h.2.2.1.block j hj)⟩⟩
  have := h.2.2.1.size
  simpa using this
end
theorem parsed_keeps {X : World} {g g3 : Nat} {ty : TypeId} {ver hops mark : Int} {f t : ByteArray} (cs : Array Value) (h : HdrAt X g3 ty ver hops mark f t) (hne : g3 ≠ g) : HdrAt (X.setRow g cs) g3 ty ver hops mark f t := (setRow_other X g g3 cs hne).trans h
theorem neZero (n : Int) (h : n ≠ 0) : (n != 0) = true := by simpa using h

set_option maxHeartbeats 4000000 in
theorem parse_err (s : ByteArray) (ver hops mark n er : Int) (f t : ByteArray) (her : er ≠ 0)
    (hp : ∀ Bs Ba X, Tk X Bs Ba s 0 → Calls Tryd.prog 25 #[.string s, nextV Bs Ba] X fun e X' => e = .returned (.tuple #[.agg #[.int .i64 ver, .int .i64 hops, .int .i64 mark, .string f, .string t], .int .i64 n, .int .i64 er]) ∧ (∃ k, Tk X' Bs Ba s k) ∧ X.grownBy X' (some Ba)) (w : World) :
    Calls Tryd.prog 16 #[.string s] w fun e w' => e = .returned (.tuple #[.agg noH, .string ⟨#[]⟩, .int .i64 er]) ∧ Below w.heap.size w w' := by
  have HPH := Lib.hid hp
  have hne := neZero er her
  clear hp her
  have HT1 : Hid (∀ X, Below w.heap.size w X ∧ X.heap[w.heap.size]? = some (.cells noH 23 (0, 0)) → Calls Tryd.prog 23 #[.string s] X fun e X' => ∃ Bs Ba, e = .returned (nextV Bs Ba) ∧ PQ w w.heap.size Bs Ba s 0 X') :=
    Lib.hid (fun X h => (taker_made s X).mono fun e X' ⟨he, ht, hb⟩ => ⟨_, _, he, ht, (hb.block _ (Array.getElem?_eq_some_iff.1 h.2).1).trans h.2, h.1.trans (hb.mono h.1.size), by have := (Array.getElem?_eq_some_iff.1 h.2).1; omega, rfl⟩)
  have HW0 : Hid (Below w.heap.size w (w.alloc (.cells noH 23)) ∧ (w.alloc (.cells noH 23)).heap[w.heap.size]? = some (.cells noH 23 (0, 0))) := Lib.hid ⟨(Below.refl _ _).alloc (Nat.le_refl _) _, heap_alloc_new w _⟩
  go_enter Tryd.func16, Tryd.ntmps16
  go_wp2_with fail
  refine (HT1.out _ HW0.out).mono ?_
  rintro e w1 ⟨Bs, Ba, rfl, hp1⟩
  have HP1 := Lib.hid hp1
  clear hp1 HT1 HW0
  have HI : Hid ((Tryd.prog.info? 23).map (·.size) = some noH.size) := Lib.hid hsize5
  have HE : Hid (noH.all (·.oneCell') = true) := Lib.hid (by kernel_rfl)
  generalize hv : nextV Bs Ba = v at *
  have HV := Lib.hid hv
  clear hv
  go_wp2_with fail
  rw [← HV.out]
  refine (HPH.out Bs Ba w1 HP1.out.1).mono ?_
  rintro e w2 ⟨rfl, ⟨k, ht2⟩, hg2⟩
  have HP2 := Lib.hid (HP1.out.to ht2 hg2)
  have HP3 := Lib.hid (HP2.out.later ((Below.refl w2.heap.size w2).alloc (Nat.le_refl _) (.cells #[.int .i64 ver, .int .i64 hops, .int .i64 mark, .string f, .string t] 23)))
  clear ht2 hg2 HPH HP1
  go_wp2_with (refine wpList_store_row rfl 23 (.tmp 2) (.tmp 20) rfl w.heap.size noH rfl rfl 23 noH HP3.out.2.1 HI.out rfl HE.out ?_)
  have hl := HP3.out.laid noH
  exact bodyPost_ret (results_row2 (P := Tryd.prog) rfl _ _ w.heap.size 23 noH (0, 0) _ rfl hl.1 Tryd.underlying23 rfl hsize5) rfl ⟨rfl, hl.2⟩
set_option maxHeartbeats 4000000 in
theorem parse_good (s : ByteArray) (hs : s.size ≤ 1000000) (ver hops mark : Int) (k n : Nat) (hkn : k + n = s.size) (f t : ByteArray)
    (hp : ∀ Bs Ba X, Tk X Bs Ba s 0 → Calls Tryd.prog 25 #[.string s, nextV Bs Ba] X fun e X' => e = .returned (.tuple #[.agg #[.int .i64 ver, .int .i64 hops, .int .i64 mark, .string f, .string t], .int .i64 (n : Int), .int .i64 0]) ∧ Tk X' Bs Ba s k ∧ X.grownBy X' (some Ba)) (w : World) :
    Calls Tryd.prog 16 #[.string s] w fun e w' => e = .returned (.tuple #[.agg #[.int .i64 ver, .int .i64 hops, .int .i64 mark, .string f, .string t], .string (cutB s k n), .int .i64 0]) ∧ Below w.heap.size w w' := by
  have HPH := Lib.hid hp
  clear hp
  have HT1 : Hid (∀ X, Below w.heap.size w X ∧ X.heap[w.heap.size]? = some (.cells noH 23 (0, 0)) → Calls Tryd.prog 23 #[.string s] X fun e X' => ∃ Bs Ba, e = .returned (nextV Bs Ba) ∧ PQ w w.heap.size Bs Ba s 0 X') :=
    Lib.hid (fun X h => (taker_made s X).mono fun e X' ⟨he, ht, hb⟩ => ⟨_, _, he, ht, (hb.block _ (Array.getElem?_eq_some_iff.1 h.2).1).trans h.2, h.1.trans (hb.mono h.1.size), by have := (Array.getElem?_eq_some_iff.1 h.2).1; omega, rfl⟩)
  have HW0 : Hid (Below w.heap.size w (w.alloc (.cells noH 23)) ∧ (w.alloc (.cells noH 23)).heap[w.heap.size]? = some (.cells noH 23 (0, 0))) := Lib.hid ⟨(Below.refl _ _).alloc (Nat.le_refl _) _, heap_alloc_new w _⟩
  go_enter Tryd.func16, Tryd.ntmps16
  go_wp2_with fail
  refine (HT1.out _ HW0.out).mono ?_
  rintro e w1 ⟨Bs, Ba, rfl, hp1⟩
  have HP1 := Lib.hid hp1
  clear hp1 HT1 HW0
  generalize hv : nextV Bs Ba = v at *
  have HV := Lib.hid hv
  clear hv
  go_wp2_with fail
  rw [← HV.out]
  refine (HPH.out Bs Ba w1 HP1.out.1).mono ?_
  rintro e w2 ⟨rfl, ht2, hg2⟩
  have HP2 := Lib.hid (HP1.out.to ht2 hg2)
  have HP3 := Lib.hid (HP2.out.later ((Below.refl w2.heap.size w2).alloc (Nat.le_refl _) (.cells #[.int .i64 ver, .int .i64 hops, .int .i64 mark, .string f, .string t] 23)))
  have HG3 := Lib.hid (show w.heap.size < w2.heap.size ∧ Ba < w2.heap.size from ⟨HP2.out.2.1.lt, HP2.out.1.2.1.lt⟩)
  have HN3 : Hid (HdrAt (w2.alloc (.cells #[.int .i64 ver, .int .i64 hops, .int .i64 mark, .string f, .string t] 23)) w2.heap.size 23 ver hops mark f t) := Lib.hid (heap_alloc_new w2 _)
  rw [HV.out]
  clear ht2 hg2 HPH HP1
  go_wp2_with fail
  generalize w2.alloc (.cells #[.int .i64 ver, .int .i64 hops, .int .i64 mark, .string f, .string t] 23) = w3 at *
  generalize w2.heap.size = g3 at *
  have HK0 := Lib.hid (lie_of (show HdrAt w3.drew g3 23 ver hops mark f t from HN3.out))
  have HN4 : Hid (HdrAt w3.drew g3 23 ver hops mark f t) := Lib.hid HN3.out
  have HP4 := Lib.hid (PQ.later HP3.out (Below.refl _ _).drew)
  have HTX : Hid (Calls Tryd.prog 26 #[nextV Bs Ba, .int .i64 (n : Int)] w3.drew fun e X => e = .returned (.string (cutB s k n)) ∧ PQ w w.heap.size Bs Ba s (k + n) X ∧ HdrAt X g3 23 ver hops mark f t) :=
    Lib.hid ((text_any Bs Ba s hs k n (by omega) w3.drew HP4.out.1).mono fun e X ⟨he, ht, hg⟩ => ⟨he, HP4.out.to ht hg, (hg.block g3 HN4.out.lt (by have := HG3.out.2; intro e; injection e; omega)).trans HN4.out⟩)
  rw [HV.out] at HTX
  generalize hpay : cutB s k n = pay at *
  have HPAY := Lib.hid hpay
  clear hpay
  clear HN3 HN4 HP2 HP3 HP4
  go_region_held3 (fun w' => Lie w' g3 ver hops mark f t)
    (first | exact HK0.out | exact hk1.out | exact hk2.out)
    (first | (go_at_call 26; (with_reducible refine HTX.out.mono ?_); rintro e w4 ⟨rfl, hq, hh⟩; have hk1 := Lib.hid (lie_of hh); have hk2 := Lib.hid (lie_of (parsed_keeps (g := w.heap.size) #[.int .i64 ver, .int .i64 hops, .int .i64 mark, .string f, .string t] hh (by have := HG3.out.1; omega))); have HL := Lib.hid (hq.laid #[.int .i64 ver, .int .i64 hops, .int .i64 mark, .string f, .string t]); obtain ⟨R1, R2, R3, R4, hr1, hr2, hr3, hr4, hr5, e0, e1, e2, e3, e4, f0, f1, f2, f3, f4⟩ := five_sets w4 w.heap.size _ _ _ _ _ _ (.int .i64 ver) (.int .i64 hops) (.int .i64 mark) (.string f) (.string t) hq.2.1; generalize w4.setRow w.heap.size #[.int .i64 ver, .int .i64 hops, .int .i64 mark, .string f, .string t] = R5 at *; clear hq hh))
  clear hr1 hr2 hr3 hr4 hr5 e0 e1 e2 e3 e4 f0 f1 f2 f3 f4 HK0
  go_wp2_with fail
  exact bodyPost_ret (results_row2 (P := Tryd.prog) rfl _ _ w.heap.size 23 #[.int .i64 ver, .int .i64 hops, .int .i64 mark, .string f, .string t] (0, 0) _ rfl HL.out.1 Tryd.underlying23 rfl hsize5) rfl ⟨by rw [HPAY.out]; rfl, HL.out.2⟩
end Go.Proofs.YtgodhbliamlclaaDoor
