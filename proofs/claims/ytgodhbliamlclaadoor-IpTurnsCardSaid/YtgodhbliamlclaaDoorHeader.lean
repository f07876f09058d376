/-
  Package ip: the header of a datagram, whichever its version: contracts.
-/
import Derived.Test.YtgodhbliamlclaaDoorParse6
namespace Go.Proofs.YtgodhbliamlclaaDoor
open Go.RowKit
set_option linter.unusedVariables false

set_option maxHeartbeats 2000000 in
theorem parse4_short (s : ByteArray) (h : (s.size : Int) < 20) (v : Value) (W : World) :
    Calls Tryd.prog 33 #[.string s, v] W fun e W' => e = .returned (.tuple #[.agg noH, .int .i64 0, .int .i64 3]) ∧ Below W.heap.size W W' := by
  go_enter Tryd.func33, Tryd.ntmps33
  go_wp2
  refine bodyPost_ret (results_row2 (P := Tryd.prog) rfl _ _ W.heap.size 23 noH (0, 0) _ rfl (heap_alloc_new W _) Tryd.underlying23 rfl hsize5) rfl ⟨rfl, (Below.refl _ _).alloc (Nat.le_refl _) _⟩
set_option maxHeartbeats 2000000 in
theorem parse6_short (s : ByteArray) (h : (s.size : Int) < 40) (v : Value) (W : World) :
    Calls Tryd.prog 34 #[.string s, v] W fun e W' => e = .returned (.tuple #[.agg noH, .int .i64 0, .int .i64 3]) ∧ Below W.heap.size W W' := by
  go_enter Tryd.func34, Tryd.ntmps34
  go_wp2
  refine bodyPost_ret (results_row2 (P := Tryd.prog) rfl _ _ W.heap.size 23 noH (0, 0) _ rfl (heap_alloc_new W _) Tryd.underlying23 rfl hsize5) rfl ⟨rfl, (Below.refl _ _).alloc (Nat.le_refl _) _⟩
set_option maxHeartbeats 2000000 in
theorem header_none (v : Value) (W : World) :
    Calls Tryd.prog 25 #[.string ⟨#[]⟩, v] W fun e W' => e = .returned (.tuple #[.agg noH, .int .i64 0, .int .i64 3]) ∧ Below W.heap.size W W' := by
  go_enter Tryd.func25, Tryd.ntmps25
  go_wp2
  refine bodyPost_ret (results_row2 (P := Tryd.prog) rfl _ _ W.heap.size 23 noH (0, 0) _ rfl (heap_alloc_new W _) Tryd.underlying23 rfl hsize5) rfl ⟨rfl, (Below.refl _ _).alloc (Nat.le_refl _) _⟩

theorem not_empty {s : ByteArray} (h : 0 < s.size) : s.toList.isEmpty = false := by
  rw [ByteArray.toList_eq]
  cases he : s.data.toList with
  | nil =>
    rw [size_list, he] at h
    exact absurd h (by simp)
  | cons a l => rfl
theorem nibVal (n : Nat) (k : Nat) : n / 16 = k → ((n : Int) / 16 == (k : Int)) = true := fun h => by simp; omega
theorem nibNot (n : Nat) (k : Nat) : n / 16 ≠ k → ((n : Int) / 16 == (k : Int)) = false := fun h => by simp; omega
set_option maxHeartbeats 2000000 in
theorem header_other (s : ByteArray) (h0 : 0 < s.size) (h4 : byteAt s.data.toList 0 / 16 ≠ 4) (h6 : byteAt s.data.toList 0 / 16 ≠ 6) (v : Value) (W : World) :
    Calls Tryd.prog 25 #[.string s, v] W fun e W' => e = .returned (.tuple #[.agg noH, .int .i64 0, .int .i64 2]) ∧ Below W.heap.size W W' := by
  rw [byteAt_byte h0] at h4 h6
  have q4 := nibNot _ _ h4
  have q6 := nibNot _ _ h6
  rw [show ((4 : Nat) : Int) = 4 from rfl] at q4
  rw [show ((6 : Nat) : Int) = 6 from rfl] at q6
  have hl : (0 : Int) < (s.size : Int) := by omega
  have he := not_empty h0
  clear h4 h6
  go_enter Tryd.func25, Tryd.ntmps25
  go_wp2
  refine bodyPost_ret (results_row2 (P := Tryd.prog) rfl _ _ W.heap.size 23 noH (0, 0) _ rfl (heap_alloc_new W _) Tryd.underlying23 rfl hsize5) rfl ⟨rfl, (Below.refl _ _).alloc (Nat.le_refl _) _⟩
set_option maxHeartbeats 2000000 in
theorem header_4 (Bs Ba : Nat) (s : ByteArray) (h0 : 0 < s.size) (hnib : byteAt s.data.toList 0 / 16 = 4) (cs : Array Value) (hcs : noH.size = cs.size) (hone : cs.all (·.oneCell') = true) (n er : Int) (k : Nat) (W : World) (h : Tk W Bs Ba s 0)
    (hp : ∀ X, Tk X Bs Ba s 0 → Calls Tryd.prog 33 #[.string s, nextV Bs Ba] X fun e X' => e = .returned (.tuple #[.agg cs, .int .i64 n, .int .i64 er]) ∧ Tk X' Bs Ba s k ∧ X.grownBy X' (some Ba)) :
    Calls Tryd.prog 25 #[.string s, nextV Bs Ba] W fun e W' => e = .returned (.tuple #[.agg cs, .int .i64 n, .int .i64 er]) ∧ Tk W' Bs Ba s k ∧ W.grownBy W' (some Ba) := by
  rw [byteAt_byte h0] at hnib
  have q4 := nibVal (s[0]'h0).toNat 4 (by omega)
  have q6 := nibNot (s[0]'h0).toNat 6 (by omega)
  rw [show ((4 : Nat) : Int) = 4 from rfl] at q4
  rw [show ((6 : Nat) : Int) = 6 from rfl] at q6
  have hl : (0 : Int) < (s.size : Int) := by omega
  have he := not_empty h0
  have HP : Hid (PS W W.heap.size Bs Ba s 0 (W.alloc (.cells noH 23))) := Lib.hid (PS.begun h)
  have HC : Hid (∀ X, PS W W.heap.size Bs Ba s 0 X → Calls Tryd.prog 33 #[.string s, nextV Bs Ba] X fun e X' => e = .returned (.tuple #[.agg cs, .int .i64 n, .int .i64 er]) ∧ PS W W.heap.size Bs Ba s k X') :=
    Lib.hid (fun X h => (hp X h.1).mono fun e X' ⟨he, ht, hg⟩ => ⟨he, h.to ht hg⟩)
  have HI : Hid ((Tryd.prog.info? 23).map (·.size) = some cs.size) := Lib.hid (by rw [← hcs]; exact hsize5)
  have HO := Lib.hid hone
  have HS := Lib.hid hcs
  clear hnib hp h hone hcs
  generalize nextV Bs Ba = v at *
  go_enter Tryd.func25, Tryd.ntmps25
  go_wp2_with (first
    | (go_at_call 33; ((with_reducible refine (HC.out _ HP.out).mono ?_); rintro e w1 ⟨rfl, hp1⟩); have HX := Lib.hid hp1; clear hp1)
    | (refine wpList_store_row rfl 23 (.tmp 4) (.tmp 18) rfl W.heap.size cs rfl rfl 23 noH HX.out.2.1 HI.out HS.out HO.out ?_))
  have hl2 := HX.out.laid cs
  exact bodyPost_ret (results_row2 (P := Tryd.prog) rfl _ _ W.heap.size 23 cs (0, 0) _ rfl hl2.2.1 Tryd.underlying23 rfl HI.out) rfl ⟨rfl, hl2.1, hl2.2.2⟩
set_option maxHeartbeats 2000000 in
theorem header_6 (Bs Ba : Nat) (s : ByteArray) (h0 : 0 < s.size) (hnib : byteAt s.data.toList 0 / 16 = 6) (cs : Array Value) (hcs : noH.size = cs.size) (hone : cs.all (·.oneCell') = true) (n er : Int) (k : Nat) (W : World) (h : Tk W Bs Ba s 0)
    (hp : ∀ X, Tk X Bs Ba s 0 → Calls Tryd.prog 34 #[.string s, nextV Bs Ba] X fun e X' => e = .returned (.tuple #[.agg cs, .int .i64 n, .int .i64 er]) ∧ Tk X' Bs Ba s k ∧ X.grownBy X' (some Ba)) :
    Calls Tryd.prog 25 #[.string s, nextV Bs Ba] W fun e W' => e = .returned (.tuple #[.agg cs, .int .i64 n, .int .i64 er]) ∧ Tk W' Bs Ba s k ∧ W.grownBy W' (some Ba) := by
  rw [byteAt_byte h0] at hnib
  have q4 := nibNot (s[0]'h0).toNat 4 (by omega)
  have q6 := nibVal (s[0]'h0).toNat 6 (by omega)
  rw [show ((4 : Nat) : Int) = 4 from rfl] at q4
  rw [show ((6 : Nat) : Int) = 6 from rfl] at q6
  have hl : (0 : Int) < (s.size : Int) := by omega
  have he := not_empty h0
  have HP : Hid (PS W W.heap.size Bs Ba s 0 (W.alloc (.cells noH 23))) := Lib.hid (PS.begun h)
  have HC : Hid (∀ X, PS W W.heap.size Bs Ba s 0 X → Calls Tryd.prog 34 #[.string s, nextV Bs Ba] X fun e X' => e = .returned (.tuple #[.agg cs, .int .i64 n, .int .i64 er]) ∧ PS W W.heap.size Bs Ba s k X') :=
    Lib.hid (fun X h => (hp X h.1).mono fun e X' ⟨he, ht, hg⟩ => ⟨he, h.to ht hg⟩)
  have HI : Hid ((Tryd.prog.info? 23).map (·.size) = some cs.size) := Lib.hid (by rw [← hcs]; exact hsize5)
  have HO := Lib.hid hone
  have HS := Lib.hid hcs
  clear hnib hp h hone hcs
  generalize nextV Bs Ba = v at *
  go_enter Tryd.func25, Tryd.ntmps25
  go_wp2_with (first
    | (go_at_call 34; ((with_reducible refine (HC.out _ HP.out).mono ?_); rintro e w1 ⟨rfl, hp1⟩); have HX := Lib.hid hp1; clear hp1)
    | (refine wpList_store_row rfl 23 (.tmp 4) (.tmp 26) rfl W.heap.size cs rfl rfl 23 noH HX.out.2.1 HI.out HS.out HO.out ?_))
  have hl2 := HX.out.laid cs
  exact bodyPost_ret (results_row2 (P := Tryd.prog) rfl _ _ W.heap.size 23 cs (0, 0) _ rfl hl2.2.1 Tryd.underlying23 rfl HI.out) rfl ⟨rfl, hl2.1, hl2.2.2⟩
end Go.Proofs.YtgodhbliamlclaaDoor
