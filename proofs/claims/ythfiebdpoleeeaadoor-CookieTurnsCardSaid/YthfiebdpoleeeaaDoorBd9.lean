/-
  Package cookie: the bytes of a state; Build: contracts.
-/
import Derived.Test.YthfiebdpoleeeaaDoorRt9
import Derived.Test.YthfiebdpoleeeaaDoorWr9
import Derived.Test.YthfiebdpoleeeaaDoorHmac
namespace Go.Proofs.YthfiebdpoleeeaaDoor
open Go.RowKit
set_option linter.unusedVariables false

theorem ownF_base {w : World} {B B' : Nat} {e : TypeId} {v : Value} {n : Nat} {xs : List Value} (h : w.ownsRowF B e 1 v n xs) (hB : B' ≤ B) : w.ownsRowF B' e 1 v n xs :=
  ⟨h.1, h.2.imp id fun ⟨g, cap, cur, fz, h1, h2, r⟩ => ⟨g, cap, cur, fz, h1, Nat.le_trans hB h2, r⟩⟩
/-- A state lies in block n0, the builder in block b holds these bytes; below n0 nothing has turned. -/
structure TxS (n0 b : Nat) (s : St) (l : List UInt8) (w W : World) : Prop where
  st : W.heap[n0]? = some (.cells (cellsS s) 25 (0, 0))
  bd : Bd W n0 b l
  ne : n0 < b
  base : n0 = w.heap.size
  below : Below n0 w W
theorem TxS.wrote {n0 b : Nat} {s : St} {l m : List UInt8} {w W W' : World} (h : TxS n0 b s l w W) (hb : Bd W' n0 b m) (hw : Wrote n0 b W W') : TxS n0 b s m w W' :=
  ⟨hw.block h.st (by have := h.ne; omega) (by decide), hb, h.ne, h.base, h.below.trans hw.1⟩
theorem TxS.alloc {n0 b : Nat} {s : St} {l : List UInt8} {w W : World} (h : TxS n0 b s l w W) (o : Obj) : TxS n0 b s l w (W.alloc o) := by
  have h1 := (Array.getElem?_eq_some_iff.1 h.st).1
  exact ⟨(heap_alloc_old W o h1).trans h.st, h.bd.alloc o, h.ne, h.base, h.below.alloc (by omega) _⟩
theorem TxS.start (s : St) (w : World) : TxS w.heap.size (w.heap.size + 1) s [] w ((w.alloc (.cells (cellsS s) 25)).alloc (.cells #[.pointer none, .slice none 0 0] 80)) := by
  have hb := bd_fresh (w.alloc (.cells (cellsS s) 25))
  have e : (w.alloc (.cells (cellsS s) 25)).heap.size = w.heap.size + 1 := by rw [World.size_alloc]
  rw [e] at hb
  refine ⟨(heap_alloc_old _ _ (by rw [e]; omega)).trans (heap_alloc_new w _), ?_, by omega, rfl, ((Below.refl _ _).alloc (Nat.le_refl _) _).alloc (by rw [e]; omega) _⟩
  rcases hb with ⟨h1, v, h2, h3, h4⟩ | ⟨h1, v, h2, h3, h4⟩
  · exact .inl ⟨by omega, v, h2, ownF_base h3 (by omega), h4⟩
  · exact .inr ⟨by omega, v, h2, ownF_base h3 (by omega), h4⟩
theorem TxS.cell {n0 b : Nat} {s : St} {l : List UInt8} {w W : World} (h : TxS n0 b s l w W) (i : Nat) {v : Value} (hv : (cellsS s)[i]? = some v) : W.cell? ⟨n0, i, none⟩ = some v := by rw [cell_in h.st]; exact hv
theorem TxS.lt {n0 b : Nat} {s : St} {l : List UInt8} {w W : World} (h : TxS n0 b s l w W) : b < W.heap.size ∧ n0 ≤ W.heap.size := by
  have := h.bd.lt
  have := h.ne
  omega
theorem TxS.wr32 {n0 b : Nat} {s : St} {l : List UInt8} {w W : World} (h : TxS n0 b s l w W) (ns : List Nat) (hn : ∀ n ∈ ns, n < 4294967296) (hlen : l.length + 8 * ns.length < 90000000) :
    Calls Tryd.prog 40 #[.pointer (some ⟨b, 0, none⟩), .int .i64 4, .slice (some ⟨W.heap.size, 0, none⟩) ns.length ns.length] (W.alloc (.cells (ns.map fun (n : Nat) => Value.int .u32 (n : Int)).toArray 22)) fun e w' =>
      e = .returned (.tuple #[]) ∧ TxS n0 b s (l ++ ns.flatMap (beN 4)) w w' := by
  have hl := h.lt
  refine (wr_32 n0 b W.heap.size l ns hn (0, 0) _ (h.alloc _).bd (heap_alloc_new W _) (by omega) hlen (by rw [World.size_alloc]; omega)).mono ?_
  rintro e w' ⟨he, h1, h2⟩
  exact ⟨he, (h.alloc _).wrote h1 h2⟩
theorem TxS.wr16 {n0 b : Nat} {s : St} {l : List UInt8} {w W : World} (h : TxS n0 b s l w W) (ns : List Nat) (hn : ∀ n ∈ ns, n < 65536) (hlen : l.length + 8 * ns.length < 90000000) :
    Calls Tryd.prog 41 #[.pointer (some ⟨b, 0, none⟩), .int .i64 2, .slice (some ⟨W.heap.size, 0, none⟩) ns.length ns.length] (W.alloc (.cells (ns.map fun (n : Nat) => Value.int .u16 (n : Int)).toArray 23)) fun e w' =>
      e = .returned (.tuple #[]) ∧ TxS n0 b s (l ++ ns.flatMap (beN 2)) w w' := by
  have hl := h.lt
  refine (wr_16 n0 b W.heap.size l ns hn (0, 0) _ (h.alloc _).bd (heap_alloc_new W _) (by omega) hlen (by rw [World.size_alloc]; omega)).mono ?_
  rintro e w' ⟨he, h1, h2⟩
  exact ⟨he, (h.alloc _).wrote h1 h2⟩
theorem TxS.wr64 {n0 b : Nat} {s : St} {l : List UInt8} {w W : World} (h : TxS n0 b s l w W) (ns : List Nat) (hn : ∀ n ∈ ns, n < 4611686018427387904) (hlen : l.length + 8 * ns.length < 90000000) :
    Calls Tryd.prog 42 #[.pointer (some ⟨b, 0, none⟩), .int .i64 8, .slice (some ⟨W.heap.size, 0, none⟩) ns.length ns.length] (W.alloc (.cells (ns.map fun (n : Nat) => Value.int .i64 (n : Int)).toArray 3)) fun e w' =>
      e = .returned (.tuple #[]) ∧ TxS n0 b s (l ++ ns.flatMap (beN 8)) w w' := by
  have hl := h.lt
  refine (wr_64 n0 b W.heap.size l ns hn (0, 0) _ (h.alloc _).bd (heap_alloc_new W _) (by omega) hlen (by rw [World.size_alloc]; omega)).mono ?_
  rintro e w' ⟨he, h1, h2⟩
  exact ⟨he, (h.alloc _).wrote h1 h2⟩
theorem TxS.wr1 {n0 b : Nat} {s : St} {l : List UInt8} {w W : World} (h : TxS n0 b s l w W) (ns : List Nat) (hn : ∀ n ∈ ns, n < 256) (hlen : l.length + 8 * ns.length < 90000000) :
    Calls Tryd.prog 42 #[.pointer (some ⟨b, 0, none⟩), .int .i64 1, .slice (some ⟨W.heap.size, 0, none⟩) ns.length ns.length] (W.alloc (.cells (ns.map fun (n : Nat) => Value.int .i64 (n : Int)).toArray 3)) fun e w' =>
      e = .returned (.tuple #[]) ∧ TxS n0 b s (l ++ ns.flatMap (beN 1)) w w' := by
  have hl := h.lt
  refine (wr_1 n0 b W.heap.size l ns hn (0, 0) _ (h.alloc _).bd (heap_alloc_new W _) (by omega) hlen (by rw [World.size_alloc]; omega)).mono ?_
  rintro e w' ⟨he, h1, h2⟩
  exact ⟨he, (h.alloc _).wrote h1 h2⟩
set_option maxHeartbeats 2000000 in
set_option maxRecDepth 100000 in
/-- The bytes of a right state. -/
theorem text_any9 (s : St) (hw : WfS s) (hr : RightS s) (w : World) : Calls Tryd.prog 27 #[.agg (cellsS s)] w fun e w' => e = .returned (.string (textS s)) ∧ Below w.heap.size w w' := by
  have hm := hr.made
  have hl := hr.life
  have hp := hr.peer
  have B4 : ∀ n ∈ [s.a0, s.a1, s.a2, s.a3, s.a4, s.a5, s.a6], n < 4294967296 := by have := hw.a0; have := hw.a1; have := hw.a2; have := hw.a3; have := hw.a4; have := hw.a5; have := hw.a6; simp; omega
  have B2 : ∀ n ∈ [s.b0, s.b1, s.b2, s.b3], n < 65536 := by have := hw.b0; have := hw.b1; have := hw.b2; have := hw.b3; simp; omega
  have B8 : ∀ n ∈ [s.made.toNat, s.life.toNat], n < 4611686018427387904 := by simp; omega
  have B1 : ∀ n ∈ [s.peer.size], n < 256 := by simp; omega
  have HTX := Lib.hid (show textS s = ⟨(((((([] ++ [s.a0, s.a1, s.a2, s.a3, s.a4, s.a5, s.a6].flatMap (beN 4)) ++ [s.b0, s.b1, s.b2, s.b3].flatMap (beN 2)) ++ [s.made.toNat, s.life.toNat].flatMap (beN 8)) ++ [s.peer.size].flatMap (beN 1)) ++ s.peer.data.toList)).toArray⟩ by
    apply bytes_ext
    show bytesS s = _
    simp only [bytesS, headS, List.flatMap_cons, List.flatMap_nil, List.nil_append, List.append_nil, List.append_assoc])
  have HT := Lib.hid (TxS.start s w)
  generalize textS s = r at *
  clear hr hw
  obtain ⟨a0, a1, a2, a3, a4, a5, a6, b0, b1, b2, b3, peer, made, life⟩ := s
  dsimp only at hm hl hp B4 B2 B8 B1 HTX
  obtain ⟨m, rfl⟩ : ∃ m : Nat, made = (m : Int) := ⟨made.toNat, by omega⟩
  obtain ⟨f, rfl⟩ : ∃ f : Nat, life = (f : Int) := ⟨life.toNat, by omega⟩
  rw [Int.toNat_natCast, Int.toNat_natCast] at B8 HTX
  obtain ⟨L1, hL1⟩ : ∃ L, L = [] ++ [a0, a1, a2, a3, a4, a5, a6].flatMap (beN 4) := ⟨_, rfl⟩
  rw [← hL1] at HTX
  have n1 : L1.length = 28 := by rw [hL1, List.nil_append, flat9_length]; rfl
  obtain ⟨L2, hL2⟩ : ∃ L, L = L1 ++ [b0, b1, b2, b3].flatMap (beN 2) := ⟨_, rfl⟩
  rw [← hL2] at HTX
  have n2 : L2.length = 36 := by rw [hL2, List.length_append, flat9_length, n1]; rfl
  obtain ⟨L3, hL3⟩ : ∃ L, L = L2 ++ [m, f].flatMap (beN 8) := ⟨_, rfl⟩
  rw [← hL3] at HTX
  have n3 : L3.length = 52 := by rw [hL3, List.length_append, flat9_length, n2]; rfl
  obtain ⟨L4, hL4⟩ : ∃ L, L = L3 ++ [peer.size].flatMap (beN 1) := ⟨_, rfl⟩
  rw [← hL4] at HTX
  have n4 : L4.length = 53 := by rw [hL4, List.length_append, flat9_length, n3]; rfl
  have n0 : ([] : List UInt8).length = 0 := rfl
  have C1 : Hid (∀ W, TxS w.heap.size (w.heap.size + 1) ⟨a0, a1, a2, a3, a4, a5, a6, b0, b1, b2, b3, peer, (m : Int), (f : Int)⟩ [] w W → Calls Tryd.prog 40 #[.pointer (some ⟨w.heap.size + 1, 0, none⟩), .int .i64 4, .slice (some ⟨W.heap.size, 0, none⟩) 7 7] (W.alloc (.cells #[.int .u32 a0, .int .u32 a1, .int .u32 a2, .int .u32 a3, .int .u32 a4, .int .u32 a5, .int .u32 a6] 22)) fun e w' =>
      e = .returned (.tuple #[]) ∧ TxS w.heap.size (w.heap.size + 1) ⟨a0, a1, a2, a3, a4, a5, a6, b0, b1, b2, b3, peer, (m : Int), (f : Int)⟩ L1 w w') := Lib.hid fun W h => by
    rw [hL1]
    exact h.wr32 [a0, a1, a2, a3, a4, a5, a6] B4 (by simp only [List.length_cons, List.length_nil]; omega)
  have C2 : Hid (∀ W, TxS w.heap.size (w.heap.size + 1) ⟨a0, a1, a2, a3, a4, a5, a6, b0, b1, b2, b3, peer, (m : Int), (f : Int)⟩ L1 w W → Calls Tryd.prog 41 #[.pointer (some ⟨w.heap.size + 1, 0, none⟩), .int .i64 2, .slice (some ⟨W.heap.size, 0, none⟩) 4 4] (W.alloc (.cells #[.int .u16 b0, .int .u16 b1, .int .u16 b2, .int .u16 b3] 23)) fun e w' =>
      e = .returned (.tuple #[]) ∧ TxS w.heap.size (w.heap.size + 1) ⟨a0, a1, a2, a3, a4, a5, a6, b0, b1, b2, b3, peer, (m : Int), (f : Int)⟩ L2 w w') := Lib.hid fun W h => by
    rw [hL2]
    exact h.wr16 [b0, b1, b2, b3] B2 (by simp only [List.length_cons, List.length_nil]; omega)
  have C3 : Hid (∀ W, TxS w.heap.size (w.heap.size + 1) ⟨a0, a1, a2, a3, a4, a5, a6, b0, b1, b2, b3, peer, (m : Int), (f : Int)⟩ L2 w W → Calls Tryd.prog 42 #[.pointer (some ⟨w.heap.size + 1, 0, none⟩), .int .i64 8, .slice (some ⟨W.heap.size, 0, none⟩) 2 2] (W.alloc (.cells #[.int .i64 (m : Int), .int .i64 (f : Int)] 3)) fun e w' =>
      e = .returned (.tuple #[]) ∧ TxS w.heap.size (w.heap.size + 1) ⟨a0, a1, a2, a3, a4, a5, a6, b0, b1, b2, b3, peer, (m : Int), (f : Int)⟩ L3 w w') := Lib.hid fun W h => by
    rw [hL3]
    exact h.wr64 [m, f] B8 (by simp only [List.length_cons, List.length_nil]; omega)
  have C4 : Hid (∀ W, TxS w.heap.size (w.heap.size + 1) ⟨a0, a1, a2, a3, a4, a5, a6, b0, b1, b2, b3, peer, (m : Int), (f : Int)⟩ L3 w W → Calls Tryd.prog 42 #[.pointer (some ⟨w.heap.size + 1, 0, none⟩), .int .i64 1, .slice (some ⟨W.heap.size, 0, none⟩) 1 1] (W.alloc (.cells #[.int .i64 (peer.size : Int)] 3)) fun e w' =>
      e = .returned (.tuple #[]) ∧ TxS w.heap.size (w.heap.size + 1) ⟨a0, a1, a2, a3, a4, a5, a6, b0, b1, b2, b3, peer, (m : Int), (f : Int)⟩ L4 w w') := Lib.hid fun W h => by
    rw [hL4]
    exact h.wr1 [peer.size] B1 (by simp only [List.length_cons, List.length_nil]; omega)
  have C5 : Hid (∀ W, TxS w.heap.size (w.heap.size + 1) ⟨a0, a1, a2, a3, a4, a5, a6, b0, b1, b2, b3, peer, (m : Int), (f : Int)⟩ L4 w W → Calls Tryd.prog 43 #[.pointer (some ⟨w.heap.size + 1, 0, none⟩), .string peer] W fun e w' =>
      e = .returned (.tuple #[.int .i64 peer.size, .nilIface]) ∧ TxS w.heap.size (w.heap.size + 1) ⟨a0, a1, a2, a3, a4, a5, a6, b0, b1, b2, b3, peer, (m : Int), (f : Int)⟩ (L4 ++ peer.data.toList) w w') := Lib.hid fun W h =>
    (string_any w.heap.size (w.heap.size + 1) L4 peer W h.bd (by omega) h.lt.2).mono fun e w' ⟨he, hb, hw⟩ => ⟨he, h.wrote hb hw⟩
  have C6 : Hid (∀ W, TxS w.heap.size (w.heap.size + 1) ⟨a0, a1, a2, a3, a4, a5, a6, b0, b1, b2, b3, peer, (m : Int), (f : Int)⟩ (L4 ++ peer.data.toList) w W → Calls Tryd.prog 44 #[.pointer (some ⟨w.heap.size + 1, 0, none⟩)] W fun e w' =>
      e = .returned (.string r) ∧ Below w.heap.size w w') := Lib.hid fun W h => by
    rw [HTX.out]
    exact (told_any w.heap.size (w.heap.size + 1) _ W h.bd h.lt.2).mono fun e w' ⟨he, hb, hw⟩ => ⟨he, h.below.trans hw.1⟩
  have c1 := C1.out _ HT.out
  dsimp only [cellsS] at c1
  rw [World.size_alloc, World.size_alloc] at c1
  have C1' := Lib.hid c1
  clear c1 C1 HT n0 n1 n2 n3 n4 hL1 hL2 hL3 hL4 B4 B2 B8 B1 HTX hm hl hp
  dsimp only [cellsS]
  go_enter Tryd.func27, Tryd.ntmps27
  go_wp2_with fail
  refine C1'.out.mono ?_
  rintro e w1 ⟨rfl, ht1⟩
  have d7 : w1.cell? ⟨w.heap.size, 7, none⟩ = some (.int .u16 (b0 : Int)) := ht1.cell 7 rfl
  have d8 : w1.cell? ⟨w.heap.size, 8, none⟩ = some (.int .u16 (b1 : Int)) := ht1.cell 8 rfl
  have d9 : w1.cell? ⟨w.heap.size, 9, none⟩ = some (.int .u16 (b2 : Int)) := ht1.cell 9 rfl
  have d10 : w1.cell? ⟨w.heap.size, 10, none⟩ = some (.int .u16 (b3 : Int)) := ht1.cell 10 rfl
  have HT1 := Lib.hid ht1
  clear ht1 C1'
  go_wp2_with fail
  refine (C2.out _ HT1.out).mono ?_
  rintro e w2 ⟨rfl, ht2⟩
  have e12 : w2.cell? ⟨w.heap.size, 12, none⟩ = some (.int .i64 (m : Int)) := ht2.cell 12 rfl
  have e13 : w2.cell? ⟨w.heap.size, 13, none⟩ = some (.int .i64 (f : Int)) := ht2.cell 13 rfl
  have HT2 := Lib.hid ht2
  clear ht2 HT1 d7 d8 d9 d10 C2
  go_wp2_with fail
  refine (C3.out _ HT2.out).mono ?_
  rintro e w3 ⟨rfl, ht3⟩
  have f11 : w3.cell? ⟨w.heap.size, 11, none⟩ = some (.string peer) := ht3.cell 11 rfl
  have HT3 := Lib.hid ht3
  clear ht3 HT2 e12 e13 C3
  go_wp2_with fail
  refine (C4.out _ HT3.out).mono ?_
  rintro e w4 ⟨rfl, ht4⟩
  have g11 : w4.cell? ⟨w.heap.size, 11, none⟩ = some (.string peer) := ht4.cell 11 rfl
  have HT4 := Lib.hid ht4
  clear ht4 HT3 f11 C4
  go_wp2_with fail
  refine (C5.out _ HT4.out).mono ?_
  rintro e w5 ⟨rfl, ht5⟩
  have HT5 := Lib.hid ht5
  clear ht5 HT4 g11 C5
  go_wp2_with fail
  refine (C6.out _ HT5.out).mono ?_
  rintro e w6 ⟨rfl, hb6⟩
  have HB6 := Lib.hid hb6
  clear hb6 HT5 C6
  go_wp2_with fail
  go_ret
  exact ⟨rfl, HB6.out⟩
end Go.Proofs.YthfiebdpoleeeaaDoor
