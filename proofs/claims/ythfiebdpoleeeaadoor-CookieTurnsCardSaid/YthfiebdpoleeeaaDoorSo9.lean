/-
  Package cookie: the state of bytes: a contract.
-/
import Derived.Test.YthfiebdpoleeeaaDoorCl9
import Derived.Test.YthfiebdpoleeeaaDoorKs9
import Derived.Deep.RegionHeld3
import Derived.Deep.MidRow
import Derived.Laws.EntriesVeiled
namespace Go.Proofs.YthfiebdpoleeeaaDoor
open Go.RowKit
set_option linter.unusedVariables false
set_option linter.unusedSimpArgs false

theorem results_row1 {P : Program} {fn : Func} {p u : Tmp} {ty : TypeId} (h : fn.results = #[.cell p ty, .tmp u]) (tmps : Array Value) (w : World) (g : Nat) (t : TypeId) (cs : Array Value) (fr : Nat × Nat) (d : TypeDesc)
    (hp : tmps.getD p undef = .pointer (some ⟨g, 0, none⟩)) (hg : w.heap[g]? = some (.cells cs t fr))
    (hu : P.underlying ty = some d) (hd : (match d with | .struct _ | .array _ _ => true | _ => false) = true) (hi : (P.info? ty).map (·.size) = some cs.size) :
    (results fn tmps).run P w = .ok (.tuple #[.agg cs, tmps.getD u undef]) w := by
  have hp' : tmps[p]?.getD undef = .pointer (some ⟨g, 0, none⟩) := by simpa using hp
  simp [results, h, hp', asAddr, run_loadVar_row w g t ty cs fr d hg hu hd hi]
theorem row_set9 {w : World} {b : Nat} {cs : Array Value} {t : TypeId} {fz : Nat × Nat} (h : w.heap[b]? = some (.cells cs t fz)) (i : Nat) (v : Value) : (w.setCell ⟨b, i, none⟩ v).heap[b]? = some (.cells (cs.setIfInBounds i v) t fz) := by
  simp [World.setCell, Array.getElem?_modify, h]
theorem setRow_at {w : World} {g : Nat} {cs old : Array Value} {t : TypeId} (h : w.heap[g]? = some (.cells old t (0, 0))) : (w.setRow g cs).heap[g]? = some (.cells cs t (0, 0)) := setRow_heap w g _ cs _ _ h
theorem below_setRow {B : Nat} {a w : World} (h : Below B a w) (g : Nat) (cs : Array Value) (hg : B ≤ g) : Below B a (w.setRow g cs) :=
  ⟨h.os, h.tape, h.output, by have := h.size; simpa [World.setRow] using this, fun k hk => (setRow_other w g k cs (by omega)).trans (h.block k hk)⟩
theorem below_setCell9 {B : Nat} {a w : World} (h : Below B a w) (g i : Nat) (v : Value) (hg : B ≤ g) : Below B a (w.setCell ⟨g, i, none⟩ v) :=
  ⟨h.os, h.tape, h.output, by rw [set_size]; exact h.size, fun k hk => (Below.heap_setCell _ _ _ k (fun e => by have : k = g := e; omega)).trans (h.block k hk)⟩
def stS (t : ByteArray) : St := if t.size < 53 then zeroS else if at9 t.data.toList 52 1 = t.size - 53 then parseS t else zeroS
theorem extract_all (t : ByteArray) : t.extract 0 t.size = t := by
  apply bytes_ext
  rw [extract_list, List.drop_zero, List.take_of_length_le (by rw [← size_list]; omega)]
/-- Behind the taking of all numbers but the last: what was taken lies in block n3. -/
structure SoS (n0 Bs Bt n3 k : Nat) (t : ByteArray) (cs : Array Value) (w W : World) : Prop where
  tk : TkS n0 Bs Bt k t w W
  own : W.heap[n3]? = some (.cells cs 25 (0, 0))
  o3 : Bt < n3
theorem SoS.new {n0 Bs Bt k : Nat} {t : ByteArray} {w W : World} (cs : Array Value) (h : TkS n0 Bs Bt k t w W) : SoS n0 Bs Bt W.heap.size k t cs w (W.alloc (.cells cs 25)) :=
  ⟨h.later ((Below.refl _ _).alloc (Nat.le_refl _) _), heap_alloc_new W _, h.take.lt⟩
theorem SoS.later {n0 Bs Bt n3 k : Nat} {t : ByteArray} {cs : Array Value} {w W W' : World} (h : SoS n0 Bs Bt n3 k t cs w W) (hb : Below W.heap.size W W') : SoS n0 Bs Bt n3 k t cs w W' :=
  ⟨h.tk.later hb, (hb.block _ (Array.getElem?_eq_some_iff.1 h.own).1).trans h.own, h.o3⟩
theorem SoS.drew {n0 Bs Bt n3 k : Nat} {t : ByteArray} {cs : Array Value} {w W : World} (h : SoS n0 Bs Bt n3 k t cs w W) : SoS n0 Bs Bt n3 k t cs w W.drew := h.later (Below.refl _ _).drew
theorem SoS.byte {n0 Bs Bt n3 k : Nat} {t : ByteArray} {cs : Array Value} {w W : World} (h : SoS n0 Bs Bt n3 k t cs w W) (ht : t.size ≤ 1000000) (hk : k + 1 ≤ t.size) :
    Calls Tryd.prog 63 #[.int .i64 1, .pointer (some ⟨Bs, 0, none⟩)] W fun e W' => e = .returned (.int .u64 (at9 t.data.toList k 1 : Nat)) ∧ SoS n0 Bs Bt n3 (k + 1) t cs w W' := by
  refine (take_any Bs (t.extract k t.size) (by rw [ByteArray.size_extract]; omega) 1 (by omega) (by rw [ByteArray.size_extract]; omega) W h.tk.text).mono ?_
  rintro e W' ⟨rfl, hb, hg⟩
  rw [cut_rest hk] at hb
  rw [at_rest hk]
  have a := h.tk.o2
  have b := h.o3
  exact ⟨rfl, h.tk.grown hb hg, (hg.block n3 (Array.getElem?_eq_some_iff.1 h.own).1 (by simp; omega)).trans h.own, b⟩
/-- Behind the making of the closure. -/
structure TmS (n0 Bs : Nat) (t : ByteArray) (w W : World) : Prop where
  res : W.heap[n0]? = some (.cells (cellsS zeroS) 25 (0, 0))
  text : Bx W Bs 9 (.string t)
  below : Below w.heap.size w W
  o0 : w.heap.size = n0
  o1 : Bs = n0 + 1
theorem TmS.made {n0 Bs : Nat} {t : ByteArray} {w W : World} (h : TmS n0 Bs t w W) : TkS n0 Bs W.heap.size 0 t w (W.alloc (.cells #[takeV Bs] 91)) := by
  have h1 := (Array.getElem?_eq_some_iff.1 h.res).1
  have h2 := h.text.lt
  have a := h.o0
  have b := h.o1
  have c := h.below.size
  exact ⟨(heap_alloc_old W _ h1).trans h.res, by rw [extract_all]; exact (heap_alloc_old W _ h2).trans h.text, heap_alloc_new W _, h.below.alloc c _, by omega, by omega, by omega⟩
theorem taker_first (t : ByteArray) (w : World) : Calls Tryd.prog 50 #[.string t] (w.alloc (.cells (cellsS zeroS) 25)) fun e w' =>
    e = .returned (.func (.func 63) #[] #[.pointer (some ⟨w.heap.size + 1, 0, none⟩)]) ∧ TmS w.heap.size (w.heap.size + 1) t w w' := by
  have h := taker_made t (w.alloc (.cells (cellsS zeroS) 25))
  rw [World.size_alloc] at h
  refine h.mono ?_
  rintro e w' ⟨he, h1, h2⟩
  exact ⟨he, (h2.block w.heap.size (by omega)).trans (heap_alloc_new w _), h1, ((Below.refl _ _).alloc (Nat.le_refl _) _).trans (h2.mono (by omega)), rfl, rfl⟩

set_option maxHeartbeats 8000000 in
set_option maxRecDepth 100000 in
theorem stateOf_any (t : ByteArray) (ht : t.size ≤ 1000000) (w : World) :
    Calls Tryd.prog 31 #[.string t] w fun e w' => e = .returned (.tuple #[.agg (cellsS (stS t)), .bool (okS t)]) ∧ Below w.heap.size w w' := by
  have HI := Lib.hid (sizeS zeroS)
  by_cases h53 : t.size < 53
  · have e1 : stS t = zeroS := by unfold stS; rw [if_pos h53]
    have e2 : okS t = false := by unfold okS; rw [decide_eq_false (by omega)]; rfl
    rw [e1, e2]
    have h53' : (t.size : Int) < 53 := by omega
    clear e1 e2 h53 ht
    go_enter Tryd.func31, Tryd.ntmps31
    go_wp2_with fail
    refine bodyPost_ret (results_row1 (P := Tryd.prog) rfl _ _ w.heap.size 25 (cellsS zeroS) (0, 0) _ rfl (heap_alloc_new w _) Tryd.underlying25 rfl HI.out) rfl ⟨rfl, (Below.refl _ _).alloc (Nat.le_refl _) _⟩
  have h53' : (53 : Int) ≤ (t.size : Int) := by omega
  have HT := Lib.hid (taker_first t w)
  obtain ⟨x0, hx0⟩ : ∃ x, x = at9 t.data.toList 0 4 := ⟨_, rfl⟩
  obtain ⟨x1, hx1⟩ : ∃ x, x = at9 t.data.toList 4 4 := ⟨_, rfl⟩
  obtain ⟨x2, hx2⟩ : ∃ x, x = at9 t.data.toList 8 4 := ⟨_, rfl⟩
  obtain ⟨x3, hx3⟩ : ∃ x, x = at9 t.data.toList 12 4 := ⟨_, rfl⟩
  obtain ⟨x4, hx4⟩ : ∃ x, x = at9 t.data.toList 16 4 := ⟨_, rfl⟩
  obtain ⟨x5, hx5⟩ : ∃ x, x = at9 t.data.toList 20 4 := ⟨_, rfl⟩
  obtain ⟨x6, hx6⟩ : ∃ x, x = at9 t.data.toList 24 4 := ⟨_, rfl⟩
  obtain ⟨x7, hx7⟩ : ∃ x, x = at9 t.data.toList 28 2 := ⟨_, rfl⟩
  obtain ⟨x8, hx8⟩ : ∃ x, x = at9 t.data.toList 30 2 := ⟨_, rfl⟩
  obtain ⟨x9, hx9⟩ : ∃ x, x = at9 t.data.toList 32 2 := ⟨_, rfl⟩
  obtain ⟨x10, hx10⟩ : ∃ x, x = at9 t.data.toList 34 2 := ⟨_, rfl⟩
  obtain ⟨x11, hx11⟩ : ∃ x, x = at9 t.data.toList 36 8 := ⟨_, rfl⟩
  obtain ⟨x12, hx12⟩ : ∃ x, x = at9 t.data.toList 44 8 := ⟨_, rfl⟩
  obtain ⟨x13, hx13⟩ : ∃ x, x = at9 t.data.toList 52 1 := ⟨_, rfl⟩
  have HPS0 := Lib.hid (show parseS t = ⟨x0, x1, x2, x3, x4, x5, x6, x7, x8, x9, x10, t.extract 53 t.size, wrap64 (x11 : Int), wrap64 (x12 : Int)⟩ by rw [hx0, hx1, hx2, hx3, hx4, hx5, hx6, hx7, hx8, hx9, hx10, hx11, hx12, ← wrap64_is, ← wrap64_is]; rfl)
  have HB : Hid (∀ Bt n3 W, SoS w.heap.size (w.heap.size + 1) Bt n3 52 t #[.int .u32 (x0 : Int), .int .u32 (x1 : Int), .int .u32 (x2 : Int), .int .u32 (x3 : Int), .int .u32 (x4 : Int), .int .u32 (x5 : Int), .int .u32 (x6 : Int), .int .u16 (x7 : Int), .int .u16 (x8 : Int), .int .u16 (x9 : Int), .int .u16 (x10 : Int), .string ⟨#[]⟩, .int .i64 (wrap64 (x11 : Int)), .int .i64 (wrap64 (x12 : Int))] w W → Calls Tryd.prog 63 #[.int .i64 1, .pointer (some ⟨w.heap.size + 1, 0, none⟩)] W fun e w' => e = .returned (.int .u64 (x13 : Int)) ∧ SoS w.heap.size (w.heap.size + 1) Bt n3 53 t #[.int .u32 (x0 : Int), .int .u32 (x1 : Int), .int .u32 (x2 : Int), .int .u32 (x3 : Int), .int .u32 (x4 : Int), .int .u32 (x5 : Int), .int .u32 (x6 : Int), .int .u16 (x7 : Int), .int .u16 (x8 : Int), .int .u16 (x9 : Int), .int .u16 (x10 : Int), .string ⟨#[]⟩, .int .i64 (wrap64 (x11 : Int)), .int .i64 (wrap64 (x12 : Int))] w w') := Lib.hid fun Bt n3 W h => by
    rw [hx13]
    exact h.byte ht (by omega)
  have b13 : x13 < 256 := by rw [hx13]; exact at9_lt _ _ 1
  have HE := Lib.hid (cellsS_one zeroS)
  have hps0 : (t.extract 53 t.size).size = t.size - 53 := by rw [ByteArray.size_extract]; omega
  have HN := Lib.hid (show x13 ≠ (t.extract 53 t.size).size → stS t = zeroS ∧ okS t = false from fun hc => by
    rw [hps0] at hc
    exact ⟨by unfold stS; rw [if_neg h53, if_neg (by rw [← hx13]; exact hc)], by unfold okS; rw [← hx13, decide_eq_false hc, Bool.and_false, Bool.false_and]⟩)
  have HY := Lib.hid (show x13 = (t.extract 53 t.size).size → stS t = parseS t ∧ okS t = rightS (parseS t) from fun hc => by
    rw [hps0] at hc
    exact ⟨by unfold stS; rw [if_neg h53, if_pos (by rw [← hx13]; exact hc)], by unfold okS; rw [← hx13, decide_eq_true hc, decide_eq_true (by omega : 53 ≤ t.size), Bool.true_and, Bool.true_and]⟩)
  clear hps0
  generalize stS t = rs at *
  generalize okS t = rb at *
  have H0 : Hid (∀ Bt W, TkS w.heap.size (w.heap.size + 1) Bt 0 t w W → Calls Tryd.prog 51 #[.pointer (some ⟨Bt, 0, none⟩)] W fun e w' => e = .returned (.int .u32 (x0 : Int)) ∧ TkS w.heap.size (w.heap.size + 1) Bt 4 t w w') := Lib.hid fun Bt W h => by
    rw [hx0]
    exact h.long ht (by omega)
  have H1 : Hid (∀ Bt W, TkS w.heap.size (w.heap.size + 1) Bt 4 t w W → Calls Tryd.prog 51 #[.pointer (some ⟨Bt, 0, none⟩)] W fun e w' => e = .returned (.int .u32 (x1 : Int)) ∧ TkS w.heap.size (w.heap.size + 1) Bt 8 t w w') := Lib.hid fun Bt W h => by
    rw [hx1]
    exact h.long ht (by omega)
  have H2 : Hid (∀ Bt W, TkS w.heap.size (w.heap.size + 1) Bt 8 t w W → Calls Tryd.prog 51 #[.pointer (some ⟨Bt, 0, none⟩)] W fun e w' => e = .returned (.int .u32 (x2 : Int)) ∧ TkS w.heap.size (w.heap.size + 1) Bt 12 t w w') := Lib.hid fun Bt W h => by
    rw [hx2]
    exact h.long ht (by omega)
  have H3 : Hid (∀ Bt W, TkS w.heap.size (w.heap.size + 1) Bt 12 t w W → Calls Tryd.prog 51 #[.pointer (some ⟨Bt, 0, none⟩)] W fun e w' => e = .returned (.int .u32 (x3 : Int)) ∧ TkS w.heap.size (w.heap.size + 1) Bt 16 t w w') := Lib.hid fun Bt W h => by
    rw [hx3]
    exact h.long ht (by omega)
  have H4 : Hid (∀ Bt W, TkS w.heap.size (w.heap.size + 1) Bt 16 t w W → Calls Tryd.prog 51 #[.pointer (some ⟨Bt, 0, none⟩)] W fun e w' => e = .returned (.int .u32 (x4 : Int)) ∧ TkS w.heap.size (w.heap.size + 1) Bt 20 t w w') := Lib.hid fun Bt W h => by
    rw [hx4]
    exact h.long ht (by omega)
  have H5 : Hid (∀ Bt W, TkS w.heap.size (w.heap.size + 1) Bt 20 t w W → Calls Tryd.prog 51 #[.pointer (some ⟨Bt, 0, none⟩)] W fun e w' => e = .returned (.int .u32 (x5 : Int)) ∧ TkS w.heap.size (w.heap.size + 1) Bt 24 t w w') := Lib.hid fun Bt W h => by
    rw [hx5]
    exact h.long ht (by omega)
  have H6 : Hid (∀ Bt W, TkS w.heap.size (w.heap.size + 1) Bt 24 t w W → Calls Tryd.prog 51 #[.pointer (some ⟨Bt, 0, none⟩)] W fun e w' => e = .returned (.int .u32 (x6 : Int)) ∧ TkS w.heap.size (w.heap.size + 1) Bt 28 t w w') := Lib.hid fun Bt W h => by
    rw [hx6]
    exact h.long ht (by omega)
  have H7 : Hid (∀ Bt W, TkS w.heap.size (w.heap.size + 1) Bt 28 t w W → Calls Tryd.prog 52 #[.pointer (some ⟨Bt, 0, none⟩)] W fun e w' => e = .returned (.int .u16 (x7 : Int)) ∧ TkS w.heap.size (w.heap.size + 1) Bt 30 t w w') := Lib.hid fun Bt W h => by
    rw [hx7]
    exact h.short ht (by omega)
  have H8 : Hid (∀ Bt W, TkS w.heap.size (w.heap.size + 1) Bt 30 t w W → Calls Tryd.prog 52 #[.pointer (some ⟨Bt, 0, none⟩)] W fun e w' => e = .returned (.int .u16 (x8 : Int)) ∧ TkS w.heap.size (w.heap.size + 1) Bt 32 t w w') := Lib.hid fun Bt W h => by
    rw [hx8]
    exact h.short ht (by omega)
  have H9 : Hid (∀ Bt W, TkS w.heap.size (w.heap.size + 1) Bt 32 t w W → Calls Tryd.prog 52 #[.pointer (some ⟨Bt, 0, none⟩)] W fun e w' => e = .returned (.int .u16 (x9 : Int)) ∧ TkS w.heap.size (w.heap.size + 1) Bt 34 t w w') := Lib.hid fun Bt W h => by
    rw [hx9]
    exact h.short ht (by omega)
  have H10 : Hid (∀ Bt W, TkS w.heap.size (w.heap.size + 1) Bt 34 t w W → Calls Tryd.prog 52 #[.pointer (some ⟨Bt, 0, none⟩)] W fun e w' => e = .returned (.int .u16 (x10 : Int)) ∧ TkS w.heap.size (w.heap.size + 1) Bt 36 t w w') := Lib.hid fun Bt W h => by
    rw [hx10]
    exact h.short ht (by omega)
  have H11 : Hid (∀ Bt W, TkS w.heap.size (w.heap.size + 1) Bt 36 t w W → Calls Tryd.prog 53 #[.pointer (some ⟨Bt, 0, none⟩)] W fun e w' => e = .returned (.int .i64 (wrap64 (x11 : Int))) ∧ TkS w.heap.size (w.heap.size + 1) Bt 44 t w w') := Lib.hid fun Bt W h => by
    rw [hx11, ← wrap64_is]
    exact h.time ht (by omega)
  have H12 : Hid (∀ Bt W, TkS w.heap.size (w.heap.size + 1) Bt 44 t w W → Calls Tryd.prog 53 #[.pointer (some ⟨Bt, 0, none⟩)] W fun e w' => e = .returned (.int .i64 (wrap64 (x12 : Int))) ∧ TkS w.heap.size (w.heap.size + 1) Bt 52 t w w') := Lib.hid fun Bt W h => by
    rw [hx12, ← wrap64_is]
    exact h.time ht (by omega)
  clear hx13 hx0 hx1 hx2 hx3 hx4 hx5 hx6 hx7 hx8 hx9 hx10 hx11 hx12
  dsimp only [cellsS, zeroS] at HT
  have hmf : ∀ (fn : Fn) (first cap : Array Value) (w : World), (Instr.makeFunc fn first cap).run Tryd.prog w = .ok (.func fn first cap) w := fun _ _ _ _ => rfl
  go_enter Tryd.func31, Tryd.ntmps31
  go_wp2_with fail
  refine HT.out.mono ?_
  rintro e w1 ⟨rfl, hm1⟩
  have HP := Lib.hid hm1.made
  unfold takeV at HP
  clear hm1 HT
  go_wp2_with fail
  refine (H0.out _ _ HP.out).mono ?_
  rintro e w2 ⟨rfl, hp1⟩
  replace HP := Lib.hid hp1
  clear hp1 H0
  go_wp2_with fail
  refine (H1.out _ _ HP.out).mono ?_
  rintro e w3 ⟨rfl, hp1⟩
  replace HP := Lib.hid hp1
  clear hp1 H1
  go_wp2_with fail
  refine (H2.out _ _ HP.out).mono ?_
  rintro e w4 ⟨rfl, hp1⟩
  replace HP := Lib.hid hp1
  clear hp1 H2
  go_wp2_with fail
  refine (H3.out _ _ HP.out).mono ?_
  rintro e w5 ⟨rfl, hp1⟩
  replace HP := Lib.hid hp1
  clear hp1 H3
  go_wp2_with fail
  refine (H4.out _ _ HP.out).mono ?_
  rintro e w6 ⟨rfl, hp1⟩
  replace HP := Lib.hid hp1
  clear hp1 H4
  go_wp2_with fail
  refine (H5.out _ _ HP.out).mono ?_
  rintro e w7 ⟨rfl, hp1⟩
  replace HP := Lib.hid hp1
  clear hp1 H5
  go_wp2_with fail
  refine (H6.out _ _ HP.out).mono ?_
  rintro e w8 ⟨rfl, hp1⟩
  replace HP := Lib.hid hp1
  clear hp1 H6
  go_wp2_with fail
  refine (H7.out _ _ HP.out).mono ?_
  rintro e w9 ⟨rfl, hp1⟩
  replace HP := Lib.hid hp1
  clear hp1 H7
  go_wp2_with fail
  refine (H8.out _ _ HP.out).mono ?_
  rintro e w10 ⟨rfl, hp1⟩
  replace HP := Lib.hid hp1
  clear hp1 H8
  go_wp2_with fail
  refine (H9.out _ _ HP.out).mono ?_
  rintro e w11 ⟨rfl, hp1⟩
  replace HP := Lib.hid hp1
  clear hp1 H9
  go_wp2_with fail
  refine (H10.out _ _ HP.out).mono ?_
  rintro e w12 ⟨rfl, hp1⟩
  replace HP := Lib.hid hp1
  clear hp1 H10
  go_wp2_with fail
  refine (H11.out _ _ HP.out).mono ?_
  rintro e w13 ⟨rfl, hp1⟩
  replace HP := Lib.hid hp1
  clear hp1 H11
  go_wp2_with fail
  refine (H12.out _ _ HP.out).mono ?_
  rintro e w14 ⟨rfl, hp1⟩
  replace HP := Lib.hid hp1
  clear hp1 H12
  have HS0 := Lib.hid (SoS.new #[.int .u32 (x0 : Int), .int .u32 (x1 : Int), .int .u32 (x2 : Int), .int .u32 (x3 : Int), .int .u32 (x4 : Int), .int .u32 (x5 : Int), .int .u32 (x6 : Int), .int .u16 (x7 : Int), .int .u16 (x8 : Int), .int .u16 (x9 : Int), .int .u16 (x10 : Int), .string ⟨#[]⟩, .int .i64 (wrap64 (x11 : Int)), .int .i64 (wrap64 (x12 : Int))] HP.out)
  have HPS : Hid (parseS t = ⟨x0, x1, x2, x3, x4, x5, x6, x7, x8, x9, x10, t.extract 53 t.size, wrap64 (x11 : Int), wrap64 (x12 : Int)⟩) := HPS0
  clear HP HPS0
  have HSd := Lib.hid HS0.out.drew
  clear HS0
  go_wp2_with fail
  go_region_held3 (fun W' => W'.cell? ⟨w1.heap.size, 0, none⟩ = some (.func (.func 63) #[] #[.pointer (some ⟨w.heap.size + 1, 0, none⟩)])) (first | exact cell_of_one HSd.out.tk.take | assumption)
    (first | (go_at_call 63; (with_reducible refine (HB.out _ _ _ HSd.out).mono ?_); rintro e w16 ⟨rfl, hs16⟩; have hk16 := cell_of_one hs16.tk.take; replace hs16 := Lib.hid hs16))
  have HS16 := Lib.hid hs16.out
  clear HSd HB hs16 hk16
  have hps : (t.extract 53 t.size).size = t.size - 53 := by rw [ByteArray.size_extract]; omega
  have HC := Lib.hid (fun W => clone_any (t.extract 53 t.size) W (by omega))
  generalize t.extract 53 t.size = p at *
  by_cases hc : x13 = p.size
  rotate_left
  · have HX := Lib.hid (HN.out hc)
    have hne : ¬ (x13 : Int) = (p.size : Int) := by omega
    clear HN HY hps hc
    go_wp2_with (refine wpList_store_row rfl 25 (.tmp 2) (.tmp 56) rfl w.heap.size (cellsS zeroS) rfl rfl 25 (cellsS zeroS) HS16.out.tk.res HI.out rfl HE.out ?_)
    refine bodyPost_ret (results_row1 (P := Tryd.prog) rfl _ _ w.heap.size 25 (cellsS zeroS) (0, 0) _ rfl (setRow_at HS16.out.tk.res) Tryd.underlying25 rfl HI.out) rfl ⟨by rw [HX.out.1, HX.out.2]; rfl, below_setRow HS16.out.tk.below _ _ (Nat.le_refl _)⟩
  have HX := Lib.hid (HY.out hc)
  have heq : (x13 : Int) = (p.size : Int) := by omega
  clear HN HY hps hc
  generalize parseS t = ps at *
  have CR := Lib.hid (fun W => right_any9 ps W)
  have HI2 := Lib.hid (sizeS ps)
  have HE2 := Lib.hid (cellsS_one ps)
  have HZ : Hid ((cellsS zeroS).size = (cellsS ps).size) := Lib.hid rfl
  generalize rightS ps = rp at *
  go_wp2_with fail
  refine (HC.out _).mono ?_
  rintro e w17 ⟨rfl, hb17⟩
  have hs17 := HS16.out.later hb17
  have hc11 : w17.cell? ⟨w14.heap.size, 11, none⟩ = some (.string ⟨#[]⟩) := by rw [cell_in hs17.own]; rfl
  have hf11 : w17.frozen? ⟨w14.heap.size, 11, none⟩ = false := frozen_of_row hs17.own 11
  have HS17 := Lib.hid hs17
  clear hs17 hb17 HS16 HC heq
  go_wp2_with fail
  have HO : Hid ((w17.setCell ⟨w14.heap.size, 11, none⟩ (.string p)).heap[w14.heap.size]? = some (.cells (cellsS ps) 25 (0, 0))) := Lib.hid (by rw [HPS.out]; exact row_set9 HS17.out.own 11 (.string p))
  have hord := HS17.out.tk.o1
  have hord2 := HS17.out.tk.o2
  have hord3 := HS17.out.o3
  have hord4 := HS17.out.tk.o0
  have HR : Hid ((w17.setCell ⟨w14.heap.size, 11, none⟩ (.string p)).heap[w.heap.size]? = some (.cells (cellsS zeroS) 25 (0, 0))) := Lib.hid ((Below.heap_setCell _ _ _ w.heap.size (fun e => by have e2 : w.heap.size = w14.heap.size := e; omega)).trans HS17.out.tk.res)
  have HBL := Lib.hid (below_setCell9 HS17.out.tk.below w14.heap.size 11 (.string p) (by omega))
  have hne3 : w14.heap.size ≠ w.heap.size := by omega
  clear hord hord2 hord3 hord4 HS17 HPS hc11 hf11
  generalize w17.setCell ⟨w14.heap.size, 11, none⟩ (.string p) = w18 at *
  generalize w14.heap.size = n3 at *
  refine wp_region_noPanic ?_
  refine wp_region_held_drew (S := fun W' => W'.heap[n3]? = some (.cells (cellsS ps) 25 (0, 0))) (by kernel_rfl) ?_ (fun hHeld => ?_)
  · exact HO.out
  refine k7 0 _ (y := yieldsIf_load_mid (by rfl) 25 (.tmp 8) rfl _ 0 (by rfl) _ _ (fun W h => range_of_row h) Tryd.underlying25 rfl HI2.out) (h := ?_)
  try simp only [Act.put, List.setIfInBounds_toArray, List.set_cons_zero, List.set_cons_succ]
  refine k7 1 _ (y := yieldsIf_load_mid (by rfl) 25 (.tmp 8) rfl _ 0 (by rfl) _ _ (fun W h => range_of_row h) Tryd.underlying25 rfl HI2.out) (h := ?_)
  try simp only [Act.put, List.setIfInBounds_toArray, List.set_cons_zero, List.set_cons_succ]
  refine wpAnyH_ready (rs := [2]) (by kernel_rfl) (by simp) ?_
  refine AllReadyH.cons (by simp only [q9a, q9s, q9z]; rfl) (fun K hK => ?_) AllReadyH.nil
  go_simp
  refine (CR.out _).mono ?_
  rintro _ w19 ⟨rfl, hb19⟩
  have ho19 : w19.heap[n3]? = some (.cells (cellsS ps) 25 (0, 0)) := (hb19.block n3 (Array.getElem?_eq_some_iff.1 hHeld).1).trans hHeld
  have hr19 : w19.heap[w.heap.size]? = some (.cells (cellsS zeroS) 25 (0, 0)) := (hb19.block w.heap.size (Array.getElem?_eq_some_iff.1 HR.out).1).trans HR.out
  have hbl19 := HBL.out.drew.trans (hb19.mono HBL.out.size)
  refine hK.out _ _ ?_ (fun hHeld => ?_)
  · exact ho19
  clear hK K
  try simp only [Act.put, List.setIfInBounds_toArray, List.set_cons_zero, List.set_cons_succ]
  refine wpAnyH_ready (rs := [3]) (by kernel_rfl) (by simp) ?_
  refine AllReadyH.cons (by simp only [q9a, q9s, q9z]; rfl) (fun K hK => ?_) AllReadyH.nil
  rw [if_pos (by rfl)]
  refine wp_store_row 25 (.tmp 2) (.tmp 60) rfl w.heap.size (cellsS ps) (by rfl) (by rfl) 25 (cellsS zeroS) hr19 HI2.out HZ.out HE2.out ?_
  refine hK.out _ _ ?_ (fun hHeld => ?_)
  · exact (setRow_other w19 w.heap.size n3 (cellsS ps) hne3).trans ho19
  clear hK K
  try simp only [Act.put, List.setIfInBounds_toArray, List.set_cons_zero, List.set_cons_succ]
  refine k9 4 ?_ (y := ?_) (h := ?_)
  rotate_left 1
  · (intro w' hSw; (try dsimp only at hSw); go_simp; try with_reducible rfl)
  try simp only [Act.put, List.setIfInBounds_toArray, List.set_cons_zero, List.set_cons_succ]
  refine wpAnyH_done (by kernel_rfl) ?_ _
  refine NoPanic.normal ?_
  clear hHeld
  have HF := Lib.hid (setRow_at (cs := cellsS ps) hr19)
  have HBF := Lib.hid (below_setRow hbl19 w.heap.size (cellsS ps) (Nat.le_refl _))
  clear hr19 hbl19 ho19 hb19 HO HR HBL
  generalize w19.setRow w.heap.size (cellsS ps) = w20 at *
  go_wp2_with fail
  refine bodyPost_ret (results_row1 (P := Tryd.prog) rfl _ _ w.heap.size 25 (cellsS ps) (0, 0) _ rfl HF.out Tryd.underlying25 rfl HI2.out) rfl ⟨by rw [HX.out.1, HX.out.2]; rfl, HBF.out⟩
end Go.Proofs.YthfiebdpoleeeaaDoor
