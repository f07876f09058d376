/-
  Package sha: a Hash in memory; what Write makes of it.
-/
import Derived.Test.YthfiebdpoleeeaaDoorShaD
namespace Go.Proofs.YthfiebdpoleeeaaDoor
open Go.RowKit
set_option linter.unusedVariables false

/-! ### Plain -/
theorem regs_ext (l s : List UInt8) : ∀ k, 64 * k ≤ l.length → regs (l ++ s) k = regs l k
  | 0, _ => rfl
  | k + 1, h => by
    show behindBlock (regs (l ++ s) k) (words (l ++ s) (64 * k)) = behindBlock (regs l k) (words l (64 * k))
    rw [regs_ext l s k (by omega), ← words_cut (l ++ s) (64 * k) (by simp; omega), ← words_cut l (64 * k) (by omega), List.drop_append_of_le_length (by omega), List.take_append_of_le_length (by simp; omega)]
/-- The registers as a Hash holds them: noughts as long as there is no block. -/
def held (l : List UInt8) (k : Nat) : List UInt32 := if k = 0 then List.replicate 8 0 else regs l k
theorem held_length (l : List UInt8) (k : Nat) : (held l k).length = 8 := by
  unfold held
  split
  · simp
  · exact regs_length l k
theorem held_ext (l s : List UInt8) (k : Nat) (h : 64 * k ≤ l.length) : held (l ++ s) k = held l k := by
  unfold held
  rw [regs_ext l s k h]
/-- The cells of a Hash of k blocks. -/
def hashC (k : Nat) (R : List UInt32) (s : ByteArray) : Array Value := (Value.int .i64 (k : Int) :: (R.map enc32 ++ [.string s])).toArray
/-- Block a is a Hash of k blocks of L, with a rest. -/
def HashK (w : World) (a : Nat) (L : List UInt8) (k : Nat) (s : ByteArray) : Prop := w.heap[a]? = some (.cells (hashC k (held L k) s) 109 (0, 0))
/-- Block a is a Hash to which l was written. -/
def HashB (w : World) (a : Nat) (l : List UInt8) : Prop := HashK w a l (l.length / 64) ⟨(l.drop (64 * (l.length / 64))).toArray⟩
theorem HashK.keep {w w' : World} {a : Nat} {L : List UInt8} {k : Nat} {s : ByteArray} (h : HashK w a L k s) (e : w'.heap[a]? = w.heap[a]?) : HashK w' a L k s := e.trans h
theorem HashK.lt {w : World} {a : Nat} {L : List UInt8} {k : Nat} {s : ByteArray} (h : HashK w a L k s) : a < w.heap.size := (Array.getElem?_eq_some_iff.1 h).1
theorem HashK.cells {w : World} {a : Nat} {L : List UInt8} {k : Nat} {s : ByteArray} (h : HashK w a L k s) : ∃ x0 x1 x2 x3 x4 x5 x6 x7, held L k = [x0, x1, x2, x3, x4, x5, x6, x7] ∧
    w.cell? ⟨a, 0, none⟩ = some (.int .i64 (k : Int)) ∧ w.cell? ⟨a, 1, none⟩ = some (.int .u32 (x0.toNat : Int)) ∧ w.cell? ⟨a, 2, none⟩ = some (.int .u32 (x1.toNat : Int)) ∧ w.cell? ⟨a, 3, none⟩ = some (.int .u32 (x2.toNat : Int)) ∧ w.cell? ⟨a, 4, none⟩ = some (.int .u32 (x3.toNat : Int)) ∧
    w.cell? ⟨a, 5, none⟩ = some (.int .u32 (x4.toNat : Int)) ∧ w.cell? ⟨a, 6, none⟩ = some (.int .u32 (x5.toNat : Int)) ∧ w.cell? ⟨a, 7, none⟩ = some (.int .u32 (x6.toNat : Int)) ∧ w.cell? ⟨a, 8, none⟩ = some (.int .u32 (x7.toNat : Int)) ∧ w.cell? ⟨a, 9, none⟩ = some (.string s) := by
  obtain ⟨x0, x1, x2, x3, x4, x5, x6, x7, e⟩ := behind_list (held_length L k)
  unfold HashK at h
  rw [e] at h
  refine ⟨x0, x1, x2, x3, x4, x5, x6, x7, e, ?_, ?_, ?_, ?_, ?_, ?_, ?_, ?_, ?_, ?_⟩ <;> exact cell_of_row w a _ _ _ _ h
theorem HashK.free {w : World} {a : Nat} {L : List UInt8} {k : Nat} {s : ByteArray} (h : HashK w a L k s) (i : Nat) : w.frozen? ⟨a, i, none⟩ = false := Go.frozen_of_row w a i _ _ h
theorem regsM_any (a : Nat) (L : List UInt8) (k : Nat) (s : ByteArray) (w : World) (h : HashK w a L k s) :
    Calls Tryd.prog 72 #[.pointer (some ⟨a, 0, none⟩)] w fun e w' => e = .returned (.agg (rowW (regs L k))) ∧ Below w.heap.size w w' := by
  obtain ⟨x0, x1, x2, x3, x4, x5, x6, x7, e, c0, c1, c2, c3, c4, c5, c6, c7, c8, c9⟩ := h.cells
  have hlt := h.lt
  have HE := Lib.hid e
  have HS8 := Lib.hid size8
  clear e
  by_cases hk : k = 0
  · subst hk
    go_enter Tryd.func72, Tryd.ntmps72
    go_wp2_with fail
    obtain ⟨w1, h1⟩ : ∃ w1, w1 = w.alloc (Obj.cells (rowW [0, 0, 0, 0, 0, 0, 0, 0]) 107) := ⟨_, rfl⟩
    have h1' : w1 = w.alloc (Obj.cells #[Value.int IntKind.u32 0, Value.int IntKind.u32 0, Value.int IntKind.u32 0, Value.int IntKind.u32 0, Value.int IntKind.u32 0, Value.int IntKind.u32 0, Value.int IntKind.u32 0, Value.int IntKind.u32 0] 107) := h1
    rw [← h1']
    have HB1 := Lib.hid (show Below w.heap.size w w1 by subst h1; exact (Below.refl _ _).alloc (Nat.le_refl _) _)
    have HV1 := Lib.hid (show w1.heap[w.heap.size]? = some (.cells (rowW [0, 0, 0, 0, 0, 0, 0, 0]) 107 (0, 0)) by subst h1; exact heap_alloc_new w _)
    have HS1 := Lib.hid (show w.heap.size < w1.heap.size by subst h1; simp)
    clear h1 h1'
    refine (start_any w1).mono ?_
    rintro e w2 ⟨rfl, hb2⟩
    have HV2 := Lib.hid ((hb2.block _ HS1.out).trans HV1.out)
    have HB2 := Lib.hid (HB1.out.trans (hb2.mono HB1.out.size))
    have HO := Lib.hid (rowW_one regs0)
    clear hb2
    go_wp2_with (refine wpList_store_row rfl 107 (.tmp 2) (.tmp 8) rfl w.heap.size (rowW regs0) rfl rfl 107 (rowW [0, 0, 0, 0, 0, 0, 0, 0]) HV2.out HS8.out rfl HO.out ?_)
    exact bodyPost_ret (v := .agg (rowW regs0)) (results_cell_row (P := Tryd.prog) rfl _ _ w.heap.size 107 (rowW regs0) (0, 0) _ rfl (setRow_heap _ _ _ _ _ _ HV2.out) Tryd.underlying107 rfl HS8.out) rfl ⟨rfl, setRow_below HB2.out (Nat.le_refl _) _⟩
  · have hk1 : ((k : Int) == 0) = false := by simp; omega
    have HR := Lib.hid (show regs L k = [x0, x1, x2, x3, x4, x5, x6, x7] by rw [← HE.out]; unfold held; rw [if_neg hk])
    go_enter Tryd.func72, Tryd.ntmps72
    go_wp2_with fail
    exact bodyPost_ret (v := .agg (rowW [x0, x1, x2, x3, x4, x5, x6, x7])) (results_cell_row (P := Tryd.prog) rfl _ _ w.heap.size 107 (rowW [x0, x1, x2, x3, x4, x5, x6, x7]) (0, 0) _ rfl (heap_alloc_new w _) Tryd.underlying107 rfl HS8.out) rfl ⟨by rw [HR.out], (Below.refl _ _).alloc (Nat.le_refl _) _⟩

/-! ### Write -/
theorem hashC_word (k : Nat) (R : List UInt32) (s : ByteArray) (j : Nat) (x : UInt32) (h : j < R.length) : (hashC k R s).setIfInBounds (j + 1) (.int .u32 (x.toNat : Int)) = hashC k (R.set j x) s := by
  unfold hashC
  simp [h, List.map_set, enc32]
theorem hashC_count (k k' : Nat) (R : List UInt32) (s : ByteArray) : (hashC k R s).setIfInBounds 0 (.int .i64 (k' : Int)) = hashC k' R s := by
  unfold hashC
  simp
theorem hashC_rest (k : Nat) (R : List UInt32) (s s' : ByteArray) (h : R.length = 8) : (hashC k R s).setIfInBounds 9 (.string s') = hashC k R s' := by
  unfold hashC
  simp [h]
/-- A word put into a Hash. -/
theorem put_word {w : World} {a : Nat} {k : Nat} {R : List UInt32} {s : ByteArray} (h : w.heap[a]? = some (.cells (hashC k R s) 109 (0, 0))) (j : Nat) (x : UInt32) (hj : j < R.length) :
    (w.setCell ⟨a, j + 1, none⟩ (.int .u32 (x.toNat : Int))).heap[a]? = some (.cells (hashC k (R.set j x) s) 109 (0, 0)) := by
  rw [heap_setCell_same w a (j + 1) _ _ _ h, hashC_word k R s j x hj]
/-- Eight words put into a Hash, cell by cell, and how many blocks there were. -/
theorem HashK.put {w : World} {a : Nat} {L : List UInt8} {k k' : Nat} {s : ByteArray} (h : HashK w a L k s) {x0 x1 x2 x3 x4 x5 x6 x7 : UInt32} (e : held L k' = [x0, x1, x2, x3, x4, x5, x6, x7]) :
    HashK ((((((((((w.setCell ⟨a, 1, none⟩ (.int .u32 (x0.toNat : Int))).setCell ⟨a, 2, none⟩ (.int .u32 (x1.toNat : Int))).setCell ⟨a, 3, none⟩ (.int .u32 (x2.toNat : Int))).setCell ⟨a, 4, none⟩ (.int .u32 (x3.toNat : Int))).setCell ⟨a, 5, none⟩ (.int .u32 (x4.toNat : Int))).setCell ⟨a, 6, none⟩ (.int .u32 (x5.toNat : Int))).setCell ⟨a, 7, none⟩ (.int .u32 (x6.toNat : Int))).setCell ⟨a, 8, none⟩ (.int .u32 (x7.toNat : Int)))).setCell ⟨a, 0, none⟩ (.int .i64 (k' : Int))) a L k' s := by
  obtain ⟨y0, y1, y2, y3, y4, y5, y6, y7, e'⟩ := behind_list (held_length L k)
  unfold HashK at h ⊢
  rw [e'] at h
  rw [e]
  have h1 := put_word h 0 x0 (by simp)
  have h2 := put_word h1 1 x1 (by simp)
  have h3 := put_word h2 2 x2 (by simp)
  have h4 := put_word h3 3 x3 (by simp)
  have h5 := put_word h4 4 x4 (by simp)
  have h6 := put_word h5 5 x5 (by simp)
  have h7 := put_word h6 6 x6 (by simp)
  have h8 := put_word h7 7 x7 (by simp)
  have h9 := heap_setCell_same _ a 0 _ _ (.int .i64 (k' : Int)) h8
  rw [hashC_count] at h9
  simpa using h9
theorem HashK.rest {w : World} {a : Nat} {L : List UInt8} {k : Nat} {s : ByteArray} (h : HashK w a L k s) (s' : ByteArray) : HashK (w.setCell ⟨a, 9, none⟩ (.string s')) a L k s' := by
  unfold HashK at h ⊢
  rw [heap_setCell_same w a 9 _ _ _ h, hashC_rest _ _ _ _ (held_length L k)]
theorem grown_setCell {w w' : World} {a i : Nat} {v : Value} (h : w.grownBy w' (some a)) : w.grownBy (w'.setCell ⟨a, i, none⟩ v) (some a) :=
  ⟨h.os, h.tape, h.output, by simpa using h.size, fun k hk hne => (heap_setCell_other w' ⟨a, i, none⟩ k v (fun e => hne (by rw [e]))).trans (h.block k hk hne)⟩
theorem grown_below {w w' w'' : World} {a : Option Nat} (h : w.grownBy w' a) (hb : Below w'.heap.size w' w'') : w.grownBy w'' a :=
  ⟨hb.os.trans h.os, hb.tape.trans h.tape, hb.output.trans h.output, Nat.le_trans h.size hb.size, fun k hk hne => (hb.block k (Nat.lt_of_lt_of_le hk h.size)).trans (h.block k hk hne)⟩
theorem grown_of_below {w w' : World} (a : Option Nat) (hb : Below w.heap.size w w') : w.grownBy w' a := ⟨hb.os, hb.tape, hb.output, hb.size, fun k hk _ => hb.block k hk⟩
theorem Kub.grown {w w' : World} {a : Nat} (h : Kub w) (hg : w.grownBy w' (some a)) (ha : 0 < a) : Kub w' :=
  ⟨Nat.lt_of_lt_of_le h.1 hg.size, fun j hj => (World.cell?_of_block (w := w) (hg.block _ h.1 (by intro e; have e' : 0 = a := Option.some.inj e; omega))).trans (h.2 j hj)⟩
end Go.Proofs.YthfiebdpoleeeaaDoor
