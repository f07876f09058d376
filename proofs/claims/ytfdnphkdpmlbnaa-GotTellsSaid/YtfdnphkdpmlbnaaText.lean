/-
  A row of bytes as a text, and a text as a row of bytes: conversions, whatever bytes.
-/
import Derived.Test.YtfdnphkdpmlbnaaProg
import Derived.WalkKit
import Derived.Below
import Derived.Deep.Draws
import Derived.Laws.BytesString
import Derived.Lib.ConvBytes
import Derived.Laws.Rows
import Derived.Laws.OwnMore
import Derived.OwnWalk
namespace Go.Proofs.Ytfdnphkdpmlbnaa
open Go.RowKit
set_option linter.unusedVariables false

theorem fold_push (l : List UInt8) (acc : ByteArray) : (l.map fun b => (b.toNat : Int)).foldl (fun r n => r.push (UInt8.ofNat n.toNat)) acc = ⟨(acc.data.toList ++ l).toArray⟩ := by
  induction l generalizing acc with
  | nil => simp
  | cons b l ih =>
    rw [List.map_cons, List.foldl_cons, ih]
    have e : UInt8.ofNat ((b.toNat : Int)).toNat = b := by simp
    rw [e]
    congr 1
    rw [ByteArray.data_push, Array.toList_push, List.append_assoc]
    rfl
/-- A row of bytes of known cells, as a text. -/
theorem text_of (w : World) (b off cap : Nat) (l : List UInt8) (h : ∀ j u, l[j]? = some u → w.cell? ⟨b, off + j, none⟩ = some (.int .u8 (u.toNat : Int))) :
    (convert 83 9 (.slice (some ⟨b, off, none⟩) l.length cap)).run Try.prog w = .ok (.string ⟨l.toArray⟩) w := by
  rw [run_convert_bytes_string _ _ _ 5 _ _ _ Try.underlying83 Try.underlying5 Try.underlying9]
  rw [run_bytesToString _ _ _ _ (l.map fun u => (u.toNat : Int)), fold_push]
  · rfl
  · have := run_loadCells_list (P := Try.prog) w ⟨b, off, none⟩ ((l.map fun u => (u.toNat : Int)).map (Value.int .u8)) (fun j v hv => by
      have hadd : (⟨b, off, none⟩ : Addr).add j = ⟨b, off + j, none⟩ := by unfold Addr.add; split <;> simp_all
      rw [hadd]
      simp only [List.getElem?_map, Option.map_eq_some_iff] at hv
      obtain ⟨z, ⟨u, hu, rfl⟩, rfl⟩ := hv
      exact h j u hu)
    simpa using this
theorem text_nil (w : World) : (convert 83 9 (.slice none 0 0)).run Try.prog w = .ok (.string ⟨#[]⟩) w := by
  rw [run_convert_bytes_string _ _ _ 5 _ _ _ Try.underlying83 Try.underlying5 Try.underlying9]
  rfl

/-- A text as a row of bytes. -/
theorem bytes_of (w : World) (s : ByteArray) : (convert 9 83 (.string s)).run Try.prog w = .ok (.slice (some ⟨w.heap.size, 0, none⟩) s.size (grownCap w s.size 0 5)) (Lib.bytesWorld w 5 s) :=
  Lib.run_convert_string_bytes w _ _ _ s Try.underlying9 Try.underlying83 Try.underlying5
theorem bytes_below {B : Nat} {a w : World} (h : Below B a w) (hB : B ≤ w.heap.size) (e : TypeId) (s : ByteArray) : Below B a (Lib.bytesWorld w e s) :=
  ⟨h.os, h.tape, h.output, by rw [Lib.bytesWorld_size]; have := h.size; omega, fun k hk => (Lib.bytesWorld_at_old w e s k (by omega)).trans (h.block k hk)⟩
theorem bytes_cell (w : World) (e : TypeId) (s : ByteArray) {j : Nat} {u : UInt8} (hu : s.data.toList[j]? = some u) : (Lib.bytesWorld w e s).cell? ⟨w.heap.size, j, none⟩ = some (.int .u8 (u.toNat : Int)) := by
  have hj : j < s.size := by have := (List.getElem?_eq_some_iff.1 hu).1; simpa using this
  rw [Lib.bytesWorld_cell w e s j hj, List.getD_eq_getElem?_getD, hu]
  rfl
theorem bytes_free (w : World) (e : TypeId) (s : ByteArray) {j : Nat} (hj : j < s.size) : (Lib.bytesWorld w e s).frozen? ⟨w.heap.size, j, none⟩ = false := by
  have hsz : s.size ≤ (Lib.bytesCells w e s).size := by simp [Lib.bytesCells]
  simp [World.frozen?, Lib.bytesWorld_at_new]
  omega
/-- One cell of the row set, and what reads it then. -/
theorem set_cells {w : World} {b : Nat} {l : List UInt8} {i : Nat} (hi : i < l.length) (x : UInt8) (h : ∀ j u, l[j]? = some u → w.cell? ⟨b, 0 + j, none⟩ = some (.int .u8 (u.toNat : Int))) :
    ∀ j u, (l.set i x)[j]? = some u → (w.setCell ⟨b, i, none⟩ (.int .u8 (x.toNat : Int))).cell? ⟨b, 0 + j, none⟩ = some (.int .u8 (u.toNat : Int)) := by
  intro j u hu
  rw [Nat.zero_add]
  by_cases hj : i = j
  · subst hj
    rw [List.getElem?_set_self hi] at hu
    obtain rfl := Option.some.inj hu
    have h0 := h i l[i] (List.getElem?_eq_getElem hi)
    rw [Nat.zero_add] at h0
    exact World.cell?_setCell_same _ _ _ h0
  · rw [List.getElem?_set_ne hj] at hu
    have h0 := h j u hu
    rw [Nat.zero_add] at h0
    rw [World.cell?_setCell_other _ _ _ _ (by intro e; injection e; omega)]
    exact h0
/-- A byte as a cell. -/
def enc8 (b : UInt8) : Value := .int .u8 (b.toNat : Int)
theorem info8 : (Try.prog.info? 5).map (fun i => (i.zero, i.size, i.bytes)) = some (some (.int .u8 0), 1, 1) := by kernel_rfl
/-- What the call owns, as a text. -/
theorem text_own {w : World} {base n : Nat} {e : TypeId} {v : Value} {l : List UInt8} (h : w.ownsRow base e 1 v n (l.map enc8)) :
    (convert 83 9 v).run Try.prog w = .ok (.string ⟨l.toArray⟩) w := by
  have hl : l.length = n := by have := h.1; simpa using this
  subst hl
  rcases h.2 with ⟨rfl, h0⟩ | ⟨g, cap, cur, rfl, hb, hh, h1, h2, _⟩
  · have : l = [] := List.eq_nil_of_length_eq_zero h0
    subst this
    exact text_nil w
  · exact text_of w g 0 cap l fun j u hu => by
      have hj := (List.getElem?_eq_some_iff.1 hu).1
      rw [Nat.zero_add, h.cellAt j (by simpa using hj), List.getElem?_map, hu]
      rfl
end Go.Proofs.Ytfdnphkdpmlbnaa
