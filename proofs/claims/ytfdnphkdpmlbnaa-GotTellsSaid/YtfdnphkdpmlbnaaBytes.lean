/-
  Rows of bytes that the call owns: as texts, from texts.
-/
import Derived.Test.YtfdnphkdpmlbnaaOwn
import Derived.Test.YtfdnphkdpmlbnaaText
import Derived.Laws.MakeOwn
namespace Go.Proofs.Ytfdnphkdpmlbnaa
open Go.RowKit
set_option linter.unusedVariables false

/-- The slice v owns the bytes l, in a block from B on. -/
def OwnB (w : World) (B : Nat) (v : Value) (l : List UInt8) : Prop := OwnG w B 5 1 v l.length (l.map enc8)
theorem enc8_one (l : List UInt8) : ∀ u ∈ l.map enc8, u.oneCell' = true := by
  intro u hu
  obtain ⟨b, _, rfl⟩ := List.mem_map.1 hu
  rfl
theorem strCells_enc8 (s : ByteArray) : Lib.strCells s = s.data.toList.map enc8 := by simp [Lib.strCells, enc8]
theorem OwnB.nil (w : World) (B : Nat) : OwnB w B (.slice none 0 0) [] := OwnG.nil _ _ _ _
theorem OwnB.of {w : World} {B n : Nat} {v : Value} {l : List UInt8} (h : w.ownsRow B 5 1 v n (l.map enc8)) : OwnB w B v l := by
  have hl : l.length = n := by have := h.1; simpa using this
  subst hl
  exact OwnG.of h
theorem OwnB.ofG {w : World} {B n : Nat} {v : Value} {xs : List Value} {l : List UInt8} (h : OwnG w B 5 1 v n xs) (e : xs = l.map enc8) : OwnB w B v l := by
  subst e
  have hl : l.length = n := by have := h.1; simpa using this
  subst hl
  exact h
theorem OwnB.made {w : World} {B : Nat} (hB : B ≤ w.heap.size) (cur : Array Value) (cap : Nat) (hc : cap ≤ maxLen) (hs : cur.size = cap) : OwnB (w.alloc (.cells cur 5)) B (.slice (some ⟨w.heap.size, 0, none⟩) 0 cap) [] :=
  OwnG.made hB _ 1 cur cap hc (by omega)
theorem OwnB.later {w w' : World} {B : Nat} {v : Value} {l : List UInt8} (h : OwnB w B v l) (hb : Below w.heap.size w w') : OwnB w' B v l := OwnG.later h hb
theorem OwnB.alloc {w : World} {B : Nat} {v : Value} {l : List UInt8} (h : OwnB w B v l) (o : Obj) : OwnB (w.alloc o) B v l := OwnG.alloc h o
theorem OwnB.base {w : World} {B B' : Nat} {v : Value} {l : List UInt8} (h : OwnB w B v l) (hB : B' ≤ B) : OwnB w B' v l := OwnG.base h hB
theorem OwnB.slice {w : World} {B : Nat} {v : Value} {l : List UInt8} (h : OwnB w B v l) : ∃ A cap, v = .slice A l.length cap ∧ l.length ≤ cap ∧ cap ≤ maxLen ∧ (0 < l.length → ∃ g, A = some ⟨g, 0, none⟩ ∧ B ≤ g ∧ g < w.heap.size) := OwnG.slice h
theorem OwnB.cell {w : World} {B g n cap : Nat} {l : List UInt8} (h : OwnB w B (.slice (some ⟨g, 0, none⟩) n cap) l) {j : Nat} {u : UInt8} (hu : l[j]? = some u) : w.cell? ⟨g, j, none⟩ = some (.int .u8 (u.toNat : Int)) := by
  obtain ⟨A, c, hv, _⟩ := h.slice
  cases hv
  exact OwnG.cells h j _ (by rw [List.getElem?_map, hu]; rfl)
/-- As a text. -/
theorem OwnB.text {w : World} {B : Nat} {v : Value} {l : List UInt8} (h : OwnB w B v l) : (convert 83 9 v).run Try.prog w = .ok (.string ⟨l.toArray⟩) w := by
  rcases h.2 with ⟨rfl, h0⟩ | ⟨g, cap, cur, fz, rfl, r⟩
  · have : l = [] := List.eq_nil_of_length_eq_zero h0
    subst this
    exact text_nil w
  · exact text_of w g 0 cap l fun j u hu => by rw [Nat.zero_add]; exact h.cell hu
/-- From a text. -/
theorem bytes_own {w : World} {B : Nat} (hB : B ≤ w.heap.size) (s : ByteArray) (hs : s.size ≤ maxLen) : OwnB (Lib.bytesWorld w 5 s) B (.slice (some ⟨w.heap.size, 0, none⟩) s.size (grownCap w s.size 0 5)) s.data.toList := by
  have hl : s.data.toList.length = s.size := by simp
  unfold OwnB
  rw [hl]
  refine ⟨by simp, .inr ⟨w.heap.size, _, _, _, rfl, hB, Lib.bytesWorld_at_new w _ s, grownCap_ge _ _ _ _, grownCap_le_maxLen _ _ _ _ hs, ?_, ?_, fun i hi => by simp; omega⟩⟩
  · have := grownCap_ge w s.size 0 5
    simp [Lib.bytesCells]
    omega
  · simp only [Lib.bytesCells, Array.toList_append, Nat.mul_one]
    rw [List.take_append_of_le_length (by simp), List.take_of_length_le (by simp)]
    simp [enc8]
theorem OwnB.fed {w : World} {B : Nat} {v : Value} {l : List UInt8} (h : OwnB w B v l) : Fed Try.prog w 1 v l.length (l.map enc8) := Fed.own h (enc8_one l)
theorem fed_text (w : World) (s : ByteArray) : Fed Try.prog w 1 (.string s) s.size (s.data.toList.map enc8) := by rw [← strCells_enc8]; exact Fed.text s
/-- A row that is not the call's own, of known bytes. -/
theorem fed_cells {w : World} {b off c : Nat} {l : List UInt8} (h : ∀ j u, l[j]? = some u → w.cell? ⟨b, off + j, none⟩ = some (.int .u8 (u.toNat : Int))) : Fed Try.prog w 1 (.slice (some ⟨b, off, none⟩) l.length c) l.length (l.map enc8) :=
  Fed.cells (by simp) (enc8_one l) fun j u hu => by
    rw [List.getElem?_map] at hu
    obtain ⟨x, hx, rfl⟩ := Option.map_eq_some_iff.1 hu
    rw [addr_plain]
    exact h j x hx
/-- Made with room, empty. -/
theorem make_bytes (w : World) (B : Nat) (hB : B ≤ w.heap.size) (c : Nat) (hc : c ≤ 140737488355328) :
    ∃ w', (Instr.makeSlice 83 (.int .i64 0) (.int .i64 (c : Int))).run Try.prog w = .ok (.slice (some ⟨w.heap.size, 0, none⟩) 0 c) w' ∧ OwnB w' B (.slice (some ⟨w.heap.size, 0, none⟩) 0 c) [] ∧ Below B w w' := by
  obtain ⟨i0, hi0, hz0, hz1, hz2⟩ := info_parts info8
  obtain ⟨w', h1, h2, h3⟩ := run_make_own (P := Try.prog) w B 83 5 i0 (.int .u8 0) 1 Try.underlying83 hi0 hz0 hz1 .i64 .i64 c (by rw [hz2]; omega) (by unfold maxLen; omega) hB
  exact ⟨w', h1, OwnB.of (l := []) h2, (Below.refl B w).grown h3 hB fun k hk => by cases hk⟩
theorem str_under : Try.prog.underlying 9 = some .string := Try.underlying9
theorem bytes_under : Try.prog.underlying 83 = some (.slice 5) := Try.underlying83
end Go.Proofs.Ytfdnphkdpmlbnaa
