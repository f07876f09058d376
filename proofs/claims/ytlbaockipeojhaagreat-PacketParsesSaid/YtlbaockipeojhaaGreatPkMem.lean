/-
  Packets in memory, and the small functions of package packet: contracts.
-/
import Derived.Test.YtlbaockipeojhaaGreatCkRows
import Derived.Test.YtlbaockipeojhaaGreatPkA
import Derived.Test.YtlbaockipeojhaaGreatTail
import Derived.BigQuiet
import Derived.BigRegion
namespace Go.Proofs.YtlbaockipeojhaaGreat
open Go.RowKit
set_option linter.unusedVariables false
set_option linter.unusedSimpArgs false
set_option maxRecDepth 100000

/-- The cells of a packet whose chunks lie in this slice. -/
abbrev cellsP (f t g : Nat) (v : Value) : Array Value := #[.int .u16 (f : Int), .int .u16 (t : Int), .int .u32 (g : Int), v]
/-- The slice v reads as these chunks, with all that they lead to. -/
structure Rk (w : World) (v : Value) (l : List Cv) : Prop where
  row : RowK w v l
  parts : ∀ x ∈ l, Parts w x.c x.g x.d x.it
theorem Rk.below {w w' : World} {v : Value} {l : List Cv} (h : Rk w v l) (hb : Below w.heap.size w w') : Rk w' v l := ⟨h.row.below hb, fun x hx => (h.parts x hx).below hb⟩
theorem Rk.nil (w : World) : Rk w (.slice none 0 0) [] := ⟨RowK.nil w, by simp⟩
theorem Rk.slice {w : World} {v : Value} {l : List Cv} (h : Rk w v l) : ∃ A cap, v = .slice A l.length cap ∧ l.length ≤ cap ∧ cap ≤ maxLen ∧ (0 < l.length → ∃ b off, A = some ⟨b, off, none⟩ ∧ b < w.heap.size ∧ ∀ j (h : j < l.length), w.rangeAt b (off + j * 14) l[j].cells.toList) := h.row
/-- What is asked of a chunk that is handed in. -/
structure FitC (c : Ck) : Prop where
  wf : WfC c
  gl : c.gaps.length ≤ 60000
  dl : c.dups.length ≤ 60000
  il : c.items.length ≤ 100000
  iv : ∀ x ∈ c.items, x.2.size ≤ 1000000
  tl : c.text.size ≤ 1000000
def typesV (l : List Cv) : List Int := l.map (·.c.type)
def ckV (l : List Cv) : List Ck := l.map (·.c)
theorem typesV_ck (l : List Cv) : (ckV l).map (·.type) = typesV l := by simp [ckV, typesV]
theorem typesV_length (l : List Cv) : (typesV l).length = l.length := by simp [typesV]
theorem typesV_at (l : List Cv) {i : Nat} (h : i < l.length) : (typesV l).getD i 0 = l[i].c.type := by
  unfold typesV
  rw [List.getD_eq_getElem?_getD, List.getElem?_map, List.getElem?_eq_getElem h]
  rfl
theorem typesV_take (l : List Cv) (k : Nat) : (typesV l).take k = typesV (l.take k) := by simp [typesV, List.map_take]
theorem pkSize : (Tryz.prog.info? 26).map (·.size) = some 4 := by kernel_rfl
set_option maxHeartbeats 1000000 in
theorem alone_any (k : Int) (w : World) : Calls Tryz.prog 12 #[.int .i64 k] w fun e w' => e = .returned (.bool (aloneB k)) ∧ w' = w := by
  unfold aloneB
  have e1 : (k == 1) = decide (k = 1) := by rw [Bool.eq_iff_iff, beq_iff_eq, decide_eq_true_eq]
  have e2 : (k == 2) = decide (k = 2) := by rw [Bool.eq_iff_iff, beq_iff_eq, decide_eq_true_eq]
  have e3 : (k == 14) = decide (k = 14) := by rw [Bool.eq_iff_iff, beq_iff_eq, decide_eq_true_eq]
  generalize decide (k = 1) = b1 at *
  generalize decide (k = 2) = b2 at *
  generalize decide (k = 14) = b3 at *
  cases b1 <;> cases b2 <;> cases b3
  all_goals
    go_enter Tryz.func12, Tryz.ntmps12
    go_wp2_with fail
    go_ret
    exact ⟨rfl, rfl⟩
set_option maxHeartbeats 1000000 in
theorem follows_any (a k : Int) (w : World) : Calls Tryz.prog 64 #[.int .i64 a, .int .i64 k] w fun e w' => e = .returned (.bool (followsB a k)) ∧ w' = w := by
  have HA := Lib.hid (fun W => alone_any a W)
  have HK := Lib.hid (fun W => alone_any k W)
  unfold followsB
  have e1 : (a != 0) = decide (a ≠ 0) := by rw [Bool.eq_iff_iff, bne_iff_ne, decide_eq_true_eq]
  have e2 : (k == 0) = decide (k = 0) := by rw [Bool.eq_iff_iff, beq_iff_eq, decide_eq_true_eq]
  generalize decide (a ≠ 0) = b1 at *
  generalize decide (k = 0) = b2 at *
  generalize aloneB a = x1 at *
  generalize aloneB k = x2 at *
  cases x1 <;> cases x2 <;> cases b1 <;> cases b2
  all_goals
    go_enter Tryz.func64, Tryz.ntmps64
    go_wp2_with fail
    refine (HA.out _).mono ?_
    rintro e w1 ⟨rfl, rfl⟩
    go_wp2_with fail
    try (refine (HK.out _).mono ?_; rintro e w1 ⟨rfl, rfl⟩; go_wp2_with fail)
    go_ret
    exact ⟨rfl, rfl⟩
/-- Two bytes, the higher first. -/
theorem ptwo_any (n : Nat) (hn : n < 65536) (w : World) : Calls Tryz.prog 42 #[.int .u16 (n : Int)] w fun e w' => e = .returned (.string (twoB n)) ∧ Below w.heap.size w w' := by
  have ht := twoB_text n hn w
  have h1 : (n : Int) / 256 % 256 = (n : Int) / 256 := by omega
  generalize twoB n = t at *
  go_enter Tryz.func42, Tryz.ntmps42
  go_wp2_with fail
  go_ret
  exact ⟨rfl, (Below.refl _ _).alloc (Nat.le_refl _) _⟩
end Go.Proofs.YtlbaockipeojhaaGreat
