/-
  serial.Sorted: what it returns, whatever the list.
-/
import Derived.Test.YtfdnphkdpmlbnaaShelf
import Derived.Test.YtfdnphkdpmlbnaaScal
import Derived.Test.YtfdnphkdpmlbnaaList
import Derived.Test.YtfdnphkdpmlbnaaMem
import Derived.Laws.CopyOwn
import Derived.Laws.MakeOwn
import Derived.Deep.OwnRows
namespace Go.Proofs.Ytfdnphkdpmlbnaa
open Go.RowKit Go.Sort Go.Lib Go.Proofs.Try

theorem enc32_one : OneCell enc32 := fun _ => rfl
theorem info22 : (Try.prog.info? 22).map (fun i => (i.zero, i.size, i.bytes)) = some (some (.int .u32 0), 1, 4) := by kernel_rfl

theorem isNaN_any (a : Int) (w : World) : Calls Try.prog 89 #[.int .u32 a] w fun e w' => e = .returned (.bool false) ∧ w = w' := by
  go_enter Try.func89, Try.ntmps89
  go_wp2
  go_ret
  exact ⟨by simp, rfl⟩
theorem cmp_any (a b : Int) (w : World) : Calls Try.prog 74 #[.int .u32 a, .int .u32 b] w fun e w' => e = .returned (.int .i64 (Lib.compareInt a b)) ∧ w = w' := by
  unfold Lib.compareInt
  by_cases h1 : a < b
  · go_enter Try.func74, Try.ntmps74
    go_wp2_with (go_at_call 89; refine (isNaN_any _ _).mono ?_; rintro e w' ⟨rfl, rfl⟩)
    go_ret
    exact ⟨by simp, rfl⟩
  · by_cases h2 : b < a
    · go_enter Try.func74, Try.ntmps74
      go_wp2_with (go_at_call 89; refine (isNaN_any _ _).mono ?_; rintro e w' ⟨rfl, rfl⟩)
      go_ret
      exact ⟨by simp, rfl⟩
    · go_enter Try.func74, Try.ntmps74
      go_wp2_with (go_at_call 89; refine (isNaN_any _ _).mono ?_; rintro e w' ⟨rfl, rfl⟩)
      go_ret
      exact ⟨by simp, rfl⟩

/-- How two numbers stand, by how far they are above f. -/
def cfu (f x y : UInt32) : Int := Lib.compareInt ((x - f).toNat : Int) ((y - f).toNat : Int)
theorem sub_toNat (x f : UInt32) : ((x.toNat : Int) - (f.toNat : Int)) % 4294967296 = ((x - f).toNat : Int) := by
  rw [UInt32.toNat_sub]
  have := x.toNat_lt; have := f.toNat_lt
  omega
theorem closure_any (f x y : UInt32) (B : Nat) (w : World) (hc : w.cell? ⟨B, 0, none⟩ = some (enc32 f)) :
    Calls Try.prog 73 #[enc32 x, enc32 y, .pointer (some ⟨B, 0, none⟩)] w fun e w' => e = .returned (.int .i64 (cfu f x y)) ∧ w = w' := by
  have h1 := x.toNat_lt; have h2 := y.toNat_lt; have h3 := f.toNat_lt
  have s1 := Lib.hid (sub_toNat x f); have s2 := Lib.hid (sub_toNat y f)
  unfold enc32 at hc ⊢
  unfold cfu
  go_enter Try.func73, Try.ntmps73
  go_wp2_with (go_at_call 74; refine (cmp_any _ _ _).mono ?_; rintro e w' ⟨rfl, rfl⟩)
  go_ret
  exact ⟨by rw [← s1.out, ← s2.out]; rfl, rfl⟩

theorem enc32_cells (x : UInt32) : (enc32 x).oneCell' = true := rfl
theorem lt_cfu (f x y : UInt32) : ltOf (cfu f) x y = decide (x - f < y - f) := by
  unfold ltOf cfu Lib.compareInt
  rw [decide_eq_decide, UInt32.lt_iff_toNat_lt]
  by_cases h1 : ((x - f).toNat : Int) < ((y - f).toNat : Int)
  · simp [h1]; omega
  · by_cases h2 : ((x - f).toNat : Int) > ((y - f).toNat : Int)
    · simp [h1, h2]; omega
    · simp [h1, h2]; omega
theorem swo_cfu (f : UInt32) : SWO (ltOf (cfu f)) where
  irrefl x := by rw [lt_cfu]; simp
  trans x y z h1 h2 := by rw [lt_cfu] at *; simp only [decide_eq_true_eq, UInt32.lt_iff_toNat_lt] at *; omega
  ntrans x y z h1 h2 := by rw [lt_cfu] at *; simp only [decide_eq_false_iff_not, UInt32.lt_iff_toNat_lt] at *; omega
theorem tot_cfu (f x y : UInt32) (h1 : ltOf (cfu f) x y = false) (h2 : ltOf (cfu f) y x = false) : x = y := by
  rw [lt_cfu] at *; simp only [decide_eq_false_iff_not, UInt32.lt_iff_toNat_lt] at *
  exact sub_inj (f := f) (UInt32.toNat_inj.1 (by omega))

/-- What the library's sort makes of the list. -/
def lsort (f : UInt32) (l : List UInt32) : List UInt32 := l.mergeSort fun x y => !(ltOf (cfu f)) y x
theorem length_lsort (f : UInt32) (l : List UInt32) : (lsort f l).length = l.length := List.length_mergeSort _
theorem mem_lsort (f : UInt32) (l : List UInt32) (z : UInt32) : z ∈ lsort f l ↔ z ∈ l := (List.mergeSort_perm l _).mem_iff
theorem sorted_lsort (f : UInt32) (l : List UInt32) : (lsort f l).Pairwise fun x y => x - f ≤ y - f := by
  have h := List.pairwise_mergeSort (le := fun x y => !(ltOf (cfu f)) y x) (fun a b c h1 h2 => by
      rw [lt_cfu] at *; simp only [Bool.not_eq_true', decide_eq_false_iff_not, UInt32.lt_iff_toNat_lt] at *; omega)
    (fun a b => by
      rw [lt_cfu, lt_cfu]
      by_cases h : b - f < a - f
      · have h' : ¬ a - f < b - f := by rw [UInt32.lt_iff_toNat_lt] at *; omega
        simp [h']
      · simp [h]) l
  refine List.Pairwise.imp ?_ h
  intro x y hxy
  rw [lt_cfu] at hxy
  simp only [Bool.not_eq_true', decide_eq_false_iff_not, UInt32.lt_iff_toNat_lt] at hxy
  rw [UInt32.le_iff_toNat_le]; omega
theorem compact_lsort (f : UInt32) (l : List UInt32) : Lib.compactUpTo (lsort f l).toArray (lsort f l).toArray.size = srt f l := by
  rw [compact_srt f]
  · exact srt_congr f _ _ fun z => by simpa using mem_lsort f l z
  · intro i j hij hj
    have hj' : j < (lsort f l).length := by simpa using hj
    have h := List.pairwise_iff_getElem.1 (sorted_lsort f l) i j (by omega) hj' hij
    rw [getElem!_pos _ i (by simp; omega), getElem!_pos _ j (by simpa using hj')]
    simpa using h

theorem eql22 : EqlAt Try.prog 22 enc32 (fun x y => decide (x = y)) := ⟨fun x y w => by
  have h := (EqlAt.int Try.prog 22 .u32).1 (x.toNat : Int) (y.toNat : Int) w
  unfold enc32
  rw [h]
  by_cases e : x = y
  · subst e; simp
  · have : ¬ (x.toNat : Int) = (y.toNat : Int) := fun h => e (UInt32.toNat_inj.1 (by omega))
    simp [e, this], fun op a b x y w => (EqlAt.int Try.prog 22 .u32).2 op a b _ _ w⟩
theorem neq22 : NeqAt Try.prog 22 enc32 (fun x y => decide (x = y)) := ⟨fun x y w => by
  have h := (NeqAt.int Try.prog 22 .u32).1 (x.toNat : Int) (y.toNat : Int) w
  unfold enc32
  rw [h]
  by_cases e : x = y
  · subst e; simp
  · have : ¬ (x.toNat : Int) = (y.toNat : Int) := fun h => e (UInt32.toNat_inj.1 (by omega))
    simp [e, this], fun op a b x y w => (NeqAt.int Try.prog 22 .u32).2 op a b _ _ w⟩

/-- The copy of the list: a block of the call's own that holds it, whatever the source (nil too). -/
theorem copied (f : UInt32) (l : List UInt32) (A : Option Addr) (cap : Nat) (w : World) (hv : RowE enc32 w (.slice A l.length cap) l) :
    ∃ w3, Sem.run Try.prog (Builtin.copy_ #[23, 23] 3 #[.slice (some ⟨w.heap.size + 1, 0, none⟩) l.length l.length, .slice A l.length cap]) ((w.alloc (Obj.cells #[.int .u32 (f.toNat : Int)] 22)).alloc (Obj.cells (madeCells #[.int .u32 0] l.length) 22)) = .ok (goInt l.length) w3 ∧
      Holds enc32 w3 (w.heap.size + 1) 0 l.toArray ∧ w3.heap.size = w.heap.size + 2 ∧ Below w.heap.size w w3 ∧ w3.cell? ⟨w.heap.size, 0, none⟩ = some (enc32 f) := by
  have hs : (Try.prog.info? 22).map (·.size) = some 1 := by kernel_rfl
  generalize hw1 : w.alloc (Obj.cells #[.int .u32 (f.toNat : Int)] 22) = w1
  have hs1 : w1.heap.size = w.heap.size + 1 := by rw [← hw1]; simp
  have hb1 : Below w.heap.size w w1 := by rw [← hw1]; exact (Below.refl _ _).alloc (Nat.le_refl _) _
  have hc1 : w1.cell? ⟨w.heap.size, 0, none⟩ = some (enc32 f) := by
    rw [← hw1, cell_of_row _ w.heap.size 0 _ _ (0, 0) (heap_alloc_new w _)]; rfl
  generalize hw2 : w1.alloc (Obj.cells (madeCells #[.int .u32 0] l.length) 22) = w2
  have hs2 : w2.heap.size = w.heap.size + 2 := by rw [← hw2]; simp [hs1]
  have hb2 : Below w1.heap.size w1 w2 := by rw [← hw2]; exact (Below.refl _ _).alloc (Nat.le_refl _) _
  have hg : w2.heap[w.heap.size + 1]? = some (.cells (madeCells #[.int .u32 0] l.length) 22 (0, 0)) := by rw [← hw2, ← hs1]; exact heap_alloc_new w1 _
  have hc2 : w2.cell? ⟨w.heap.size, 0, none⟩ = some (enc32 f) := (hb2.cell (p := ⟨w.heap.size, 0, none⟩) (by rw [hs1]; exact Nat.lt_succ_self _)).trans hc1
  have hbb : Below w.heap.size w w2 := hb1.trans (hb2.mono (by omega))
  by_cases h0 : l.length = 0
  · have hl : l = [] := List.eq_nil_of_length_eq_zero h0
    subst hl
    refine ⟨w2, run_copy_none w2 _ _ _ _ _ _ _ _ _ _ Try.underlying23 hs rfl, fun j hj => absurd hj (Nat.not_lt_zero _), hs2, hbb, hc2⟩
  · obtain ⟨A', cap', hA, _, _, hcells⟩ := hv
    obtain ⟨b, off, hA2, hb, hc⟩ := hcells (by omega)
    cases hA
    subst hA2
    have hsrc : ∀ j v, (l.map enc32)[j]? = some v → w2.cell? ((⟨b, off, none⟩ : Addr).add j) = some v := by
      intro j v hj
      have hjl : j < l.length := by have := (List.getElem?_eq_some_iff.1 hj).1; simpa using this
      have e1 : w2.cell? ⟨b, off + j, none⟩ = some (enc32 l[j]!) := (hbb.cell (p := ⟨b, off + j, none⟩) hb).trans (hc j hjl)
      rw [addr_plain, e1, ← hj, List.getElem?_map, List.getElem?_eq_getElem hjl, getElem!_pos l j hjl]
      rfl
    have hrun := run_copy_row (P := Try.prog) w2 23 23 3 22 (w.heap.size + 1) 0 l.length l.length ⟨b, off, none⟩ l.length cap _ 22 (l.map enc32) Try.underlying23 hs hg (by simp) hsrc (by simp [size_madeCells]) (by intro v hv; obtain ⟨x, _, rfl⟩ := List.mem_map.1 hv; rfl)
    rw [List.length_map] at hrun
    refine ⟨_, hrun, ?_, by simpa [World.setRow] using hs2, hbb.trans ⟨rfl, rfl, rfl, by simp [World.setRow], fun k hk => setRow_other w2 _ k _ (by omega)⟩, ?_⟩
    · intro j hj
      have hjl : j < l.length := by simpa using hj
      have hr := setRow_heap w2 (w.heap.size + 1) _ ((madeCells #[.int .u32 0] l.length).toList.take 0 ++ l.map enc32 ++ (madeCells #[.int .u32 0] l.length).toList.drop (0 + l.length)).toArray 22 (0, 0) hg
      refine ⟨?_, frozen_of_row hr _⟩
      rw [cell_of_row _ (w.heap.size + 1) (0 + j) _ _ (0, 0) hr]
      have hz : (madeCells #[.int .u32 0] l.length).toList.drop (0 + l.length) = [] := by apply List.drop_eq_nil_of_le; simp [size_madeCells]
      rw [hz]
      simp [hjl]
    · rw [World.cell?_of_block (setRow_other w2 _ _ _ (by show w.heap.size ≠ _; omega))]
      exact hc2

set_option maxHeartbeats 1000000 in
set_option maxRecDepth 100000 in
/-- The list sorted by how far each is above f, each number once: in a slice of the call's own. -/
theorem sorted_any (f : UInt32) (l : List UInt32) (v : Value) (w : World) (hv : RowE enc32 w v l) (hsz : l.length < 1099511627776) :
    Calls Try.prog 54 #[v, enc32 f] w fun e w' => ∃ v', e = .returned v' ∧ RowE enc32 w' v' (srt f l) ∧ Below w.heap.size w w' := by
  have hv0 := hv
  obtain ⟨A, cap, rfl, hcap, hmax, _⟩ := hv
  obtain ⟨w3, hcp, hH3, hs3, hb3, hc3⟩ := copied f l A cap w hv0
  have hf := f.toNat_lt
  have hle := length_srt_le f l
  -- the sort
  have eg : ∀ args w, (callFunc 73 args).run Try.prog w = .ok (.enter 73 args) w := enters_of Try.func73 (by kernel_rfl) rfl
  have hread : CmpReads Try.prog 73 #[.pointer (some ⟨w.heap.size, 0, none⟩)] enc32 (cfu f) (w.heap.size + 1) 0 l.toArray.size w3 := by
    intro m os dk hdk x y
    have hcell : (sortWorld enc32 w3 (w.heap.size + 1) 0 m dk os).cell? ⟨w.heap.size, 0, none⟩ = some (enc32 f) := by
      unfold sortWorld
      rw [cell?_grow _ _ _ (by show w.heap.size < _; simp [Sort.putRow, Sort.mapBlock, Sort.ahead, hs3]), cell?_putRow_other _ _ _ _ _ _ (.inl (by show w.heap.size ≠ _; omega))]
      exact hc3
    exact (closure_any f x y w.heap.size _ hcell).mono fun e w' ⟨he, hw⟩ => ⟨he, 0, hw.symm⟩
  have hS := slices_SortFunc_total enc32 enc32_one (cfu f) (swo_cfu f) 73 #[.pointer (some ⟨w.heap.size, 0, none⟩)] (w.heap.size + 1) 0 l.length l.toArray w3 eg hread.lays hH3 (by omega) (by simp; omega) (fun x y => tot_cfu f x y)
  rw [show l.toArray.size = l.length from by simp, show l.toArray.toList = l from by simp] at hS
  change Calls Try.prog 75 _ _ (fun e w' => e = .returned (.tuple #[]) ∧ ∃ n os, w' = sortWorld enc32 w3 (w.heap.size + 1) 0 n (lsort f l).toArray os) at hS
  -- the compaction, in whatever world holds the sorted list
  have hC : ∀ W, Holds enc32 W (w.heap.size + 1) 0 (lsort f l).toArray → Calls Try.prog 76 #[.slice (some ⟨w.heap.size + 1, 0, none⟩) l.length l.length] W fun e w' => e = .returned (.slice (some ⟨w.heap.size + 1, 0, none⟩) (srt f l).length l.length) ∧ ∃ q, w' = putRow enc32 (Sort.ahead W q) (w.heap.size + 1) 0 (srt f l ++ List.replicate (l.length - (srt f l).length) 0).toArray := by
    intro W hW
    have h := slices_Compact enc32 enc32_one eql22 neq22 0 (fun w => by rw [Try.zeroValue22]; rfl) (w.heap.size + 1) 0 l.length (lsort f l).toArray W hW (by simp [length_lsort]; omega) (by simp [length_lsort])
    rw [compact_lsort, show (lsort f l).toArray.size = l.length from by simp [length_lsort]] at h
    exact h
  have HH3 := Lib.hid hH3
  have HS := Lib.hid hS
  have HC := Lib.hid hC
  have HB3 := Lib.hid hb3
  have HS3 := Lib.hid hs3
  have hmk := fun W => run_make_row' (P := Try.prog) 23 22 (.int .u32 0) 4 Try.underlying23 info22 rfl .i64 .i64 l.length (by omega) (by omega) W
  clear hS hC eg hread hc3 hb3 hs3 hH3 hv0
  generalize hn : l.length = n at *
  have HN := Lib.hid hn
  clear hn
  unfold enc32
  go_enter Try.func54, Try.ntmps54
  go_wp2_with fail
  refine HS.out.mono ?_
  rintro e w4 ⟨rfl, m, os, hw4⟩
  have hW4 : Holds enc32 w4 (w.heap.size + 1) 0 (lsort f l).toArray := by
    rw [hw4]; exact holds_sortWorld enc32 w3 (w.heap.size + 1) 0 m l.toArray _ os (by have := HS3.out; omega) HH3.out (by simp [length_lsort])
  have HW4 := Lib.hid hW4
  have HB4 := Lib.hid (show Below w.heap.size w w4 by
    rw [hw4]; unfold sortWorld
    refine below_grow (below_putRow (below_ahead HB3.out m) _ _ _ _ (by omega)) ?_ os
    have := HS3.out
    simp [Sort.putRow, Sort.mapBlock, Sort.ahead]; omega)
  have hlt4 : w.heap.size + 1 < w4.heap.size := by rw [hw4]; exact lt_sortWorld _ _ _ _ _ _ _ (by have := HS3.out; omega)
  clear hw4 hW4
  go_wp2_with fail
  refine (HC.out _ HW4.out).mono ?_
  rintro e w5 ⟨rfl, q, hw5⟩
  have HB5 := Lib.hid (show Below w.heap.size w w5 by rw [hw5]; exact below_putRow (below_ahead HB4.out q) _ _ _ _ (by omega))
  have hW5 : Holds enc32 w5 (w.heap.size + 1) 0 (srt f l ++ List.replicate (n - (srt f l).length) 0).toArray := by
    rw [hw5]; exact holds_putRow enc32 _ _ _ (lsort f l).toArray _ (holds_ahead enc32 w4 q _ _ _ HW4.out) (by have := HN.out; simp [length_lsort]; omega)
  have HW5 := Lib.hid hW5
  have hlt5 : w.heap.size + 1 < w5.heap.size := by rw [hw5, size_putRow, size_ahead]; exact hlt4
  clear hw5 hW5
  go_wp2
  go_ret
  refine ⟨_, rfl, ⟨_, _, rfl, by omega, by omega, fun hl => ⟨_, _, rfl, hlt5, fun j hj => ?_⟩⟩, HB5.out⟩
  have h := (HW5.out j (by simp; omega)).1
  rw [h]
  congr 2
  rw [getElem!_pos _ j (by simp; omega), getElem!_pos _ j hj]
  simp [hj]

theorem sorted_z (f : UInt32) (z : Int) (hz : z = (f.toNat : Int)) (l : List UInt32) (v : Value) (w : World) (hv : RowE enc32 w v l) (hsz : l.length ≤ 200) :
    Calls Try.prog 54 #[v, .int .u32 z] w fun e w' => ∃ v', e = .returned v' ∧ RowE enc32 w' v' (srt f l) ∧ Below w.heap.size w w' := by
  subst hz
  exact sorted_any f l v w hv (by omega)
theorem add_toNat (x f : UInt32) : ((x.toNat : Int) + (f.toNat : Int)) % 4294967296 = ((x + f).toNat : Int) := by
  rw [UInt32.toNat_add]
  omega

end Go.Proofs.Ytfdnphkdpmlbnaa
