/-
  Package sha: the first registers, and arrays of words by value; the words of a block.
-/
import Derived.Test.YthfiebdpoleeeaaDoorShaB
import Derived.Deep.MidRow
namespace Go.Proofs.YthfiebdpoleeeaaDoor
open Go.RowKit
set_option linter.unusedVariables false

/-- Words as an array's cells. -/
def rowW (l : List UInt32) : Array Value := (l.map enc32).toArray
theorem rowW_size (l : List UInt32) : (rowW l).size = l.length := by simp [rowW]
theorem rowW_at (l : List UInt32) {j : Nat} (h : j < l.length) : (rowW l)[j]? = some (.int .u32 (l[j]!.toNat : Int)) := by
  unfold rowW
  rw [List.getElem?_toArray]
  exact enc32_map_at l h
theorem rowW_one (l : List UInt32) : (rowW l).all (·.oneCell') = true := by
  rw [Array.all_eq_true_iff_forall_mem]
  intro v hv
  simp only [rowW, List.mem_toArray, List.mem_map] at hv
  obtain ⟨u, _, rfl⟩ := hv
  rfl
theorem rowW_set (l : List UInt32) (j : Nat) (x : UInt32) : (rowW l).setIfInBounds j (.int .u32 (x.toNat : Int)) = rowW (l.set j x) := by
  simp [rowW, List.map_set, enc32]
theorem size8 : (Tryd.prog.info? 107).map (·.size) = some 8 := by kernel_rfl
set_option maxRecDepth 100000 in
theorem start_any (w : World) : Calls Tryd.prog 81 #[] w fun e w' => e = .returned (.agg (rowW regs0)) ∧ Below w.heap.size w w' := by
  go_enter Tryd.func81, Tryd.ntmps81
  go_wp2_with fail
  exact bodyPost_ret (v := .agg (rowW regs0)) (results_cell_row (P := Tryd.prog) rfl _ _ w.heap.size _ (rowW regs0) (0, 0) _ rfl (heap_alloc_new w _) Tryd.underlying107 rfl size8) rfl ⟨rfl, (Below.refl _ _).alloc (Nat.le_refl _) _⟩

/-! ### The words of a block -/
def fill (l : List UInt32) : List UInt32 := l ++ List.replicate (64 - l.length) 0
theorem fill_length (l : List UInt32) (h : l.length ≤ 64) : (fill l).length = 64 := by simp [fill]; omega
theorem fill_at (l : List UInt32) {j : Nat} (h : j < l.length) : (fill l)[j]! = l[j]! := by
  unfold fill
  rw [getElem!_pos _ j (by simp; omega), getElem!_pos l j h, List.getElem_append_left h]
theorem fill_set (l : List UInt32) (x : UInt32) (h : l.length < 64) : (fill l).set l.length x = fill (l ++ [x]) := by
  unfold fill
  rw [List.set_append_right _ _ (by omega), Nat.sub_self, show 64 - l.length = (64 - (l ++ [x]).length) + 1 by simp; omega, List.replicate_succ, List.set_cons_zero]
  simp
theorem infoW : (Tryd.prog.info? 131).map (fun i => (i.zero, i.size)) = some (some (.agg (rowW (fill []))), 64) := by kernel_rfl
/-- Block g is a row of 64 words, of which l are filled in. -/
def TabW (w : World) (g : Nat) (l : List UInt32) : Prop := l.length ≤ 64 ∧ w.heap[g]? = some (.cells (rowW (fill l)) 131 (0, 0))
theorem TabW.cell {w : World} {g : Nat} {l : List UInt32} (h : TabW w g l) {i : Nat} (hi : i < l.length) : w.cell? ⟨g, i, none⟩ = some (.int .u32 (l[i]!.toNat : Int)) := by
  rw [cell_of_row w g i _ _ _ h.2, rowW_at _ (by rw [fill_length _ h.1]; have := h.1; omega), fill_at l hi]
theorem TabW.there {w : World} {g : Nat} {l : List UInt32} (h : TabW w g l) {i : Nat} (hi : i < 64) : ∃ v, w.cell? ⟨g, i, none⟩ = some v := by
  rw [cell_of_row w g i _ _ _ h.2, rowW_at _ (by rw [fill_length _ h.1]; exact hi)]
  exact ⟨_, rfl⟩
theorem TabW.free {w : World} {g : Nat} {l : List UInt32} (h : TabW w g l) (i : Nat) : w.frozen? ⟨g, i, none⟩ = false := Go.frozen_of_row w g i _ _ h.2
theorem TabW.drew {w : World} {g : Nat} {l : List UInt32} (h : TabW w g l) : TabW w.drew g l := h
theorem TabW.drewN {w : World} {g : Nat} {l : List UInt32} (h : TabW w g l) (n : Nat) : TabW (w.drewN n) g l := h
theorem TabW.store {w : World} {g : Nat} {l : List UInt32} (h : TabW w g l) (x : UInt32) (hl : l.length < 64) : TabW (w.setCell ⟨g, l.length, none⟩ (.int .u32 (x.toNat : Int))) g (l ++ [x]) := by
  refine ⟨by simp; omega, ?_⟩
  rw [heap_setCell_same w g _ _ _ _ h.2, rowW_set, fill_set l x hl]
theorem TabW.far {w : World} {g : Nat} {l : List UInt32} (h : TabW w g l) (p : Addr) (v : Value) (hp : g ≠ p.block) : TabW (w.setCell p v) g l := by
  refine ⟨h.1, ?_⟩
  rw [heap_setCell_other w p g v hp]
  exact h.2
theorem still_of {P : Program} {f : FuncId} {args : Array Value} {w : World} {v : Value} (h : Calls P f args w fun e w' => e = .returned v ∧ w = w') : Calls P f args w fun e w' => e = .returned v ∧ w' = w :=
  h.mono fun _ _ ⟨he, hw⟩ => ⟨he, hw.symm⟩
theorem take_length {l : List UInt32} {k : Nat} (h : k ≤ l.length) : (l.take k).length = k := by simp; omega
theorem setRow_below {B : Nat} {w w' : World} (h : Below B w w') {g : Nat} (hg : B ≤ g) (cs : Array Value) : Below B w (w'.setRow g cs) :=
  ⟨h.os, h.tape, h.output, by simpa using h.size, fun k hk => (setRow_other w' g k cs (by omega)).trans (h.block k hk)⟩
set_option maxRecDepth 100000 in
set_option maxHeartbeats 2000000 in
theorem schedule_any (b off : Nat) (l : List UInt8) (hl : l.length = 64) (w : World) (hb : b < w.heap.size) (hc : ∀ j, j < 64 → w.cell? ⟨b, off + j, none⟩ = some (.int .u8 (l[j]!.toNat : Int))) :
    Calls Tryd.prog 82 #[.slice (some ⟨b, off, none⟩) 64 64] w fun e w' => e = .returned (.agg (rowW (sched 48 (words l 0)))) ∧ Below w.heap.size w w' := by
  obtain ⟨hz, hsz⟩ := zero_of_info infoW
  have HC := Lib.hid hc
  clear hc
  go_enter Tryd.func82, Tryd.ntmps82
  go_wp2_with fail
  obtain ⟨w1, h1⟩ : ∃ w1, w1 = (w.alloc (Obj.cells (rowW (fill [])) 131)).alloc (Obj.cells (rowW (fill [])) 131) := ⟨_, rfl⟩
  rw [← h1]
  have hT : TabW w1 (w.heap.size + 1) ((words l 0).take 0) := by subst h1; exact ⟨by simp, heap_alloc2_new w _ _⟩
  have hR : TabW w1 w.heap.size [] := by subst h1; exact ⟨by simp, heap_alloc2_old w _ _⟩
  have hB : Below w.heap.size w w1 := by subst h1; exact ((Below.refl _ _).alloc (Nat.le_refl _) _).alloc (by simp) _
  have H0 := Lib.hid (And.intro hT (And.intro hR hB))
  clear hT hR hB h1
  go_loopw [6] (fun i wr => ∃ k : Nat, k ≤ 16 ∧ i = .int .i64 k ∧ Hid (TabW wr (w.heap.size + 1) ((words l 0).take k) ∧ TabW wr w.heap.size [] ∧ Below w.heap.size w wr)) (fun i _ => 16 - (intOf i).toNat)
  case atStart => exact ⟨0, by omega, rfl, H0⟩
  case round =>
    obtain ⟨k, hk, rfl, HT⟩ := hrel
    by_cases hlt : k < 16
    · have HW := Lib.hid (words_take l 0 k hlt)
      have hlen : ((words l 0).take k).length = k := take_length (by rw [words_length]; omega)
      have HLEN := Lib.hid hlen
      have cc : ∀ j, j < 64 → wr.cell? ⟨b, off + j, none⟩ = some (.int .u8 (l[j]!.toNat : Int)) := fun j hj => (HT.out.2.2.cell (p := ⟨b, off + j, none⟩) hb).trans (HC.out j hj)
      have c0 := Lib.hid (cc (4 * k) (by omega))
      have c1 := Lib.hid (cc (4 * k + 1) (by omega))
      have c2 := Lib.hid (cc (4 * k + 2) (by omega))
      have c3 := Lib.hid (cc (4 * k + 3) (by omega))
      clear cc hlen
      have z0 : (0 : Int) ≤ 4 * (k : Int) := by omega
      have z1 : 4 * (k : Int) ≤ 64 := by omega
      have z2 : ((4 * (k : Int)) == 64) = false := by simp; omega
      have z3 : (4 * (k : Int)).toNat = 4 * k := by omega
      have z4 : ¬ (64 - 4 * k = 0) := by omega
      go_wp2_with fail
      refine (word_any b (off + 4 * k) (64 - 4 * k) (64 - 4 * k) (by omega) l[4 * k]! l[4 * k + 1]! l[4 * k + 2]! l[4 * k + 3]! wr c0.out c1.out c2.out c3.out).mono ?_
      rintro e w2 ⟨rfl, nk, rfl⟩
      have HT2 : Hid (TabW (wr.drewN nk) (w.heap.size + 1) ((words l 0).take k) ∧ TabW (wr.drewN nk) w.heap.size [] ∧ Below w.heap.size w (wr.drewN nk)) := Lib.hid ⟨HT.out.1.drewN nk, HT.out.2.1.drewN nk, below_drewN HT.out.2.2 nk⟩
      clear HT c0 c1 c2 c3
      generalize wr.drewN nk = w2 at *
      obtain ⟨vo, hvo⟩ := HT2.out.1.there (i := k) (by omega)
      have hfr := HT2.out.1.free k
      have q0 : (0 : Int) ≤ (k : Int) := by omega
      have q1 : (k : Int) < 64 := by omega
      generalize hwd : word l[4 * k]! l[4 * k + 1]! l[4 * k + 2]! l[4 * k + 3]! = x at *
      have HX := Lib.hid hwd
      clear hwd
      go_wp2_with fail
      go_roundw
      case rel =>
        refine ⟨k + 1, by omega, by go_num, Lib.hid ⟨?_, HT2.out.2.1.far _ _ (by simp), HT2.out.2.2.setCell (by simp) _⟩⟩
        rw [HW.out]
        simp only [Nat.zero_add]
        rw [HX.out]
        have h := HT2.out.1.store x (by rw [HLEN.out]; omega)
        rw [HLEN.out] at h
        exact h
      case measure => simp [intOf]; omega
    · obtain rfl : k = 16 := by omega
      have HT1 : Hid (TabW wr (w.heap.size + 1) (sched 0 (words l 0)) ∧ TabW wr w.heap.size [] ∧ Below w.heap.size w wr) := Lib.hid ⟨by have h := HT.out.1; rw [List.take_of_length_le (by rw [words_length]; exact Nat.le_refl _)] at h; exact h, HT.out.2⟩
      clear HT H0
      rw [show ((16 : Nat) : Int) = 16 from rfl]
      go_wp2_with fail
      obtain ⟨wa, ha⟩ : ∃ wa, wa = wr := ⟨_, rfl⟩
      rw [← ha] at HT1 ⊢
      clear ha wr
      go_loopw [5] (fun i wr => ∃ k : Nat, k ≤ 48 ∧ i = .int .i64 ((16 + k : Nat) : Int) ∧ Hid (TabW wr (w.heap.size + 1) (sched k (words l 0)) ∧ TabW wr w.heap.size [] ∧ Below w.heap.size w wr)) (fun i _ => 64 - (intOf i).toNat)
      case atStart => exact ⟨0, by omega, rfl, HT1⟩
      case round =>
        obtain ⟨k, hk, rfl, HT⟩ := hrel
        obtain ⟨t, ht⟩ : ∃ t, t = 16 + k := ⟨_, rfl⟩
        rw [← ht]
        have HTK := Lib.hid ht
        have hlen : (sched k (words l 0)).length = t := by rw [sched_length, words_length, ht]
        by_cases hlt : t < 64
        · have hn : sched (k + 1) (words l 0) = sched k (words l 0) ++ [nextW (sched k (words l 0))] := rfl
          have c2 := HT.out.1.cell (i := t - 2) (by omega)
          have c7 := HT.out.1.cell (i := t - 7) (by omega)
          have c15 := HT.out.1.cell (i := t - 15) (by omega)
          have c16 := HT.out.1.cell (i := t - 16) (by omega)
          unfold nextW at hn
          rw [hlen] at hn
          have z1 : (2 : Int) ≤ (t : Int) := by omega
          have z2 : (16 : Int) ≤ (t : Int) := by omega
          have z3 : (7 : Int) ≤ (t : Int) := by omega
          have z4 : (15 : Int) ≤ (t : Int) := by omega
          have z5 : (t : Int) < 64 := by omega
          have y2 : (t : Int) - 2 < 64 := by omega
          have y7 : (t : Int) - 7 < 64 := by omega
          have y15 : (t : Int) - 15 < 64 := by omega
          have y16 : (t : Int) - 16 < 64 := by omega
          have w2 : IntKind.i64.wrap ((t : Int) - 2) = (t : Int) - 2 := IntWalk.i64_in _ (by omega)
          have w7 : IntKind.i64.wrap ((t : Int) - 7) = (t : Int) - 7 := IntWalk.i64_in _ (by omega)
          have w15 : IntKind.i64.wrap ((t : Int) - 15) = (t : Int) - 15 := IntWalk.i64_in _ (by omega)
          have w16 : IntKind.i64.wrap ((t : Int) - 16) = (t : Int) - 16 := IntWalk.i64_in _ (by omega)
          have n2 : ((t : Int) - 2).toNat = t - 2 := by omega
          have n7 : ((t : Int) - 7).toNat = t - 7 := by omega
          have n15 : ((t : Int) - 15).toNat = t - 15 := by omega
          have n16 : ((t : Int) - 16).toNat = t - 16 := by omega
          generalize (sched k (words l 0))[t - 2]! = x2 at *
          generalize (sched k (words l 0))[t - 7]! = x7 at *
          generalize (sched k (words l 0))[t - 15]! = x15 at *
          generalize (sched k (words l 0))[t - 16]! = x16 at *
          have HN := Lib.hid hn
          have HLEN := Lib.hid hlen
          clear hn hlen ht
          have ra := r_addw
          go_wp2_with fail
          refine wp_region_still_tail 23 (by kernel_rfl) (by kernel_rfl) ?_
          simp only [List.take_succ_cons, List.take_zero, List.drop_succ_cons, List.drop_zero]
          repeat first
            | still_step
            | still_call (still_of (sg1_any x2 _))
            | still_call (still_of (sg0_any x15 _))
          try refine wpStill_nil ?_
          clear w2 w7 w15 w16
          change wpList _ _ _ _ _ wr.drew
          have HD : Hid (TabW wr.drew (w.heap.size + 1) (sched k (words l 0)) ∧ TabW wr.drew w.heap.size [] ∧ Below w.heap.size w wr.drew) := Lib.hid ⟨HT.out.1, HT.out.2.1, HT.out.2.2.drew⟩
          clear c2 c7 c15 c16 HT
          generalize wr.drew = wd at *
          have hfr := (HD.out.1).free t
          obtain ⟨vo, hvo⟩ := (HD.out.1).there (i := t) (by omega)
          have y0 : (0 : Int) ≤ (t : Int) := by omega
          go_wp2_with fail
          go_roundw
          case rel =>
            refine ⟨k + 1, by have := HTK.out; omega, by rw [HTK.out]; go_num, Lib.hid ⟨?_, HD.out.2.1.far _ _ (by simp), HD.out.2.2.setCell (by simp) _⟩⟩
            rw [HN.out]
            have h := HD.out.1.store (add32 (add32 (add32 (sg1 x2) x7) (sg0 x15)) x16) (by rw [HLEN.out]; exact hlt)
            rw [HLEN.out] at h
            exact h
          case measure => simp [intOf]; omega
        · obtain rfl : k = 48 := by omega
          subst ht
          have HT2 := HT
          clear HT HT1
          have hT := HT2.out.1.2
          have hR := HT2.out.2.1.2
          have hfl : fill (sched 48 (words l 0)) = sched 48 (words l 0) := by unfold fill; rw [hlen]; simp
          rw [hfl] at hT
          have hs64 : (rowW (sched 48 (words l 0))).size = 64 := by rw [rowW_size, hlen]
          have HI : Hid ((Tryd.prog.info? 131).map (·.size) = some (rowW (sched 48 (words l 0))).size) := Lib.hid (by rw [hs64]; exact hsz)
          have HO : Hid ((rowW (fill [])).size = (rowW (sched 48 (words l 0))).size) := Lib.hid (by rw [hs64]; rfl)
          have HE := Lib.hid (rowW_one (sched 48 (words l 0)))
          have HT3 := Lib.hid hT
          have HR3 := Lib.hid hR
          clear hT hR hz hsz hfl hs64 hlen
          rw [show ((16 + 48 : Nat) : Int) = 64 from rfl]
          go_wp2_with (first
            | (refine wpList_load_row rfl 131 (.tmp 3) rfl (w.heap.size + 1) rfl 131 (rowW (sched 48 (words l 0))) (0, 0) _ HT3.out Tryd.underlying131 rfl HI.out ?_)
            | (refine wpList_store_row rfl 131 (.tmp 2) (.tmp 44) rfl w.heap.size (rowW (sched 48 (words l 0))) rfl rfl 131 (rowW (fill [])) HR3.out HI.out HO.out HE.out ?_))
          refine bodyPost_ret (v := .agg (rowW (sched 48 (words l 0)))) (results_cell_row (P := Tryd.prog) rfl _ _ w.heap.size 131 (rowW (sched 48 (words l 0))) (0, 0) _ rfl ?_ Tryd.underlying131 rfl HI.out) rfl ⟨rfl, ?_⟩
          · exact setRow_heap _ _ _ _ _ _ HR3.out
          · exact setRow_below HT2.out.2.2 (Nat.le_refl _) _
end Go.Proofs.YthfiebdpoleeeaaDoor
