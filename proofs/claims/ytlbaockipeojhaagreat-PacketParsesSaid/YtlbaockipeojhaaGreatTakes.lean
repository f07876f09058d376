/-
  Whether a chunk may stand behind those of a packet, and whether a packet is right but for its chunks and bytes: contracts.
-/
import Derived.Test.YtlbaockipeojhaaGreatPkMem
namespace Go.Proofs.YtlbaockipeojhaaGreat
open Go.RowKit
set_option linter.unusedVariables false
set_option linter.unusedSimpArgs false
set_option maxRecDepth 100000

theorem below_two (w : World) (o o' : Obj) : Below w.heap.size w ((w.alloc o).alloc o') := ((Below.refl _ _).alloc (Nat.le_refl _) _).alloc (by rw [World.size_alloc]; omega) _
theorem takesB_nil (f t g : Nat) (k : Int) : takesB f t g [] k = firstB f t g k := rfl
theorem takesB_some {f t g : Nat} {l : List Cv} {k : Int} (h : 0 < l.length) : takesB f t g (typesV l) k = (decide (l.length < 50) && followsB (l[l.length - 1]'(by omega)).c.type k) := by
  unfold takesB
  rw [if_neg (by rw [typesV_length]; omega), typesV_length, typesV_at _ (by omega)]
set_option maxHeartbeats 4000000 in
theorem takes_any (f t g : Nat) (V : Value) (l : List Cv) (c : Ck) (gg d it : Value) (w : World) (hk : RowK w V l) (hp : Parts w c gg d it) :
    Calls Tryz.prog 40 #[.agg (cellsP f t g V), .agg (cellsC c gg d it)] w fun e w' => e = .returned (.bool (takesB f t g (typesV l) c.type)) ∧ Below w.heap.size w w' := by
  obtain ⟨A, cap, rfl, hcap, hmax, hcells⟩ := hk
  obtain ⟨⟨A1, k1, rfl⟩, ⟨A2, k2, rfl⟩, ⟨A3, k3, rfl⟩⟩ := hp.slices
  clear hp
  obtain ⟨ty, fl, tsn, tag, win, ppid, st, ssn, outs, ins, gaps, dups, items, text⟩ := c
  dsimp only [cellsC, cellsP]
  have HB := Lib.hid (below_two w (.cells #[.int .u16 (f : Int), .int .u16 (t : Int), .int .u32 (g : Int), .slice A l.length cap] 26) (.cells #[.int .i64 ty, .int .i64 fl, .int .u32 (tsn : Int), .int .u32 (tag : Int), .int .u32 (win : Int), .int .u32 (ppid : Int), .int .u16 (st : Int), .int .u16 (ssn : Int), .int .u16 (outs : Int), .int .u16 (ins : Int), .slice A1 gaps.length k1, .slice A2 dups.length k2, .slice A3 items.length k3, .string text] 52))
  by_cases h0 : l.length = 0
  · obtain rfl : l = [] := List.eq_nil_of_length_eq_zero h0
    rw [show typesV ([] : List Cv) = [] from rfl, takesB_nil]
    unfold firstB
    have e1 : ((f : Int) != 0) = decide (f ≠ 0) := by rw [Bool.eq_iff_iff, bne_iff_ne, decide_eq_true_eq]; omega
    have e2 : ((t : Int) != 0) = decide (t ≠ 0) := by rw [Bool.eq_iff_iff, bne_iff_ne, decide_eq_true_eq]; omega
    have e3 : ((g : Int) == 0) = decide (g = 0) := by rw [Bool.eq_iff_iff, beq_iff_eq, decide_eq_true_eq]; omega
    have e4 : (ty == 1) = decide (ty = 1) := by rw [Bool.eq_iff_iff, beq_iff_eq, decide_eq_true_eq]
    generalize decide (f ≠ 0) = b1 at *
    generalize decide (t ≠ 0) = b2 at *
    generalize decide (g = 0) = b3 at *
    generalize decide (ty = 1) = b4 at *
    clear hcells h0
    cases b1 <;> cases b2 <;> cases b3 <;> cases b4
    all_goals
      go_enter Tryz.func40, Tryz.ntmps40
      go_wp2_with fail
      go_ret
      exact ⟨rfl, HB.out⟩
  · rw [takesB_some (by omega)]
    obtain ⟨b, off, rfl, hlt, hr⟩ := hcells (by omega)
    have hx := hr (l.length - 1) (by omega)
    have z0 : ((l.length : Int) == 0) = false := beq_eq_false_iff_ne.2 (by omega)
    have hc0 := hx 0 _ rfl
    rw [Nat.add_zero] at hc0
    have HF := Lib.hid (fun W => follows_any (l[l.length - 1]'(by omega)).c.type ty W)
    by_cases h50 : l.length < 50
    case neg =>
      rw [decide_eq_false h50]
      have z1 : decide ((l.length : Int) < 50) = false := decide_eq_false (by omega)
      have z2 : decide (l.length < 50) = false := decide_eq_false (by omega)
      clear hx hr hcells hc0 HF
      simp only [Bool.false_and]
      go_enter Tryz.func40, Tryz.ntmps40
      go_wp2_with fail
      go_quiet (fail)
      go_wp2_with fail
      go_ret
      exact ⟨rfl, below_drewN HB.out _⟩
    rw [decide_eq_true h50]
    simp only [Bool.true_and]
    generalize followsB (l[l.length - 1]'(by omega)).c.type ty = q at *
    generalize (l[l.length - 1]'(by omega)).c.type = lt at *
    have z1 : decide ((l.length : Int) < 50) = true := decide_eq_true (by omega)
    have z2 : decide (l.length < 50) = true := decide_eq_true (by omega)
    have z3 : IntKind.i64.wrap ((l.length : Int) - 1) = ((l.length - 1 : Nat) : Int) := by rw [IntKind.wrap_i64]; omega
    clear hx hr hcells
    generalize hm : l.length - 1 = m at *
    have z4 : (m : Int) < (l.length : Int) := by omega
    have z5 : (0 : Int) ≤ (m : Int) := by omega
    have hc0' : ((w.alloc (.cells #[.int .u16 (f : Int), .int .u16 (t : Int), .int .u32 (g : Int), .slice (some ⟨b, off, none⟩) l.length cap] 26)).alloc (.cells #[.int .i64 ty, .int .i64 fl, .int .u32 (tsn : Int), .int .u32 (tag : Int), .int .u32 (win : Int), .int .u32 (ppid : Int), .int .u16 (st : Int), .int .u16 (ssn : Int), .int .u16 (outs : Int), .int .u16 (ins : Int), .slice A1 gaps.length k1, .slice A2 dups.length k2, .slice A3 items.length k3, .string text] 52)).cell? ⟨b, off + m * 14, none⟩ = some (.int .i64 lt) := (HB.out.cell (p := ⟨b, off + m * 14, none⟩) hlt).trans hc0
    clear hc0 hm h50 h0
    go_enter Tryz.func40, Tryz.ntmps40
    go_wp2_with fail
    go_quiet ((go_at_call 64; exact Calls.quiet_of_same (HF.out _)))
    go_wp2_with fail
    go_ret
    exact ⟨rfl, below_drewN HB.out _⟩

end Go.Proofs.YtlbaockipeojhaaGreat
