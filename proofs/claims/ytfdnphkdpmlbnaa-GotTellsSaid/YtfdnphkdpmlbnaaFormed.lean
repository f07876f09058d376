/-
  Whether a chunk is right, but for what tlv says of its items and for its length: contracts.
-/
import Derived.Test.YtfdnphkdpmlbnaaErase
import Derived.Test.YtfdnphkdpmlbnaaForm
import Derived.Test.YtfdnphkdpmlbnaaApart
namespace Go.Proofs.Ytfdnphkdpmlbnaa
open Go.RowKit
set_option linter.unusedVariables false
set_option linter.unusedSimpArgs false
set_option maxRecDepth 100000

theorem or_nats (k : IntKind) (n x y : Nat) (hk : k.bits = n) (hs : k.signed = false) (hx : x < 2 ^ n) (hy : y < 2 ^ n) : bits .or k (x : Int) (y : Int) = ((x ||| y : Nat) : Int) := by
  subst hk
  have h := Nat.or_lt_two_pow hx hy
  show k.wrap ((BitVec.ofInt k.bits (x : Int) ||| BitVec.ofInt k.bits (y : Int)).toNat : Int) = _
  rw [BitVec.ofInt_natCast, BitVec.ofInt_natCast, BitVec.toNat_or, BitVec.toNat_ofNat, BitVec.toNat_ofNat, Nat.mod_eq_of_lt hx, Nat.mod_eq_of_lt hy]
  unfold IntKind.wrap
  simp only [hs]
  have e : (((x ||| y : Nat) : Int) % 2 ^ k.bits) = ((x ||| y : Nat) : Int) := by
    apply Int.emod_eq_of_lt (by omega)
    exact_mod_cast h
  simpa using e
theorem or_zero (x y : Nat) : x ||| y = 0 ↔ x = 0 ∧ y = 0 := Nat.or_eq_zero_iff
theorem or4_32 (x y z u : Nat) (hx : x < 4294967296) (hy : y < 4294967296) (hz : z < 4294967296) (hu : u < 4294967296) :
    (bits .or .u32 (bits .or .u32 (bits .or .u32 (x : Int) (y : Int)) (z : Int)) (u : Int) == 0) = decide (x = 0 ∧ y = 0 ∧ z = 0 ∧ u = 0) := by
  have e1 := Nat.or_lt_two_pow (n := 32) hx hy
  have e2 := Nat.or_lt_two_pow (n := 32) e1 hz
  rw [or_nats .u32 32 x y rfl rfl hx hy, or_nats .u32 32 _ z rfl rfl e1 hz, or_nats .u32 32 _ u rfl rfl e2 hu]
  rw [Bool.eq_iff_iff, beq_iff_eq, decide_eq_true_eq]
  have : (((x ||| y ||| z ||| u : Nat) : Int) = 0) ↔ x ||| y ||| z ||| u = 0 := by omega
  rw [this, or_zero, or_zero, or_zero]
  simp only [and_assoc]
theorem or4_16 (x y z u : Nat) (hx : x < 65536) (hy : y < 65536) (hz : z < 65536) (hu : u < 65536) :
    (bits .or .u16 (bits .or .u16 (bits .or .u16 (x : Int) (y : Int)) (z : Int)) (u : Int) == 0) = decide (x = 0 ∧ y = 0 ∧ z = 0 ∧ u = 0) := by
  have e1 := Nat.or_lt_two_pow (n := 16) hx hy
  have e2 := Nat.or_lt_two_pow (n := 16) e1 hz
  rw [or_nats .u16 16 x y rfl rfl hx hy, or_nats .u16 16 _ z rfl rfl e1 hz, or_nats .u16 16 _ u rfl rfl e2 hu]
  rw [Bool.eq_iff_iff, beq_iff_eq, decide_eq_true_eq]
  have : (((x ||| y ||| z ||| u : Nat) : Int) = 0) ↔ x ||| y ||| z ||| u = 0 := by omega
  rw [this, or_zero, or_zero, or_zero]
  simp only [and_assoc]
theorem erase_wf {c : Ck} (h : WfC c) : WfC (eraseC c) := by
  obtain ⟨ty, fl, tsn, tag, win, ppid, st, ssn, outs, ins, gaps, dups, items, text⟩ := c
  obtain ⟨a1, a2, a3, a4, a5, a6, a7, a8, a9, a10⟩ := h
  unfold eraseC
  dsimp only at *
  repeat' split
  all_goals (constructor <;> dsimp only <;> first | assumption | omega)
set_option maxHeartbeats 4000000 in
theorem own_any (c : Ck) (hw : WfC c) (g d i : Value) (w : World) :
    Calls Try.prog 62 #[.agg (cellsC c g d i)] w fun e w' => e = .returned (.bool (ownB c)) ∧ Below w.heap.size w w' := by
  have hw' := erase_wf hw
  have HN := Lib.hid (numbers_erase c g d i w.heap.size (w.alloc (.cells (cellsC c g d i) 44)) (heap_alloc_new w _))
  unfold ownB
  generalize eraseC c = c' at *
  obtain ⟨ty', fl', tsn', tag', win', ppid', st', ssn', outs', ins', gaps', dups', items', text'⟩ := c'
  obtain ⟨a1, a2, a3, a4, a5, a6, a7, a8, a9, a10⟩ := hw'
  dsimp only at a1 a2 a3 a4 a5 a6 a7 a8
  have h1 := or4_32 tsn' tag' win' ppid' a1 a2 a3 a4
  have h2 := or4_16 st' ssn' outs' ins' a5 a6 a7 a8
  unfold nothingB
  dsimp only
  generalize decide (tsn' = 0 ∧ tag' = 0 ∧ win' = 0 ∧ ppid' = 0) = q1 at *
  generalize decide (st' = 0 ∧ ssn' = 0 ∧ outs' = 0 ∧ ins' = 0) = q2 at *
  have HB := Lib.hid ((Below.refl w.heap.size w).alloc (Nat.le_refl _) (.cells (cellsC c g d i) 44))
  clear hw
  obtain ⟨ty, fl, tsn, tag, win, ppid, st, ssn, outs, ins, gaps, dups, items, text⟩ := c
  dsimp only [cellsC] at HN HB ⊢
  cases q1 <;> cases q2
  all_goals
    simp only [Bool.and_false, Bool.false_and, Bool.and_true, Bool.and_self]
    go_enter Try.func62, Try.ntmps62
    go_wp2_with fail
    refine HN.out.mono ?_
    rintro e w1 ⟨rfl, hx, ht⟩
    replace HB := Lib.hid (HB.out.trans (ht.below fun k hk => Nat.le_of_eq hk.symm))
    have c2 : w1.cell? ⟨w.heap.size, 2, none⟩ = some (.int .u32 (tsn' : Int)) := by rw [cell_in hx]; rfl
    have c3 : w1.cell? ⟨w.heap.size, 3, none⟩ = some (.int .u32 (tag' : Int)) := by rw [cell_in hx]; rfl
    have c4 : w1.cell? ⟨w.heap.size, 4, none⟩ = some (.int .u32 (win' : Int)) := by rw [cell_in hx]; rfl
    have c5 : w1.cell? ⟨w.heap.size, 5, none⟩ = some (.int .u32 (ppid' : Int)) := by rw [cell_in hx]; rfl
    have c6 : w1.cell? ⟨w.heap.size, 6, none⟩ = some (.int .u16 (st' : Int)) := by rw [cell_in hx]; rfl
    have c7 : w1.cell? ⟨w.heap.size, 7, none⟩ = some (.int .u16 (ssn' : Int)) := by rw [cell_in hx]; rfl
    have c8 : w1.cell? ⟨w.heap.size, 8, none⟩ = some (.int .u16 (outs' : Int)) := by rw [cell_in hx]; rfl
    have c9 : w1.cell? ⟨w.heap.size, 9, none⟩ = some (.int .u16 (ins' : Int)) := by rw [cell_in hx]; rfl
    clear hx ht HN
    go_wp2_with fail
    go_ret
    exact ⟨rfl, HB.out⟩
end Go.Proofs.Ytfdnphkdpmlbnaa
