/-
  Whether a chunk is small: a contract.
-/
import Derived.Test.YtlbaockipeojhaaGreatAs
namespace Go.Proofs.YtlbaockipeojhaaGreat
open Go.RowKit
set_option linter.unusedVariables false
set_option linter.unusedSimpArgs false
set_option maxRecDepth 100000

def shortB (l : List Item) : Bool := l.all fun x => decide (x.2.size ≤ 2000)
def smallB (c : Ck) : Bool := decide (c.items.length ≤ 30) && decide (c.gaps.length ≤ 200) && decide (c.dups.length ≤ 200) && decide (c.text.size ≤ 3000) && shortB c.items
theorem short_not {l : List Item} {k : Nat} (h : k < l.length) (hx : 2000 < l[k].2.size) : shortB l = false := by
  unfold shortB
  rw [List.all_eq_false]
  exact ⟨l[k], List.getElem_mem h, by simp; omega⟩
theorem short_is {l : List Item} (hx : ∀ j (hj : j < l.length), l[j].2.size ≤ 2000) : shortB l = true := by
  unfold shortB
  rw [List.all_eq_true]
  intro x hm
  obtain ⟨j, hj, rfl⟩ := List.getElem_of_mem hm
  exact decide_eq_true (hx j hj)
theorem small_gives {c : Ck} (h : smallB c = true) : c.items.length ≤ 30 ∧ c.gaps.length ≤ 200 ∧ c.dups.length ≤ 200 ∧ c.text.size ≤ 3000 ∧ ∀ x ∈ c.items, x.2.size ≤ 2000 := by
  unfold smallB shortB at h
  simp only [Bool.and_eq_true, decide_eq_true_eq, List.all_eq_true] at h
  exact ⟨h.1.1.1.1, h.1.1.1.2, h.1.1.2, h.1.2, h.2⟩
/-- A chunk lies in its block, else as before. -/
def OneS (w : World) (CA : Array Value) (W : World) : Prop := W.heap[w.heap.size]? = some (.cells CA 52 (0, 0)) ∧ Below w.heap.size w W
theorem oneS_new (w : World) (CA : Array Value) : OneS w CA (w.alloc (.cells CA 52)) := ⟨heap_alloc_new w _, (Below.refl _ _).alloc (Nat.le_refl _) _⟩
set_option maxHeartbeats 8000000 in
theorem small_any (c : Ck) (g d it : Value) (w : World) (hm : c.items.length ≤ maxLen) (hg : c.gaps.length ≤ maxLen) (hd : c.dups.length ≤ maxLen) (ht : c.text.size ≤ maxLen) (hp : Parts w c g d it) :
    Calls Tryz.prog 18 #[.agg (cellsC c g d it)] w fun e w' => e = .returned (.bool (smallB c)) ∧ Below w.heap.size w w' := by
  have HCS := Lib.hid ckSize
  have HB0 := fun CA => Lib.hid (oneS_new w CA)
  obtain ⟨⟨A1, k1, rfl⟩, ⟨A2, k2, rfl⟩, ⟨A3, k3, rfl⟩⟩ := hp.slices
  have HONE := Lib.hid hp.one
  have HI := Lib.hid hp.items
  clear hp
  unfold smallB
  obtain ⟨ty, fl, tsn, tag, win, ppid, st, ssn, outs, ins, gaps, dups, items, text⟩ := c
  dsimp only [cellsC] at *
  by_cases h1 : items.length ≤ 30
  case neg =>
    rw [decide_eq_false h1]
    simp only [Bool.true_and, Bool.false_and, Bool.and_false]
    have z1 : (30 : Int) < (items.length : Int) := by omega
    clear h1
    go_enter Tryz.func18, Tryz.ntmps18
    go_wp2_with fail
    go_ret
    exact ⟨rfl, (HB0 _).out.2⟩
  rw [decide_eq_true h1]
  have z1 : (items.length : Int) ≤ 30 := by omega
  clear h1
  by_cases h2 : gaps.length ≤ 200
  case neg =>
    rw [decide_eq_false h2]
    simp only [Bool.true_and, Bool.false_and, Bool.and_false]
    have z2 : (200 : Int) < (gaps.length : Int) := by omega
    clear h2
    go_enter Tryz.func18, Tryz.ntmps18
    go_wp2_with fail
    go_ret
    exact ⟨rfl, (HB0 _).out.2⟩
  rw [decide_eq_true h2]
  have z2 : (gaps.length : Int) ≤ 200 := by omega
  clear h2
  by_cases h3 : dups.length ≤ 200
  case neg =>
    rw [decide_eq_false h3]
    simp only [Bool.true_and, Bool.false_and, Bool.and_false]
    have z3 : (200 : Int) < (dups.length : Int) := by omega
    clear h3
    go_enter Tryz.func18, Tryz.ntmps18
    go_wp2_with fail
    go_ret
    exact ⟨rfl, (HB0 _).out.2⟩
  rw [decide_eq_true h3]
  have z3 : (dups.length : Int) ≤ 200 := by omega
  clear h3
  by_cases h4 : text.size ≤ 3000
  case neg =>
    rw [decide_eq_false h4]
    simp only [Bool.true_and, Bool.false_and, Bool.and_false]
    have z4 : (3000 : Int) < (text.size : Int) := by omega
    clear h4
    go_enter Tryz.func18, Tryz.ntmps18
    go_wp2_with fail
    go_ret
    exact ⟨rfl, (HB0 _).out.2⟩
  rw [decide_eq_true h4]
  have z4 : (text.size : Int) ≤ 3000 := by omega
  clear h4
  simp only [Bool.true_and]
  have HN := Lib.hid (fun k (h : k < items.length) hx => short_not h hx)
  have HY := Lib.hid (fun hx => short_is (l := items) hx)
  generalize shortB items = q at *
  go_enter Tryz.func18, Tryz.ntmps18
  go_wp2_with fail
  have HS0 := HB0 #[.int .i64 ty, .int .i64 fl, .int .u32 (tsn : Int), .int .u32 (tag : Int), .int .u32 (win : Int), .int .u32 (ppid : Int), .int .u16 (st : Int), .int .u16 (ssn : Int), .int .u16 (outs : Int), .int .u16 (ins : Int), .slice A1 gaps.length k1, .slice A2 dups.length k2, .slice A3 items.length k3, .string text]
  generalize (w.alloc (.cells #[.int .i64 ty, .int .i64 fl, .int .u32 (tsn : Int), .int .u32 (tag : Int), .int .u32 (win : Int), .int .u32 (ppid : Int), .int .u16 (st : Int), .int .u16 (ssn : Int), .int .u16 (outs : Int), .int .u16 (ins : Int), .slice A1 gaps.length k1, .slice A2 dups.length k2, .slice A3 items.length k3, .string text] 52)) = w1 at *
  go_loopw [3] (fun i wr => ∃ k : Nat, k ≤ items.length ∧ i = .int .i64 k ∧ Hid (∀ j (hj : j < items.length), j < k → items[j].2.size ≤ 2000) ∧ Hid (OneS w #[.int .i64 ty, .int .i64 fl, .int .u32 (tsn : Int), .int .u32 (tag : Int), .int .u32 (win : Int), .int .u32 (ppid : Int), .int .u16 (st : Int), .int .u16 (ssn : Int), .int .u16 (outs : Int), .int .u16 (ins : Int), .slice A1 gaps.length k1, .slice A2 dups.length k2, .slice A3 items.length k3, .string text] wr))
    (fun i _ => items.length - (intOf i).toNat)
  case atStart => exact ⟨0, Nat.zero_le _, rfl, Lib.hid (fun j hj h => absurd h (Nat.not_lt_zero _)), HS0⟩
  case round =>
    obtain ⟨k, hk, rfl, HF, HR⟩ := hrel
    have cA : wr.cell? ⟨w.heap.size, 12, none⟩ = some (.slice A3 items.length k3) := by rw [cell_in HR.out.1]; rfl
    by_cases hlt : k < items.length
    · obtain ⟨A', k', h3, hcap, hmax, hcells⟩ := HI.out
      cases h3
      obtain ⟨b, off, rfl, hb, hc⟩ := hcells (by omega)
      obtain ⟨hc0, hc1⟩ := hc k hlt
      have HN1 := Lib.hid (HN.out k hlt)
      have HS := Lib.hid (show items[k].2.size ≤ 2000 → ∀ j (hj : j < items.length), j < k + 1 → items[j].2.size ≤ 2000 from fun h j hj h2 => by
        by_cases e : j = k
        · subst e; exact h
        · exact HF.out j hj (by omega))
      generalize items[k] = x at *
      obtain ⟨a, t⟩ := x
      dsimp only at hc0 hc1 HN1 HS
      have hd1 := (HR.out.2.cell (p := ⟨b, off + k * 2 + 1, none⟩) hb).trans hc1
      have q4 : (0 : Int) ≤ (k : Int) := by omega
      have q5 : (k : Int) < (items.length : Int) := by omega
      clear hcells hc hmax hcap hc0 hc1
      by_cases hlong : 2000 < t.size
      · have h2 : (2000 : Int) < (t.size : Int) := by omega
        obtain rfl := HN1.out hlong
        clear HN1 hlong
        go_wp2_with fail
        go_ret
        exact ⟨rfl, HR.out.2⟩
      · have h2 : (t.size : Int) ≤ 2000 := by omega
        have HS2 := Lib.hid (HS.out (by omega))
        clear HN1 HS
        go_wp2_with fail
        go_roundw
        case rel => exact ⟨k + 1, by omega, by go_num, HS2, HR⟩
        case measure => simp [intOf]; omega
    · obtain rfl : k = items.length := by omega
      obtain rfl := HY.out (fun j hj => HF.out j hj hj)
      go_wp2_with fail
      go_ret
      exact ⟨rfl, HR.out.2⟩
end Go.Proofs.YtlbaockipeojhaaGreat
