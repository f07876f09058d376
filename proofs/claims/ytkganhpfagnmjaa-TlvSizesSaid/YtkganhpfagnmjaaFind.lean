/-
  The first item of a type: package tlv and the document's answer: contracts, whatever items.
-/
import Derived.Test.YtkganhpfagnmjaaRow
import Derived.Test.YtkganhpfagnmjaaBuilder
namespace Go.Proofs.Ytkganhpfagnmjaa
open Go.RowKit
set_option linter.unusedVariables false

theorem find_here {l : List Item} {kind : Int} {k : Nat} (h : k < l.length) (h0 : findB l kind = findB (l.drop k) kind) (h1 : l[k].1 = kind) : findB l kind = (l[k].2, true) := by
  rw [h0, List.drop_eq_getElem_cons h, findB, if_pos h1]
theorem find_next {l : List Item} {kind : Int} {k : Nat} (h : k < l.length) (h0 : findB l kind = findB (l.drop k) kind) (h1 : ¬ l[k].1 = kind) : findB l kind = findB (l.drop (k + 1)) kind := by
  rw [h0, List.drop_eq_getElem_cons h, findB, if_neg h1]
theorem find_none {l : List Item} {kind : Int} (h0 : findB l kind = findB (l.drop l.length) kind) : findB l kind = (⟨#[]⟩, false) := by
  rw [h0, List.drop_length]
  rfl

set_option maxHeartbeats 4000000 in
theorem find_any (l : List Item) (hl : l.length ≤ 100000) (hs : ∀ x ∈ l, x.2.size ≤ 1000000) (kind : Int) (v : Value) (w : World) (hv : RowI w v l) :
    Calls Try.prog 14 #[v, .int .i64 kind] w fun e w' => e = .returned (.tuple #[.string (findB l kind).1, .bool (findB l kind).2]) ∧ Below w.heap.size w w' := by
  obtain ⟨A, cap, rfl, hcap, hmax, hcells⟩ := hv
  have HC := Lib.hid hcells
  have HH := Lib.hid (fun k (h : k < l.length) h0 h1 => @find_here l kind k h h0 h1)
  have HN := Lib.hid (fun k (h : k < l.length) h0 h1 => @find_next l kind k h h0 h1)
  have HE := Lib.hid (fun h0 => @find_none l kind h0)
  have HS := Lib.hid hs
  have HF0 := Lib.hid (show findB l kind = findB (l.drop 0) kind from rfl)
  generalize findB l kind = R at *
  have hl' : (l.length : Int) ≤ 100000 := by omega
  clear hcells hs
  go_enter Try.func14, Try.ntmps14
  go_wp2_with fail
  go_loopw [10] (fun i wr => ∃ k : Nat, k ≤ l.length ∧ i = .int .i64 k ∧ Hid (R = findB (l.drop k) kind) ∧ Below w.heap.size w wr)
    (fun i _ => l.length - (intOf i).toNat)
  case atStart => exact ⟨0, Nat.zero_le _, rfl, HF0, Below.refl _ _⟩
  case round =>
    obtain ⟨k, hk, rfl, HR, hbr⟩ := hrel
    by_cases hlt : k < l.length
    · obtain ⟨b, off, rfl, hb, hc⟩ := HC.out (by omega)
      obtain ⟨hc0, hc1⟩ := hc k hlt
      have HH1 := Lib.hid (HH.out k hlt HR.out)
      have HN1 := Lib.hid (HN.out k hlt HR.out)
      have hx := HS.out l[k] (List.getElem_mem hlt)
      generalize l[k] = x at *
      obtain ⟨a, t⟩ := x
      dsimp only at hc0 hc1 HH1 HN1 hx
      have hd0 := (hbr.cell (p := ⟨b, off + k * 2, none⟩) hb).trans hc0
      have hd1 := (hbr.cell (p := ⟨b, off + k * 2 + 1, none⟩) hb).trans hc1
      have hbs := hbr.size
      have hblt := Nat.lt_of_lt_of_le hb hbr.size
      have HB := Lib.hid hbr
      have HCL := Lib.hid (fun W => clone_any t W (by omega))
      clear hc hc0 hc1 hbr HR HH HN
      by_cases hak : a = kind
      · obtain rfl := HH1.out hak
        have ht : (a == kind) = true := by rw [hak]; simp
        clear HH1 HN1 hak
        go_wp2_with (go_at_call 32; ((with_reducible refine (HCL.out _).mono ?_); rintro e w1 ⟨rfl, hb1⟩))
        go_ret2
        exact ⟨rfl, HB.out.trans (((Below.refl wr.heap.size wr).alloc (Nat.le_refl _) _ |>.trans (hb1.mono (by simp))).mono hbs)⟩
      · have HN2 := Lib.hid (HN1.out hak)
        have ht : (a == kind) = false := beq_eq_false_iff_ne.2 hak
        clear HH1 HN1 hak
        go_wp2_with fail
        go_roundw
        case rel => exact ⟨k + 1, by omega, by go_num, HN2, HB.out.alloc hbs _⟩
        case measure => simp [intOf]; omega
    · obtain rfl : k = l.length := by omega
      obtain rfl := HE.out HR.out
      go_wp2_with fail
      go_ret2
      exact ⟨rfl, hbr⟩

set_option maxHeartbeats 4000000 in
theorem rfind_any (l : List Item) (hl : l.length ≤ 100000) (hs : ∀ x ∈ l, x.2.size ≤ 1000000) (kind : Int) (v : Value) (w : World) (hv : RowI w v l) :
    Calls Try.prog 15 #[v, .int .i64 kind] w fun e w' => e = .returned (.tuple #[.string (findB l kind).1, .bool (findB l kind).2]) ∧ Below w.heap.size w w' := by
  obtain ⟨A, cap, rfl, hcap, hmax, hcells⟩ := hv
  have HC := Lib.hid hcells
  have HH := Lib.hid (fun k (h : k < l.length) h0 h1 => @find_here l kind k h h0 h1)
  have HN := Lib.hid (fun k (h : k < l.length) h0 h1 => @find_next l kind k h h0 h1)
  have HE := Lib.hid (fun h0 => @find_none l kind h0)
  have HS := Lib.hid hs
  have HF0 := Lib.hid (show findB l kind = findB (l.drop 0) kind from rfl)
  generalize findB l kind = R at *
  have hl' : (l.length : Int) ≤ 100000 := by omega
  clear hcells hs
  go_enter Try.func15, Try.ntmps15
  go_wp2_with fail
  go_loopw [6] (fun i wr => ∃ k : Nat, k ≤ l.length ∧ i = .int .i64 k ∧ Hid (R = findB (l.drop k) kind) ∧ Below w.heap.size w wr)
    (fun i _ => l.length - (intOf i).toNat)
  case atStart => exact ⟨0, Nat.zero_le _, rfl, HF0, Below.refl _ _⟩
  case round =>
    obtain ⟨k, hk, rfl, HR, hbr⟩ := hrel
    by_cases hlt : k < l.length
    · obtain ⟨b, off, rfl, hb, hc⟩ := HC.out (by omega)
      obtain ⟨hc0, hc1⟩ := hc k hlt
      have HH1 := Lib.hid (HH.out k hlt HR.out)
      have HN1 := Lib.hid (HN.out k hlt HR.out)
      have hx := HS.out l[k] (List.getElem_mem hlt)
      generalize l[k] = x at *
      obtain ⟨a, t⟩ := x
      dsimp only at hc0 hc1 HH1 HN1 hx
      have hd0 := (hbr.cell (p := ⟨b, off + k * 2, none⟩) hb).trans hc0
      have hd1 := (hbr.cell (p := ⟨b, off + k * 2 + 1, none⟩) hb).trans hc1
      have hbs := hbr.size
      have hblt := Nat.lt_of_lt_of_le hb hbr.size
      have HB := Lib.hid hbr
      have HCL := Lib.hid (fun W => clone_any t W (by omega))
      clear hc hc0 hc1 hbr HR HH HN
      by_cases hak : a = kind
      · obtain rfl := HH1.out hak
        have ht : (a == kind) = true := by rw [hak]; simp
        clear HH1 HN1 hak
        go_wp2_with fail
        go_ret2
        exact ⟨rfl, HB.out⟩
      · have HN2 := Lib.hid (HN1.out hak)
        have ht : (a == kind) = false := beq_eq_false_iff_ne.2 hak
        clear HH1 HN1 hak
        go_wp2_with fail
        go_roundw
        case rel => exact ⟨k + 1, by omega, by go_num, HN2, HB.out⟩
        case measure => simp [intOf]; omega
    · obtain rfl : k = l.length := by omega
      obtain rfl := HE.out HR.out
      go_wp2_with fail
      go_ret2
      exact ⟨rfl, hbr⟩
end Go.Proofs.Ytkganhpfagnmjaa
