/-
  Rows that are copied, and texts: contracts.
-/
import Derived.Test.YtlbaockipeojhaaGreatPkMem
import Derived.Lib.SliceRun
namespace Go.Proofs.YtlbaockipeojhaaGreat
open Go.RowKit
set_option linter.unusedVariables false
set_option linter.unusedSimpArgs false
set_option maxRecDepth 100000

theorem infoG8 : (Tryz.prog.info? 104).map (fun i => (i.zero, i.size, i.bytes)) = some (some (.agg #[.int .u16 0, .int .u16 0]), 2, 4) := by kernel_rfl
theorem infoN8 : (Tryz.prog.info? 23).map (fun i => (i.zero, i.size, i.bytes)) = some (some (.int .u32 0), 1, 4) := by kernel_rfl
theorem fed_gaps {w : World} {A : Option Addr} {cap : Nat} {l : List (Nat × Nat)} (hA : A ≠ none) (h : RowG w (.slice A l.length cap) l) : Fed Tryz.prog w 2 (.slice A l.length cap) l.length (flatG l) := by
  obtain ⟨A', cap', hv, _, _, hc⟩ := h
  cases hv
  obtain ⟨a, rfl⟩ := Option.ne_none_iff_exists'.1 hA
  refine Fed.cells (by rw [flatG_length]) (flatG_one l) fun j u hu => ?_
  have hj : j < l.length * 2 := by have := (List.getElem?_eq_some_iff.1 hu).1; rw [flatG_length] at this; exact this
  obtain ⟨b, off, e, hlt, hcell⟩ := hc (by omega)
  cases e
  rw [addr_plain]
  have hj2 : j / 2 < l.length := by omega
  obtain ⟨h1, h2⟩ := hcell (j / 2) hj2
  obtain ⟨e1, e2⟩ := flatG_at l (j / 2) hj2
  rcases (by omega : j = j / 2 * 2 ∨ j = j / 2 * 2 + 1) with e | e
  · rw [e, e1] at hu
    rw [e, ← hu]
    exact h1
  · rw [e, e2] at hu
    rw [e, ← hu]
    exact h2
theorem fed_items8 {w : World} {A : Option Addr} {cap : Nat} {l : List Item} (hA : A ≠ none) (h : RowI w (.slice A l.length cap) l) : Fed Tryz.prog w 2 (.slice A l.length cap) l.length (flatI l) := by
  obtain ⟨A', cap', hv, _, _, hc⟩ := h
  cases hv
  obtain ⟨a, rfl⟩ := Option.ne_none_iff_exists'.1 hA
  refine Fed.cells (by rw [flatI_length]) (flatI_one l) fun j u hu => ?_
  have hj : j < l.length * 2 := by have := (List.getElem?_eq_some_iff.1 hu).1; rw [flatI_length] at this; exact this
  obtain ⟨b, off, e, hlt, hcell⟩ := hc (by omega)
  cases e
  rw [addr_plain]
  have hj2 : j / 2 < l.length := by omega
  obtain ⟨h1, h2⟩ := hcell (j / 2) hj2
  obtain ⟨e1, e2⟩ := flatI_at l (j / 2) hj2
  rcases (by omega : j = j / 2 * 2 ∨ j = j / 2 * 2 + 1) with e | e
  · rw [e, e1] at hu
    rw [e, ← hu]
    exact h1
  · rw [e, e2] at hu
    rw [e, ← hu]
    exact h2
theorem fed_nums {w : World} {A : Option Addr} {cap : Nat} {l : List Nat} (hA : A ≠ none) (h : RowN w (.slice A l.length cap) l) : Fed Tryz.prog w 1 (.slice A l.length cap) l.length (l.map encN) := by
  obtain ⟨A', cap', hv, _, _, hc⟩ := h
  cases hv
  obtain ⟨a, rfl⟩ := Option.ne_none_iff_exists'.1 hA
  refine Fed.cells (by simp) (fun u hu => by obtain ⟨x, _, rfl⟩ := List.mem_map.1 hu; rfl) fun j u hu => ?_
  have hj : j < l.length := by have := (List.getElem?_eq_some_iff.1 hu).1; rw [List.length_map] at this; exact this
  obtain ⟨b, off, e, hlt, hcell⟩ := hc (by omega)
  cases e
  rw [addr_plain, hcell j hj, ← hu, List.getElem?_map, List.getElem?_eq_getElem hj, getElem!_pos l j hj]
  rfl
set_option maxHeartbeats 2000000 in
theorem clone_gaps (l : List (Nat × Nat)) (hl : l.length ≤ 100000) (v : Value) (w : World) (h : RowG w v l) :
    Calls Tryz.prog 95 #[v] w fun e w' => ∃ v', e = .returned v' ∧ OwnG w' w.heap.size 104 2 v' l.length (flatG l) ∧ Below w.heap.size w w' := by
  obtain ⟨A, cap, rfl, hcap, hmax, hcells⟩ := id h
  by_cases hA : A = none
  · subst hA
    have h0 : l.length = 0 := by
      by_cases h1 : 0 < l.length
      · obtain ⟨b, off, e, _⟩ := hcells h1
        cases e
      · omega
    obtain rfl : l = [] := List.eq_nil_of_length_eq_zero h0
    clear h hcells
    have q22 : ∀ (w : World) (a : Option Addr) (n c n' c' : Nat), (binOp .eql 48 (.slice a n c) (.slice none n' c')).run Tryz.prog w = .ok (.bool a.isNone) w := fun w a n c n' c' => Lib.run_eql_slice_nil w _ _ a n c n' c' Tryz.underlying48
    go_enter Tryz.func95, Tryz.ntmps95
    go_wp2_with fail
    go_ret
    exact ⟨_, rfl, OwnG.nil _ _ _ _, Below.refl _ _⟩
  · skip
    obtain ⟨a, rfl⟩ := Option.ne_none_iff_exists'.1 hA
    obtain ⟨i0, hi0, hz0, hz1, hz2⟩ := info_parts infoG8
    have HI := Lib.hid hi0
    have HZ0 := Lib.hid hz0
    have HZ1 := Lib.hid hz1
    have HZ2 := Lib.hid hz2
    have HF := Lib.hid (show Fed Tryz.prog (w.alloc (.cells #[] 104)) 2 (.slice (some a) l.length cap) l.length (flatG l) from fed_gaps (by simp) (h.below ((Below.refl w.heap.size w).alloc (Nat.le_refl _) _)))
    clear h hcells hi0 hz0 hz1 hz2
    have q22 : ∀ (w : World) (a : Option Addr) (n c n' c' : Nat), (binOp .eql 48 (.slice a n c) (.slice none n' c')).run Tryz.prog w = .ok (.bool a.isNone) w := fun w a n c n' c' => Lib.run_eql_slice_nil w _ _ a n c n' c' Tryz.underlying48
    go_enter Tryz.func95, Tryz.ntmps95
    go_wp2_with (at_builtin; refine wpList_append_fed _ rfl _ _ 48 48 rfl w.heap.size 104 i0 _ 2 4 Tryz.underlying48 (.inr ⟨_, Tryz.underlying48⟩) HI.out HZ0.out HZ1.out HZ2.out rfl _ 0 [] rfl (OwnG.made (Nat.le_refl _) 104 2 #[] 0 (Nat.zero_le _) rfl) (.slice (some a) l.length cap) l.length _ rfl HF.out ?c3 ?c4 ?c5 ?_)
    case c3 => unfold maxLen; omega
    case c4 => omega
    case c5 => rw [World.size_alloc]; omega
    intro v' w1 hown hgrow
    have HO := Lib.hid hown
    have HB := Lib.hid (((Below.refl w.heap.size w).alloc (Nat.le_refl _) (.cells #[] 104)).grown hgrow (by rw [World.size_alloc]; omega) (fun k hk => by cases hk; exact Nat.le_refl _))
    clear hown hgrow
    go_wp2_with fail
    go_ret
    exact ⟨_, rfl, by have := HO.out; simpa using this, HB.out⟩
set_option maxHeartbeats 2000000 in
theorem clone_nums (l : List Nat) (hl : l.length ≤ 100000) (v : Value) (w : World) (h : RowN w v l) :
    Calls Tryz.prog 96 #[v] w fun e w' => ∃ v', e = .returned v' ∧ OwnG w' w.heap.size 23 1 v' l.length (l.map encN) ∧ Below w.heap.size w w' := by
  obtain ⟨A, cap, rfl, hcap, hmax, hcells⟩ := id h
  by_cases hA : A = none
  · subst hA
    have h0 : l.length = 0 := by
      by_cases h1 : 0 < l.length
      · obtain ⟨b, off, e, _⟩ := hcells h1
        cases e
      · omega
    obtain rfl : l = [] := List.eq_nil_of_length_eq_zero h0
    clear h hcells
    have q22 : ∀ (w : World) (a : Option Addr) (n c n' c' : Nat), (binOp .eql 49 (.slice a n c) (.slice none n' c')).run Tryz.prog w = .ok (.bool a.isNone) w := fun w a n c n' c' => Lib.run_eql_slice_nil w _ _ a n c n' c' Tryz.underlying49
    go_enter Tryz.func96, Tryz.ntmps96
    go_wp2_with fail
    go_ret
    exact ⟨_, rfl, OwnG.nil _ _ _ _, Below.refl _ _⟩
  · skip
    obtain ⟨a, rfl⟩ := Option.ne_none_iff_exists'.1 hA
    obtain ⟨i0, hi0, hz0, hz1, hz2⟩ := info_parts infoN8
    have HI := Lib.hid hi0
    have HZ0 := Lib.hid hz0
    have HZ1 := Lib.hid hz1
    have HZ2 := Lib.hid hz2
    have HF := Lib.hid (show Fed Tryz.prog (w.alloc (.cells #[] 23)) 1 (.slice (some a) l.length cap) l.length (l.map encN) from fed_nums (by simp) (h.below ((Below.refl w.heap.size w).alloc (Nat.le_refl _) _)))
    clear h hcells hi0 hz0 hz1 hz2
    have q22 : ∀ (w : World) (a : Option Addr) (n c n' c' : Nat), (binOp .eql 49 (.slice a n c) (.slice none n' c')).run Tryz.prog w = .ok (.bool a.isNone) w := fun w a n c n' c' => Lib.run_eql_slice_nil w _ _ a n c n' c' Tryz.underlying49
    go_enter Tryz.func96, Tryz.ntmps96
    go_wp2_with (at_builtin; refine wpList_append_fed _ rfl _ _ 49 49 rfl w.heap.size 23 i0 _ 1 4 Tryz.underlying49 (.inr ⟨_, Tryz.underlying49⟩) HI.out HZ0.out HZ1.out HZ2.out rfl _ 0 [] rfl (OwnG.made (Nat.le_refl _) 23 1 #[] 0 (Nat.zero_le _) rfl) (.slice (some a) l.length cap) l.length _ rfl HF.out ?c3 ?c4 ?c5 ?_)
    case c3 => unfold maxLen; omega
    case c4 => omega
    case c5 => rw [World.size_alloc]; omega
    intro v' w1 hown hgrow
    have HO := Lib.hid hown
    have HB := Lib.hid (((Below.refl w.heap.size w).alloc (Nat.le_refl _) (.cells #[] 23)).grown hgrow (by rw [World.size_alloc]; omega) (fun k hk => by cases hk; exact Nat.le_refl _))
    clear hown hgrow
    go_wp2_with fail
    go_ret
    exact ⟨_, rfl, by have := HO.out; simpa using this, HB.out⟩
set_option maxHeartbeats 2000000 in
theorem clone_items (l : List Item) (hl : l.length ≤ 100000) (v : Value) (w : World) (h : RowI w v l) :
    Calls Tryz.prog 97 #[v] w fun e w' => ∃ v', e = .returned v' ∧ OwnG w' w.heap.size 86 2 v' l.length (flatI l) ∧ Below w.heap.size w w' := by
  obtain ⟨A, cap, rfl, hcap, hmax, hcells⟩ := id h
  by_cases hA : A = none
  · subst hA
    have h0 : l.length = 0 := by
      by_cases h1 : 0 < l.length
      · obtain ⟨b, off, e, _⟩ := hcells h1
        cases e
      · omega
    obtain rfl : l = [] := List.eq_nil_of_length_eq_zero h0
    clear h hcells
    have q22 : ∀ (w : World) (a : Option Addr) (n c n' c' : Nat), (binOp .eql 50 (.slice a n c) (.slice none n' c')).run Tryz.prog w = .ok (.bool a.isNone) w := fun w a n c n' c' => Lib.run_eql_slice_nil w _ _ a n c n' c' Tryz.underlying50
    go_enter Tryz.func97, Tryz.ntmps97
    go_wp2_with fail
    go_ret
    exact ⟨_, rfl, OwnG.nil _ _ _ _, Below.refl _ _⟩
  · skip
    obtain ⟨a, rfl⟩ := Option.ne_none_iff_exists'.1 hA
    obtain ⟨i0, hi0, hz0, hz1, hz2⟩ := info_parts info47
    have HI := Lib.hid hi0
    have HZ0 := Lib.hid hz0
    have HZ1 := Lib.hid hz1
    have HZ2 := Lib.hid hz2
    have HF := Lib.hid (show Fed Tryz.prog (w.alloc (.cells #[] 86)) 2 (.slice (some a) l.length cap) l.length (flatI l) from fed_items8 (by simp) (h.below ((Below.refl w.heap.size w).alloc (Nat.le_refl _) _)))
    clear h hcells hi0 hz0 hz1 hz2
    have q22 : ∀ (w : World) (a : Option Addr) (n c n' c' : Nat), (binOp .eql 50 (.slice a n c) (.slice none n' c')).run Tryz.prog w = .ok (.bool a.isNone) w := fun w a n c n' c' => Lib.run_eql_slice_nil w _ _ a n c n' c' Tryz.underlying50
    go_enter Tryz.func97, Tryz.ntmps97
    go_wp2_with (at_builtin; refine wpList_append_fed _ rfl _ _ 50 50 rfl w.heap.size 86 i0 _ 2 24 Tryz.underlying50 (.inr ⟨_, Tryz.underlying50⟩) HI.out HZ0.out HZ1.out HZ2.out rfl _ 0 [] rfl (OwnG.made (Nat.le_refl _) 86 2 #[] 0 (Nat.zero_le _) rfl) (.slice (some a) l.length cap) l.length _ rfl HF.out ?c3 ?c4 ?c5 ?_)
    case c3 => unfold maxLen; omega
    case c4 => omega
    case c5 => rw [World.size_alloc]; omega
    intro v' w1 hown hgrow
    have HO := Lib.hid hown
    have HB := Lib.hid (((Below.refl w.heap.size w).alloc (Nat.le_refl _) (.cells #[] 86)).grown hgrow (by rw [World.size_alloc]; omega) (fun k hk => by cases hk; exact Nat.le_refl _))
    clear hown hgrow
    go_wp2_with fail
    go_ret
    exact ⟨_, rfl, by have := HO.out; simpa using this, HB.out⟩
end Go.Proofs.YtlbaockipeojhaaGreat
