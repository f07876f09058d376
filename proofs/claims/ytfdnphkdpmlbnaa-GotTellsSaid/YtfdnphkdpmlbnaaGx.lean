/-
  Two rows of gaps compared: contract.
-/
import Derived.Test.YtfdnphkdpmlbnaaGk
import Derived.Test.YtfdnphkdpmlbnaaGj
import Derived.Test.YtfdnphkdpmlbnaaWaits
namespace Go.Proofs.Ytfdnphkdpmlbnaa
open Go.RowKit
set_option linter.unusedVariables false
set_option linter.unusedSimpArgs false
set_option maxRecDepth 100000

theorem equal_arr (x y : Nat) (w : World) : (Op.equalIn 10000 59 (.agg #[.int .u16 (x : Int), .int .u16 (y : Int)]) (.agg #[.int .u16 (x : Int), .int .u16 (y : Int)])).run Try.prog w = .ok true w := by
  obtain ⟨i, hi⟩ := info_of_underlying Try.underlying41
  have hc : Try.prog.cellsOf 41 = 1 := by kernel_rfl
  rw [run_equalIn_array w 9999 _ _ Try.underlying59 hi, hc]
  simp [Op.eqItems, go_sem, List.range, List.range.loop]
theorem infoH2 : (Try.prog.info? 59).map (·.size) = some 2 := by kernel_rfl
set_option maxHeartbeats 1000000 in
theorem samegaps_any (l : List (Nat × Nat)) (hl : l.length ≤ 1000000) (v1 v2 : Value) (w : World) (h1 : RowG w v1 l) (h2 : RowG w v2 l) : Calls Try.prog 22 #[v1, v2] w fun e w' => e = .returned (.bool true) ∧ Below w.heap.size w w' := by
  obtain ⟨A, cap, rfl, hcap, hmax, hcells⟩ := h1
  obtain ⟨A', cap', rfl, hcap', hmax', hcells'⟩ := h2
  have hlN : (l.length : Int) ≤ 1000000 := by omega
  have HC := Lib.hid hcells
  have HC' := Lib.hid hcells'
  clear hcells hcells'
  go_enter Try.func22, Try.ntmps22
  go_wp2_with fail
  go_loopw [5] (fun i wr => ∃ k : Nat, k ≤ l.length ∧ i = .int .i64 k ∧ Hid (Below w.heap.size w wr))
    (fun i _ => l.length - (intOf i).toNat)
  case atStart => exact ⟨0, Nat.zero_le _, rfl, Lib.hid (Below.refl _ _)⟩
  case round =>
    obtain ⟨j, hk, rfl, HW⟩ := hrel
    by_cases hlt : j < l.length
    · obtain ⟨b, off, rfl, hb, hc⟩ := HC.out (by omega)
      obtain ⟨b', off', rfl, hb', hc'⟩ := HC'.out (by omega)
      have H1 : Hid (∀ V, Below w.heap.size w V → V.rangeAt b (off + j * 2) [.int .u16 (l[j].1 : Int), .int .u16 (l[j].2 : Int)]) := Lib.hid (fun V hV i u hu => by
        rcases (by have := (List.getElem?_eq_some_iff.1 hu).1; simp at this; omega : i = 0 ∨ i = 1) with rfl | rfl
        · exact (Option.some.inj hu) ▸ ((hV.cell (p := ⟨b, off + j * 2, none⟩) hb).trans (hc j hlt).1)
        · exact (Option.some.inj hu) ▸ ((hV.cell (p := ⟨b, off + j * 2 + 1, none⟩) hb).trans (hc j hlt).2))
      have H2 : Hid (∀ V, Below w.heap.size w V → V.rangeAt b' (off' + j * 2) [.int .u16 (l[j].1 : Int), .int .u16 (l[j].2 : Int)]) := Lib.hid (fun V hV i u hu => by
        rcases (by have := (List.getElem?_eq_some_iff.1 hu).1; simp at this; omega : i = 0 ∨ i = 1) with rfl | rfl
        · exact (Option.some.inj hu) ▸ ((hV.cell (p := ⟨b', off' + j * 2, none⟩) hb').trans (hc' j hlt).1)
        · exact (Option.some.inj hu) ▸ ((hV.cell (p := ⟨b', off' + j * 2 + 1, none⟩) hb').trans (hc' j hlt).2))
      have q4 : (0 : Int) ≤ (j : Int) := by omega
      have q5 : (j : Int) < (l.length : Int) := by omega
      clear hc hc'
      generalize l[j].1 = x at *
      generalize l[j].2 = y at *
      have HNE := Lib.hid (fun W => equal_arr x y W)
      have HS : (fun V => V.rangeAt b (off + j * 2) [.int .u16 (x : Int), .int .u16 (y : Int)] ∧ V.rangeAt b' (off' + j * 2) [.int .u16 (x : Int), .int .u16 (y : Int)] ∧ Below w.heap.size w V) wr.drew := ⟨H1.out _ (below_drawn HW.out), H2.out _ (below_drawn HW.out), below_drawn HW.out⟩
      clear HW
      go_wp2_with fail
      refine wp_region_noPanic ?_
      refine wp_region_waits (S := (fun V => V.rangeAt b (off + j * 2) [.int .u16 (x : Int), .int .u16 (y : Int)] ∧ V.rangeAt b' (off' + j * 2) [.int .u16 (x : Int), .int .u16 (y : Int)] ∧ Below w.heap.size w V)) [] (by kernel_rfl) HS (fun hHeld => ?_)
      clear HS
      refine wpAnyW_take (i := 0) (v := ?_) (by simp only [List.getElem?_toArray, List.getElem?_cons_zero]; rfl) (by kernel_rfl) (by kernel_rfl) (by kernel_rfl) (by kernel_rfl) (by kernel_rfl) (fun _ _ _ h => h) (Or.inl ⟨by rfl, ?_⟩) (by assumption) ?_
      rotate_left 1
      · (intro w' hSw; go_simp; try with_reducible rfl)
      try simp only [Act.put, List.setIfInBounds_toArray, List.set_cons_zero, List.set_cons_succ]
      refine wpAnyW_take (i := 1) (v := ?_) (by simp only [List.getElem?_toArray, List.getElem?_cons_succ, List.getElem?_cons_zero]; rfl) (by kernel_rfl) (by kernel_rfl) (by kernel_rfl) (by kernel_rfl) (by kernel_rfl) (fun _ _ _ h => h) (Or.inl ⟨by rfl, ?_⟩) (by assumption) ?_
      rotate_left 1
      · (intro w' hSw; go_simp; try with_reducible rfl)
      try simp only [Act.put, List.setIfInBounds_toArray, List.set_cons_zero, List.set_cons_succ]
      refine wpAnyW_take (i := 2) (v := ?_) (by simp only [List.getElem?_toArray, List.getElem?_cons_succ, List.getElem?_cons_zero]; rfl) (by kernel_rfl) (by kernel_rfl) (by kernel_rfl) (by kernel_rfl) (by kernel_rfl) (fun _ _ _ h => h) (Or.inl ⟨by rfl, ?_⟩) (by assumption) ?_
      rotate_left 1
      · (intro w' hSw; go_simp; try with_reducible rfl)
      try simp only [Act.put, List.setIfInBounds_toArray, List.set_cons_zero, List.set_cons_succ]
      refine wpAnyW_take (i := 3) (v := _) (by simp only [List.getElem?_toArray, List.getElem?_cons_succ, List.getElem?_cons_zero]; rfl) (by kernel_rfl) (by kernel_rfl) (by kernel_rfl) (by kernel_rfl) (by kernel_rfl) (fun _ _ _ h => h) (yieldsIf_load_mid (S := (fun V => V.rangeAt b (off + j * 2) [.int .u16 (x : Int), .int .u16 (y : Int)] ∧ V.rangeAt b' (off' + j * 2) [.int .u16 (x : Int), .int .u16 (y : Int)] ∧ Below w.heap.size w V)) (by rfl) 59 _ rfl _ _ rfl [.int .u16 (x : Int), .int .u16 (y : Int)] _ (fun V h => h.1) Try.underlying59 rfl infoH2) (by assumption) ?_
      try simp only [Act.put, List.setIfInBounds_toArray, List.set_cons_zero, List.set_cons_succ]
      refine wpAnyW_take (i := 4) (v := ?_) (by simp only [List.getElem?_toArray, List.getElem?_cons_succ, List.getElem?_cons_zero]; rfl) (by kernel_rfl) (by kernel_rfl) (by kernel_rfl) (by kernel_rfl) (by kernel_rfl) (fun _ _ _ h => h) (Or.inl ⟨by rfl, ?_⟩) (by assumption) ?_
      rotate_left 1
      · (intro w' hSw; go_simp; try with_reducible rfl)
      try simp only [Act.put, List.setIfInBounds_toArray, List.set_cons_zero, List.set_cons_succ]
      refine wpAnyW_take (i := 5) (v := ?_) (by simp only [List.getElem?_toArray, List.getElem?_cons_succ, List.getElem?_cons_zero]; rfl) (by kernel_rfl) (by kernel_rfl) (by kernel_rfl) (by kernel_rfl) (by kernel_rfl) (fun _ _ _ h => h) (Or.inl ⟨by rfl, ?_⟩) (by assumption) ?_
      rotate_left 1
      · (intro w' hSw; go_simp; try with_reducible rfl)
      try simp only [Act.put, List.setIfInBounds_toArray, List.set_cons_zero, List.set_cons_succ]
      refine wpAnyW_take (i := 6) (v := ?_) (by simp only [List.getElem?_toArray, List.getElem?_cons_succ, List.getElem?_cons_zero]; rfl) (by kernel_rfl) (by kernel_rfl) (by kernel_rfl) (by kernel_rfl) (by kernel_rfl) (fun _ _ _ h => h) (Or.inl ⟨by rfl, ?_⟩) (by assumption) ?_
      rotate_left 1
      · (intro w' hSw; go_simp; try with_reducible rfl)
      try simp only [Act.put, List.setIfInBounds_toArray, List.set_cons_zero, List.set_cons_succ]
      refine wpAnyW_take (i := 7) (v := _) (by simp only [List.getElem?_toArray, List.getElem?_cons_succ, List.getElem?_cons_zero]; rfl) (by kernel_rfl) (by kernel_rfl) (by kernel_rfl) (by kernel_rfl) (by kernel_rfl) (fun _ _ _ h => h) (yieldsIf_load_mid (S := (fun V => V.rangeAt b (off + j * 2) [.int .u16 (x : Int), .int .u16 (y : Int)] ∧ V.rangeAt b' (off' + j * 2) [.int .u16 (x : Int), .int .u16 (y : Int)] ∧ Below w.heap.size w V)) (by rfl) 59 _ rfl _ _ rfl [.int .u16 (x : Int), .int .u16 (y : Int)] _ (fun V h => h.2.1) Try.underlying59 rfl infoH2) (by assumption) ?_
      try simp only [Act.put, List.setIfInBounds_toArray, List.set_cons_zero, List.set_cons_succ]
      refine wpAnyW_take (i := 8) (v := ?_) (by simp only [List.getElem?_toArray, List.getElem?_cons_succ, List.getElem?_cons_zero]; rfl) (by kernel_rfl) (by kernel_rfl) (by kernel_rfl) (by kernel_rfl) (by kernel_rfl) (fun _ _ _ h => h) (Or.inl ⟨by rfl, ?_⟩) (by assumption) ?_
      rotate_left 1
      · (intro w' hSw; have hn9 := HNE.out w'; go_simp; try with_reducible rfl)
      try simp only [Act.put, List.setIfInBounds_toArray, List.set_cons_zero, List.set_cons_succ]
      have hWQ := Lib.hid hHeld.2.2
      clear hHeld
      refine wpAnyW_done (by kernel_rfl) ?_ _
      refine NoPanic.normal ?_
      go_wp2_with fail
      go_roundw
      case rel => first | exact ⟨j + 1, by omega, by go_num, Lib.hid hWQ.out⟩ | ((repeat apply Exists.intro); exact ⟨⟨j + 1, by omega, by go_num, Lib.hid hWQ.out⟩, rfl⟩)
      case measure => simp [intOf]; omega
    · obtain rfl : j = l.length := by omega
      go_wp2_with fail
      go_ret
      exact ⟨rfl, HW.out⟩
end Go.Proofs.Ytfdnphkdpmlbnaa
