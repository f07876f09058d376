/-
  Package ip: addresses as people write them (the chapter's examples): contracts.
-/
import Derived.Test.YtgodhbliamlclaaDoorFmt
import Derived.Test.YtgodhbliamlclaaDoorShelf
import Derived.Maps.AppendAt
namespace Go.Proofs.YtgodhbliamlclaaDoor
open Go.RowKit
set_option linter.unusedVariables false

theorem infoS : (Tryd.prog.info? 9).map (fun i => (i.zero, i.size, i.bytes)) = some (some (.string ⟨#[]⟩), 1, 16) := by kernel_rfl
/-- Words, collected. -/
def Ws (w : World) (B Bs Ba : Nat) (s : ByteArray) (j : Nat) (l : List ByteArray) (v : Value) (W : World) : Prop :=
  Tk W Bs Ba s j ∧ W.ownsRow B 9 1 v l.length (l.map Value.string) ∧ Below w.heap.size w W ∧ (Bs < B ∧ Ba < B) ∧ (w.heap.size ≤ B ∧ B ≤ W.heap.size ∧ w.heap.size ≤ Bs ∧ w.heap.size ≤ Ba)
section
variable {w W Y : World} {B Bs Ba j : Nat} {s : ByteArray} {l : List ByteArray} {v : Value}
theorem Ws.to {j' : Nat} (h : Ws w B Bs Ba s j l v W) (ht : Tk Y Bs Ba s j') (hg : W.grownBy Y (some Ba)) : Ws w B Bs Ba s j' l v Y := by
  refine ⟨ht, h.2.1.kept hg ?_, h.2.2.1.trans (below_of_grown hg h.2.2.1.size h.2.2.2.2.2.2.2), h.2.2.2.1, h.2.2.2.2.1, Nat.le_trans h.2.2.2.2.2.1 hg.size, h.2.2.2.2.2.2⟩
  cases hv : v.ownBlock with
  | none => exact .inl rfl
  | some b => exact .inr (by have := h.2.1.lt b hv; have := h.2.2.2.1.2; intro e; injection e; omega)
theorem Ws.later (h : Ws w B Bs Ba s j l v W) (hb : Below W.heap.size W Y) : Ws w B Bs Ba s j l v Y := h.to (h.1.later hb) (grownBy_of_below hb)
theorem Ws.more (h : Ws w B Bs Ba s j l v W) (x : ByteArray) {v' : Value} (hown : Y.ownsRow B 9 1 v' (l.length + 1) (l.map Value.string ++ [.string x])) (hg : W.grownBy Y v.ownBlock) : Ws w B Bs Ba s j (l ++ [x]) v' Y := by
  have hlt := h.2.1.lt
  have hb := h.2.2.2.1
  have hw := h.2.2.2.2
  refine ⟨h.1.kept hg ?_ ?_, ?_, h.2.2.1.grown hg h.2.2.1.size fun k hk => by have := hlt k hk; omega, hb, hw.1, Nat.le_trans hw.2.1 hg.size, hw.2.2⟩
  · intro e
    have := hlt Bs e.symm
    omega
  · intro e
    have := hlt Ba e.symm
    omega
  · have e : (l ++ [x]).map Value.string = l.map Value.string ++ [.string x] := by simp
    rw [e, List.length_append]
    exact hown
end
/-- What is collected reads as a row of texts. -/
theorem Ws.cells {w W : World} {B Bs Ba j : Nat} {s : ByteArray} {l : List ByteArray} {v : Value} (h : Ws w B Bs Ba s j l v W) (hl : 0 < l.length) : ∃ g cap, v = .slice (some ⟨g, 0, none⟩) l.length cap ∧ g < W.heap.size ∧ l.length ≤ cap ∧ ∀ (i : Nat) x, l[i]? = some x → W.cell? ⟨g, 0 + i, none⟩ = some (.string x) := by
  have h2 := h.2.1
  obtain ⟨A, cap, hv, hc, _, _⟩ := own_slice h2
  obtain ⟨g, cap', hv', _, hg⟩ := own_form h2 hl
  subst hv'
  injection hv with _ _ hcc
  subst hcc
  refine ⟨g, _, rfl, hg, hc, fun i x hx => ?_⟩
  have hi : i < l.length := (List.getElem?_eq_some_iff.1 hx).1
  rw [Nat.zero_add, h2.cellAt i (by omega), List.getElem?_map, hx]
  rfl

set_option maxHeartbeats 4000000 in
theorem text_four (s : ByteArray) (hs : s.size = 4) (F : Nat → ByteArray) (hI : ∀ j W, j < 4 → Calls Tryd.prog 27 #[.int .i64 (byteAt s.data.toList j : Nat)] W fun e w' => e = .returned (.string (F j)) ∧ w' = W)
    (hj : (Lib.join (((List.range 4).map F).map (·.data.toList)) (⟨#[46]⟩ : ByteArray).data.toList).length ≤ 140737488355328) (w : World) :
    Calls Tryd.prog 17 #[.string s] w fun e w' => e = .returned (.string ⟨(Lib.join (((List.range 4).map F).map (·.data.toList)) (⟨#[46]⟩ : ByteArray).data.toList).toArray⟩) ∧ Below w.heap.size w w' := by
  obtain ⟨i0, hi0, hz0, hz1, hz2⟩ := info_parts infoS
  have hl4 : ((s.size : Int) == 4) = true := by simp; omega
  have hl6 : ((s.size : Int) == 16) = false := by simp; omega
  have HN := Lib.hid (fun (j : Nat) W (hj : j < 4) h => next_any (w.heap.size) (w.heap.size + 1) s (by unfold maxLen; omega) j (by omega) W h)
  have HI := Lib.hid hI
  have HBL := Lib.hid (fun (j : Nat) => byteAt_lt s.data.toList j)
  have HJ : Hid (∀ u W, Ws w W.heap.size w.heap.size (w.heap.size + 1) s 4 ((List.range 4).map F) u W → True) := Lib.hid (fun _ _ _ => trivial)
  have HJN : Hid (∀ B u W, Ws w B w.heap.size (w.heap.size + 1) s 4 ((List.range 4).map F) u W → Calls Tryd.prog 28 #[u, .string ⟨#[46]⟩] W fun e w' => e = .returned (.string ⟨(Lib.join (((List.range 4).map F).map (·.data.toList)) (⟨#[46]⟩ : ByteArray).data.toList).toArray⟩) ∧ Below W.heap.size W w') := by
    refine Lib.hid fun B u W h => ?_
    obtain ⟨g, cap, rfl, hg, hcap, hcells⟩ := h.cells (by simp)
    exact Tryd.strings_Join g 0 cap ((List.range 4).map F) ⟨#[46]⟩ W hcells hg (by simp) hcap hj
  clear hs hj hI HJ
  generalize (⟨(Lib.join (((List.range 4).map F).map (·.data.toList)) (⟨#[46]⟩ : ByteArray).data.toList).toArray⟩ : ByteArray) = res at *
  go_enter Tryd.func17, Tryd.ntmps17
  go_wp2_with fail
  refine (taker_made s w).mono ?_
  rintro e w1 ⟨rfl, ht1, hb1⟩
  have hbs := ht1.2.1.lt
  have HW0 := Lib.hid (show Ws w w1.heap.size w.heap.size (w.heap.size + 1) s 0 ([] : List ByteArray) (.slice none 0 0) w1 from ⟨ht1, World.ownsRow_nil _ _ _ _, hb1, ⟨by omega, by omega⟩, hb1.size, Nat.le_refl _, Nat.le_refl _, by omega⟩)
  clear ht1 hb1 hbs
  unfold nextV
  generalize w1.heap.size = B at *
  go_wp2_with fail
  have HI0 := Lib.hid hi0
  have HZ0 := Lib.hid hz0
  have HZ1 := Lib.hid hz1
  have HZ2 := Lib.hid hz2
  clear hi0 hz0 hz1 hz2
  go_loopw [4, 11] (fun v i wr => ∃ k : Nat, k ≤ 4 ∧ i = .int .i64 k ∧ Hid (Ws w B w.heap.size (w.heap.size + 1) s k ((List.range k).map F) v wr)) (fun _ i _ => 4 - (intOf i).toNat)
  case atStart => exact ⟨0, by omega, rfl, HW0⟩
  case round =>
    obtain ⟨k, hk, rfl, HR⟩ := hrel
    by_cases hlt : k < 4
    · have hb := HBL.out k
      go_wp2_with fail
      refine (HN.out k wr hlt HR.out.1).mono ?_
      rintro e w2 ⟨rfl, ht2, hg2⟩
      have HR2 := Lib.hid (HR.out.to ht2 hg2)
      clear ht2 hg2
      have hIt := HI.out k w2 hlt
      generalize byteAt s.data.toList k = b at *
      have HIt := Lib.hid hIt
      clear hIt
      go_wp2_with fail
      refine HIt.out.mono ?_
      rintro e w3 ⟨rfl, rfl⟩
      have HRa := Lib.hid (HR2.out.later ((Below.refl w3.heap.size w3).alloc (Nat.le_refl _) (.cells #[.string (F k)] 9)))
      have hsz := HR2.out.2.2.2.2.2.1
      have hll : ((List.range k).map F).length = k := by simp
      have HLL := Lib.hid hll
      have HX := Lib.hid (show (List.range (k + 1)).map F = (List.range k).map F ++ [F k] by rw [List.range_succ, List.map_append]; rfl)
      clear HIt HR hll
      generalize F k = x at *
      go_wp2_with (at_builtin; refine wpList_append_own _ rfl (.tmp 13) (.tmp 18) 52 rfl B 9 i0 (.string ⟨#[]⟩) 1 16 Tryd.underlying52 HI0.out HZ0.out HZ1.out HZ2.out rfl (by decide) _ _ _ ?c0 HRa.out.2.1 ⟨_, 0, none⟩ 1 1 [.string x] rfl rfl ?c1 ?c2 ?c3 ?c4 ?c5 ?_)
      case c0 => rfl
      case c1 => exact new_cells w3 _ _
      case c2 => intro u hu; simp at hu; subst hu; rfl
      case c3 => rw [HLL.out]; unfold maxLen; omega
      case c4 => rw [HLL.out]; omega
      case c5 => simp; omega
      intro v4 w4 hown hgr _
      rw [← List.map_map, show k + 1 = ((List.range k).map F).length + 1 by rw [HLL.out]] at hown
      have HQ := Lib.hid (HRa.out.more x hown hgr)
      rw [← HX.out] at HQ
      clear hown hgr HRa HR2
      go_wp2_with fail
      go_roundw
      case rel => exact ⟨k + 1, by omega, by go_num, HQ⟩
      case measure => simp [intOf]; omega
    · obtain rfl : k = 4 := by omega
      have HB := Lib.hid HR.out.2.2.1
      go_wp2_with fail
      refine (HJN.out B _ wr HR.out).mono ?_
      rintro e w5 ⟨rfl, hb5⟩
      have HB5 := Lib.hid (HB.out.trans (hb5.mono HB.out.size))
      clear hb5 HB
      go_wp2_with fail
      go_ret
      exact ⟨rfl, HB5.out⟩
set_option maxHeartbeats 4000000 in
theorem text_sixteen (s : ByteArray) (hs : s.size = 16) (F : Nat → ByteArray) (hI : ∀ j W, j < 8 → Kub W → Calls Tryd.prog 29 #[.int .i64 (num s.data.toList (2 * j) : Nat), .int .i64 16] W fun e w' => e = .returned (.string (F j)) ∧ Below W.heap.size W w')
    (hj : (Lib.join (((List.range 8).map F).map (·.data.toList)) (⟨#[58]⟩ : ByteArray).data.toList).length ≤ 140737488355328) (w : World) (hK : Kub w) :
    Calls Tryd.prog 17 #[.string s] w fun e w' => e = .returned (.string ⟨(Lib.join (((List.range 8).map F).map (·.data.toList)) (⟨#[58]⟩ : ByteArray).data.toList).toArray⟩) ∧ Below w.heap.size w w' := by
  obtain ⟨i0, hi0, hz0, hz1, hz2⟩ := info_parts infoS
  have hl4 : ((s.size : Int) == 4) = false := by simp; omega
  have hl6 : ((s.size : Int) == 16) = true := by simp; omega
  have HKB := Lib.hid hK
  have HN := Lib.hid (fun (j : Nat) W (hj : j < 8) h => number_two (w.heap.size) (w.heap.size + 1) s (by unfold maxLen; omega) (2 * j) (by omega) W h)
  have HI := Lib.hid hI
  have HBL := Lib.hid (fun (j : Nat) => num_lt s.data.toList (2 * j))
  have HJ : Hid (∀ u W, Ws w W.heap.size w.heap.size (w.heap.size + 1) s 16 ((List.range 8).map F) u W → True) := Lib.hid (fun _ _ _ => trivial)
  have HJN : Hid (∀ B u W, Ws w B w.heap.size (w.heap.size + 1) s 16 ((List.range 8).map F) u W → Calls Tryd.prog 28 #[u, .string ⟨#[58]⟩] W fun e w' => e = .returned (.string ⟨(Lib.join (((List.range 8).map F).map (·.data.toList)) (⟨#[58]⟩ : ByteArray).data.toList).toArray⟩) ∧ Below W.heap.size W w') := by
    refine Lib.hid fun B u W h => ?_
    obtain ⟨g, cap, rfl, hg, hcap, hcells⟩ := h.cells (by simp)
    exact Tryd.strings_Join g 0 cap ((List.range 8).map F) ⟨#[58]⟩ W hcells hg (by simp) hcap hj
  clear hs hj hI HJ hK
  generalize (⟨(Lib.join (((List.range 8).map F).map (·.data.toList)) (⟨#[58]⟩ : ByteArray).data.toList).toArray⟩ : ByteArray) = res at *
  go_enter Tryd.func17, Tryd.ntmps17
  go_wp2_with fail
  refine (taker_made s w).mono ?_
  rintro e w1 ⟨rfl, ht1, hb1⟩
  have hbs := ht1.2.1.lt
  have HW0 := Lib.hid (show Ws w w1.heap.size w.heap.size (w.heap.size + 1) s 0 ([] : List ByteArray) (.slice none 0 0) w1 from ⟨ht1, World.ownsRow_nil _ _ _ _, hb1, ⟨by omega, by omega⟩, hb1.size, Nat.le_refl _, Nat.le_refl _, by omega⟩)
  clear ht1 hb1 hbs
  skip
  generalize w1.heap.size = B at *
  go_wp2_with fail
  have HI0 := Lib.hid hi0
  have HZ0 := Lib.hid hz0
  have HZ1 := Lib.hid hz1
  have HZ2 := Lib.hid hz2
  clear hi0 hz0 hz1 hz2
  go_loopw [4, 25] (fun v i wr => ∃ k : Nat, k ≤ 8 ∧ i = .int .i64 k ∧ Hid (Ws w B w.heap.size (w.heap.size + 1) s (2 * k) ((List.range k).map F) v wr)) (fun _ i _ => 8 - (intOf i).toNat)
  case atStart => exact ⟨0, by omega, rfl, HW0⟩
  case round =>
    obtain ⟨k, hk, rfl, HR⟩ := hrel
    by_cases hlt : k < 8
    · have hb := HBL.out k
      go_wp2_with fail
      refine (HN.out k wr hlt HR.out.1).mono ?_
      rintro e w2 ⟨rfl, ht2, hg2⟩
      have HR2 := Lib.hid (HR.out.to ht2 hg2)
      clear ht2 hg2
      have hIt := HI.out k w2 hlt (HKB.out.later HR2.out.2.2.1)
      generalize num s.data.toList (2 * k) = b at *
      have HIt := Lib.hid hIt
      clear hIt
      go_wp2_with fail
      refine HIt.out.mono ?_
      rintro e w3 ⟨rfl, hb3⟩
      have HR3 := Lib.hid (HR2.out.later hb3)
      clear hb3 HR2
      have HR2 := HR3
      clear HR3
      have HRa := Lib.hid (HR2.out.later ((Below.refl w3.heap.size w3).alloc (Nat.le_refl _) (.cells #[.string (F k)] 9)))
      have hsz := HR2.out.2.2.2.2.2.1
      have hll : ((List.range k).map F).length = k := by simp
      have HLL := Lib.hid hll
      have HX := Lib.hid (show (List.range (k + 1)).map F = (List.range k).map F ++ [F k] by rw [List.range_succ, List.map_append]; rfl)
      clear HIt HR hll
      generalize F k = x at *
      go_wp2_with (at_builtin; refine wpList_append_own _ rfl (.tmp 27) (.tmp 31) 52 rfl B 9 i0 (.string ⟨#[]⟩) 1 16 Tryd.underlying52 HI0.out HZ0.out HZ1.out HZ2.out rfl (by decide) _ _ _ ?c0 HRa.out.2.1 ⟨_, 0, none⟩ 1 1 [.string x] rfl rfl ?c1 ?c2 ?c3 ?c4 ?c5 ?_)
      case c0 => rfl
      case c1 => exact new_cells w3 _ _
      case c2 => intro u hu; simp at hu; subst hu; rfl
      case c3 => rw [HLL.out]; unfold maxLen; omega
      case c4 => rw [HLL.out]; omega
      case c5 => simp; omega
      intro v4 w4 hown hgr _
      rw [← List.map_map, show k + 1 = ((List.range k).map F).length + 1 by rw [HLL.out]] at hown
      have HQ := Lib.hid (HRa.out.more x hown hgr)
      rw [← HX.out] at HQ
      clear hown hgr HRa HR2
      go_wp2_with fail
      go_roundw
      case rel => exact ⟨k + 1, by omega, by go_num, HQ⟩
      case measure => simp [intOf]; omega
    · obtain rfl : k = 8 := by omega
      have HB := Lib.hid HR.out.2.2.1
      go_wp2_with fail
      refine (HJN.out B _ wr HR.out).mono ?_
      rintro e w5 ⟨rfl, hb5⟩
      have HB5 := Lib.hid (HB.out.trans (hb5.mono HB.out.size))
      clear hb5 HB
      go_wp2_with fail
      go_ret
      exact ⟨rfl, HB5.out⟩
end Go.Proofs.YtgodhbliamlclaaDoor
