/-
  Items have as many bytes as their values, four more each, and noughts up to multiples of four; the first of a type is found, whatever stands behind it: any items (of at most 60, of at most 2000 bytes each; others are not asked of), any item (of at most 2000 bytes).
-/
import Derived.Test.YtkganhpfagnmjaaLift
import Derived.Test.YtkganhpfagnmjaaShown
import Derived.Test.YtkganhpfagnmjaaArgs
import Derived.Test.YtkganhpfagnmjaaConv
import Derived.Test.YtkganhpfagnmjaaBuild
import Derived.Test.YtkganhpfagnmjaaFind
import Derived.Test.YtkganhpfagnmjaaFed
import Derived.Test.YtkganhpfagnmjaaOwn
namespace Go.Proofs.Ytkganhpfagnmjaa.tlvSizes
open Go.ChangeShapes Go.WideShapes Go.ChangeAt Go.RowKit
set_option linter.unusedVariables false

theorem item_bytes (n : Nat) : sizeV n = 4 + n + padN n := by unfold sizeV; rw [padN_head]
/-- What the first statement of the law asks is not so. -/
theorem built_cases (l : List Item) : ((buildB l).2 = 0 ∧ (buildB l).1.size = (rowL l).length) ∨ (buildB l).2 = 1 ∨ ((buildB l).2 = 4 ∧ 4000 < (rowL l).length) ∨ ((buildB l).2 = 4 ∧ (rowL l).length ≤ 4000 ∧ 1400 < largestB l) := by
  by_cases h1 : anyWrong l = true
  · right; left; unfold buildB; rw [if_pos h1]
  by_cases h2 : anyLong l = true
  · have e : buildB l = (⟨#[]⟩, 4) := by unfold buildB; rw [if_neg h1, if_pos h2]
    rw [e]
    have hl : 1400 < largestB l := by
      apply Nat.lt_of_not_le
      intro hc
      rw [largest_long l hc] at h2
      exact absurd h2 (by decide)
    by_cases h3 : 4000 < (rowL l).length
    · exact .inr (.inr (.inl ⟨rfl, h3⟩))
    · exact .inr (.inr (.inr ⟨rfl, by omega, hl⟩))
  by_cases h3 : 4000 < (rowL l).length
  · right; right; left
    refine ⟨?_, h3⟩
    unfold buildB
    rw [if_neg h1, if_neg h2, if_pos h3]
  · left
    have e : buildB l = (⟨(rowL l).toArray⟩, 0) := by unfold buildB; rw [if_neg h1, if_neg h2, if_neg h3]
    rw [e]
    exact ⟨rfl, by simp [ByteArray.size]⟩

set_option maxHeartbeats 16000000 in
set_option maxRecDepth 100000 in
theorem walk (l : List Item) (v : Value) (k : Int) (t : ByteArray) (hm : l.length ≤ maxLen) (ht : t.size ≤ maxLen) (w : World) (hv : RowI w v l) :
    Calls Try.prog 7 #[v, .agg #[.int .i64 k, .string t]] w fun e w' => e = .returned (.bool true) ∧ Below w.heap.size w w' := by
  have HB := Lib.hid ((Below.refl w.heap.size w).alloc (Nat.le_refl _) (.cells #[.int .i64 k, .string t] 47))
  have HX : Hid (ItAt (w.alloc (.cells #[.int .i64 k, .string t] 47)) w.heap.size 47 k t) := Lib.hid (heap_alloc_new _ _)
  have RV := Lib.hid (RowI.below hv ((Below.refl w.heap.size w).alloc (Nat.le_refl _) (.cells #[.int .i64 k, .string t] 47)))
  obtain ⟨A, cap, rfl, _⟩ := id hv
  have HSM := Lib.hid (fun W h => small_any l hm (.slice A l.length cap) W h)
  clear hv
  unfold maxLen at ht
  cases hsb : smallB l with
  | false =>
    rw [hsb] at HSM
    clear hsb
    go_enter Try.func7, Try.ntmps7
    go_wp2_with (first
    | (go_at_call 9; go_loud (((with_reducible refine (shown_any _).mono ?_); rintro e w1 ⟨rfl, hb1⟩); replace HB := Lib.hid (HB.out.trans (hb1.mono HB.out.size)); replace RV := Lib.hid (RV.out.below hb1); replace HX := Lib.hid (ItAt.later HX.out hb1); have c0 := ItAt.c0 HX.out; have c1 := ItAt.c1 HX.out; clear hb1))
    | (go_at_call 10; ((with_reducible refine (HSM.out _ RV.out).mono ?_); rintro e w1 ⟨rfl, rfl⟩)))
    go_ret
    exact ⟨rfl, HB.out⟩
  | true =>
    rw [hsb] at HSM
    obtain ⟨hl, hs⟩ := small_gives hsb
    clear hsb
    by_cases c2 : 2000 < t.size
    · have c2' : (2000 : Int) < (t.size : Int) := by omega
      go_enter Try.func7, Try.ntmps7
      go_wp2_with (first
    | (go_at_call 9; go_loud (((with_reducible refine (shown_any _).mono ?_); rintro e w1 ⟨rfl, hb1⟩); replace HB := Lib.hid (HB.out.trans (hb1.mono HB.out.size)); replace RV := Lib.hid (RV.out.below hb1); replace HX := Lib.hid (ItAt.later HX.out hb1); have c0 := ItAt.c0 HX.out; have c1 := ItAt.c1 HX.out; clear hb1))
    | (go_at_call 10; ((with_reducible refine (HSM.out _ RV.out).mono ?_); rintro e w1 ⟨rfl, rfl⟩)))
      go_ret
      exact ⟨rfl, HB.out⟩
    have c2' : ¬ (2000 : Int) < (t.size : Int) := by omega
    have hs2 : ∀ x ∈ l, x.2.size ≤ 1000000 := fun x hx => Nat.le_trans (hs x hx) (by omega)
    have H1 := Lib.hid (fun W h => build_any l (by omega) hs2 (.slice A l.length cap) W h)
    have H2 := Lib.hid (fun W h => largest_any l (by omega) (.slice A l.length cap) W h)
    have H3 := Lib.hid (fun W h => find_any l (by omega) hs2 k (.slice A l.length cap) W h)
    have hl1 : (l ++ [((k, t) : Item)]).length ≤ 100000 := by rw [List.length_append]; simp; omega
    have hs3 : ∀ x ∈ l ++ [((k, t) : Item)], x.2.size ≤ 1000000 := fun x hx => (List.mem_append.1 hx).elim (hs2 x) (fun h => by simp at h; subst h; show t.size ≤ _; omega)
    have hl2 : (((k, t) : Item) :: l).length ≤ 100000 := by simp; omega
    have hs4 : ∀ x ∈ ((k, t) : Item) :: l, x.2.size ≤ 1000000 := fun x hx => (List.mem_cons.1 hx).elim (fun h => by subst h; show t.size ≤ _; omega) (hs2 x)
    have h5 := fun u W h => find_any (l ++ [((k, t) : Item)]) hl1 hs3 k u W h
    rw [show findB (l ++ [((k, t) : Item)]) k = if (findB l k).2 then findB l k else (t, true) from findB_last l (k, t)] at h5
    have h6 := fun u W h => find_any (((k, t) : Item) :: l) hl2 hs4 k u W h
    rw [show findB (((k, t) : Item) :: l) k = (t, true) from findB_head (k, t) l] at h6
    have H6 := Lib.hid h6
    have HBC := Lib.hid (built_cases l)
    have HLS := Lib.hid hs
    have HZ := Lib.hid (fun j (h : j < l.length) => (rowL_size_take l j h).trans (congrArg _ (item_bytes _)))
    have HZL := Lib.hid (fun j => show (rowL (l.take j)).length ≤ 60 * 2007 from by
      have h1 := rowL_le (l.take j) 2000 fun x hx => hs x (List.mem_of_mem_take hx)
      have h2 : (l.take j).length ≤ 60 := by rw [List.length_take]; omega
      exact Nat.le_trans h1 (Nat.mul_le_mul_right _ h2))
    have HZE := Lib.hid (show (rowL (l.take l.length)).length = (rowL l).length by rw [List.take_length])
    have HZ0 := Lib.hid (show (rowL (l.take 0)).length = 0 from rfl)
    have HIM := Lib.hid (info_parts info47)
    have hl' : (l.length : Int) ≤ 60 := by omega
    clear hs hs2 hl1 hs3 hl2 hs4 h6 c2
    go_enter Try.func7, Try.ntmps7
    go_wp2_with (first
    | (go_at_call 9; go_loud (((with_reducible refine (shown_any _).mono ?_); rintro e w1 ⟨rfl, hb1⟩); replace HB := Lib.hid (HB.out.trans (hb1.mono HB.out.size)); replace RV := Lib.hid (RV.out.below hb1); replace HX := Lib.hid (ItAt.later HX.out hb1); have c0 := ItAt.c0 HX.out; have c1 := ItAt.c1 HX.out; clear hb1))
    | (go_at_call 10; ((with_reducible refine (HSM.out _ RV.out).mono ?_); rintro e w1 ⟨rfl, rfl⟩)))
    obtain ⟨A', cap', hv', _, _, hcells⟩ := RV.out
    cases hv'
    have HC := Lib.hid hcells
    clear hcells
    go_loopw [7, 8] (fun n i wr => ∃ j : Nat, j ≤ l.length ∧ i = .int .i64 j ∧ n = .int .i64 ((rowL (l.take j)).length : Nat) ∧ Below w1.heap.size w1 wr)
      (fun _ i _ => l.length - (intOf i).toNat)
    case atStart => exact ⟨0, Nat.zero_le _, rfl, by rw [HZ0.out]; rfl, Below.refl _ _⟩
    case round =>
      obtain ⟨j, hj, rfl, rfl, hbr⟩ := hrel
      by_cases hlt : j < l.length
      · obtain ⟨b, off, rfl, hb, hc⟩ := HC.out (by omega)
        obtain ⟨hc0, hc1⟩ := hc j hlt
        have hx := HLS.out l[j] (List.getElem_mem hlt)
        have HT := Lib.hid (HZ.out j hlt)
        generalize l[j] = x at *
        obtain ⟨a, s⟩ := x
        dsimp only at hc0 hc1 hx HT
        have hd1 := (hbr.cell (p := ⟨b, off + j * 2 + 1, none⟩) hb).trans hc1
        have hq := HZL.out j
        have hp := padN_lt s.size
        have HP := Lib.hid (show ∀ W, Calls Try.prog 18 #[.int .i64 (s.size : Int)] W fun e w' => e = .returned (.int .i64 (padN s.size : Nat)) ∧ w' = W from fun W => by rw [← padI_nat]; exact pad_any _ (by omega) (by omega) W)
        generalize padN s.size = p at *
        generalize (rowL (l.take j)).length = q at *
        have hw1 : IntKind.i64.wrap ((q : Int) + 4) = (q : Int) + 4 := by rw [IntKind.wrap_i64]; omega
        have hw2 : IntKind.i64.wrap ((q : Int) + 4 + (s.size : Int)) = (q : Int) + 4 + (s.size : Int) := by rw [IntKind.wrap_i64]; omega
        have hw3 : IntKind.i64.wrap ((q : Int) + 4 + (s.size : Int) + (p : Int)) = (q : Int) + 4 + (s.size : Int) + (p : Int) := by rw [IntKind.wrap_i64]; omega
        have g0 : (0 : Int) ≤ (j : Int) := by omega
        have g1 : (j : Int) < (l.length : Int) := by omega
        have HB1 := Lib.hid hbr
        have HK0 := Lib.hid (And.intro ((World.cell?_drew wr ⟨b, off + j * 2 + 1, none⟩).trans hd1) hbr.drew)
        clear hc hc0 hc1 hbr c0 c1
        go_wp2_with fail
        go_region_held3 (fun w' => w'.cell? ⟨b, off + j * 2 + 1, none⟩ = some (.string s) ∧ Below w1.heap.size w1 w')
          (first | exact HK0.out | (go_split_ands; refine ⟨?_, ?_⟩ <;> assumption))
          (first | (go_at_call 18; (with_reducible refine (HP.out _).mono ?_); rintro e w2 ⟨rfl, rfl⟩))
        have HK1 := Lib.hid (HK0.out.2)
        go_wp2_with fail
        go_roundw
        case rel => exact ⟨j + 1, by omega, by go_num, by rw [HT.out]; go_num, HK1.out⟩
        case measure => simp [intOf]; omega
      · obtain rfl : j = l.length := by omega
        rw [HZE.out]
        have hZ := HZL.out l.length
        rw [HZE.out] at hZ
        replace HB := Lib.hid (HB.out.trans (hbr.mono HB.out.size))
        replace RV := Lib.hid (RV.out.below hbr)
        replace HX := Lib.hid (ItAt.later HX.out hbr)
        clear c0 c1 hbr HZ HZL HZE HZ0 HC HLS
        have c0 := HX.out.c0
        have c1 := HX.out.c1
        obtain ⟨i0, hi0, hz0, hz1, hz2⟩ := HIM.out
        have HI := Lib.hid hi0
        have Z0 := Lib.hid hz0
        have Z1 := Lib.hid hz1
        have Z2 := Lib.hid hz2
        clear hi0 hz0 hz1 hz2 HIM
        have hbc := HBC.out
        generalize buildB l = rb at *
        obtain ⟨y, e⟩ := rb
        dsimp only at hbc H1
        have HFR : Hid (∃ r, r = findB l k) := Lib.hid ⟨_, rfl⟩
        generalize findB l k = rf at *
        obtain ⟨f, fb⟩ := rf
        dsimp only at h5 H3
        have HR5 := Lib.hid (show (if fb = true then (f, fb) else (t, true)) = (if fb = true then (f, fb) else (t, true)) from rfl)
        generalize hr5 : (if fb = true then (f, fb) else (t, true)) = r5 at h5
        clear HR5
        have HR5 := Lib.hid hr5
        clear hr5
        obtain ⟨r51, r52⟩ := r5
        dsimp only at h5
        have H5 := Lib.hid h5
        generalize largestB l = lg at *
        generalize (rowL l).length = z at *
        clear h5 HBC HFR
        have hn : ((e : Int) == 0) = true ∧ ((e : Int) == 4) = false ∧ ((y.size : Int) != (z : Int)) = false ∨ ((e : Int) == 0) = false ∧ ((e : Int) == 4) = false ∨ ((e : Int) == 0) = false ∧ ((e : Int) == 4) = true ∧ ¬ (z : Int) ≤ 4000 ∨ ((e : Int) == 0) = false ∧ ((e : Int) == 4) = true ∧ (z : Int) ≤ 4000 ∧ ¬ (lg : Int) ≤ 1400 := by
          simp only [beq_iff_eq, beq_eq_false_iff_ne, bne_eq_false_iff_eq]
          omega
        clear hbc
        rcases hn with ⟨n1, n2, n3⟩ | ⟨n1, n2⟩ | ⟨n1, n2, n3⟩ | ⟨n1, n2, n3, n4⟩
        all_goals
          go_wp2_with (first
              | (go_at_call 11; go_loud (((with_reducible refine (H1.out _ RV.out).mono ?_); rintro e w1 ⟨rfl, hb1⟩); replace HB := Lib.hid (HB.out.trans (hb1.mono HB.out.size)); replace RV := Lib.hid (RV.out.below hb1); replace HX := Lib.hid (ItAt.later HX.out hb1); have c0 := ItAt.c0 HX.out; have c1 := ItAt.c1 HX.out; clear hb1))
              | (go_at_call 23; ((with_reducible refine (H2.out _ RV.out).mono ?_); rintro e w1 ⟨rfl, rfl⟩))
              | (go_at_call 14; go_loud (((with_reducible refine (H3.out _ RV.out).mono ?_); rintro e w1 ⟨rfl, hb1⟩); replace HB := Lib.hid (HB.out.trans (hb1.mono HB.out.size)); replace RV := Lib.hid (RV.out.below hb1); replace HX := Lib.hid (ItAt.later HX.out hb1); have c0 := ItAt.c0 HX.out; have c1 := ItAt.c1 HX.out; clear hb1)))
          have HKB : Hid (∀ w', Below w1.heap.size w1 w' → w'.cell? ⟨w.heap.size, 0, none⟩ = some (.int .i64 k) ∧ w'.cell? ⟨w.heap.size, 1, none⟩ = some (.string t) ∧ Below w1.heap.size w1 w') := Lib.hid (fun w' h => ⟨(ItAt.later HX.out h).c0, (ItAt.later HX.out h).c1, h⟩)
          have OE := Lib.hid (show OwnG (w1.alloc (.cells #[] 47)) w1.heap.size 47 2 (.slice (some ⟨w1.heap.size, 0, none⟩) 0 0) 0 [] from OwnG.made (Nat.le_refl _) _ 2 #[] 0 (by decide) rfl)
          have OE2 := Lib.hid (show OwnG ((w1.alloc (.cells #[.int .i64 k, .string t] 47)).alloc (.cells #[] 47)) w1.heap.size 47 2 (.slice (some ⟨w1.heap.size + 1, 0, none⟩) 0 0) 0 [] from by have := OwnG.made (w := w1.alloc (.cells #[.int .i64 k, .string t] 47)) (B := w1.heap.size) (by simp) 47 2 #[] 0 (by decide) rfl; rwa [World.size_alloc] at this)
          have HXB := Lib.hid (show ((w1.alloc (.cells #[] 47)).alloc (.cells #[.int .i64 k, .string t] 47)).drew.heap[w1.heap.size + 1]? = some (.cells #[.int .i64 k, .string t] 47 (0, 0)) from by have := World.alloc_heap_new (w1.alloc (.cells #[] 47)) (.cells #[.int .i64 k, .string t] 47); rwa [World.size_alloc] at this)
          have HXC := Lib.hid (show ((w1.alloc (.cells #[.int .i64 k, .string t] 47)).alloc (.cells #[] 47)).drew.heap[w1.heap.size]? = some (.cells #[.int .i64 k, .string t] 47 (0, 0)) from (Below.heap_alloc _ _ _ (by simp)).trans (World.alloc_heap_new w1 _))
          refine wp_region_noPanic ?_
          refine wp_region_held_drew (S := (fun w' => w'.cell? ⟨w.heap.size, 0, none⟩ = some (.int .i64 k) ∧ w'.cell? ⟨w.heap.size, 1, none⟩ = some (.string t) ∧ Below w1.heap.size w1 w')) (by kernel_rfl) ?_ (fun hHeld => ?_)
          · (first | exact HKB.out _ (Below.refl _ _).drew | exact HKB.out _ hb61 | exact HKB.out _ hb59 | exact HKB.out _ hb58 | exact HKB.out _ (hHeld.2.2.alloc hHeld.2.2.size _))
          refine wpAnyH_take (i := 1) (v := ?_) (by simp only [List.getElem?_toArray, List.getElem?_cons_succ, List.getElem?_cons_zero]; rfl) (by kernel_rfl) (by kernel_rfl) (by kernel_rfl) (fun _ _ _ h => h) (Or.inl ⟨by rfl, ?_⟩) (by assumption) ?_
          rotate_left 1
          · (intro w' hSw; (try dsimp only at hSw); go_simp; try with_reducible rfl)
          try simp only [Act.put, List.setIfInBounds_toArray, List.set_cons_zero, List.set_cons_succ]
          refine wpAnyH_take (i := 3) (v := ?_) (by simp only [List.getElem?_toArray, List.getElem?_cons_succ, List.getElem?_cons_zero]; rfl) (by kernel_rfl) (by kernel_rfl) (by kernel_rfl) (fun _ _ _ h => h) (Or.inl ⟨by rfl, ?_⟩) (by assumption) ?_
          rotate_left 1
          · (intro w' hSw; (try dsimp only at hSw); go_simp; try with_reducible rfl)
          try simp only [Act.put, List.setIfInBounds_toArray, List.set_cons_zero, List.set_cons_succ]
          refine wpAnyH_take (i := 6) (v := ?_) (by simp only [List.getElem?_toArray, List.getElem?_cons_succ, List.getElem?_cons_zero]; rfl) (by kernel_rfl) (by kernel_rfl) (by kernel_rfl) (fun _ _ _ h => h) (Or.inl ⟨by rfl, ?_⟩) (by assumption) ?_
          rotate_left 1
          · (intro w' hSw; (try dsimp only at hSw); go_simp; try with_reducible rfl)
          try simp only [Act.put, List.setIfInBounds_toArray, List.set_cons_zero, List.set_cons_succ]
          refine wpAnyH_take (i := 7) (v := ?_) (by simp only [List.getElem?_toArray, List.getElem?_cons_succ, List.getElem?_cons_zero]; rfl) (by kernel_rfl) (by kernel_rfl) (by kernel_rfl) (fun _ _ _ h => h) (Or.inl ⟨by rfl, ?_⟩) (by assumption) ?_
          rotate_left 1
          · (intro w' hSw; (try dsimp only at hSw); go_simp; try with_reducible rfl)
          try simp only [Act.put, List.setIfInBounds_toArray, List.set_cons_zero, List.set_cons_succ]
          refine wpAnyH_ready (rs := [0, 4]) (by kernel_rfl) (by simp) ?_
          refine AllReadyH.cons (by simp only [List.getElem?_toArray, List.getElem?_cons_zero]; rfl) (fun K hK => ?_) ?_
          · skip
            go_simp
            refine hK.out _ _ ?_ (fun hHeld => ?_)
            · (first | exact HKB.out _ (Below.refl _ _).drew | exact HKB.out _ hb61 | exact HKB.out _ hb59 | exact HKB.out _ hb58 | exact HKB.out _ (hHeld.2.2.alloc hHeld.2.2.size _))
            clear hK K
            try simp only [Act.put, List.setIfInBounds_toArray, List.set_cons_zero, List.set_cons_succ]
            refine wpAnyH_ready (rs := [2, 4]) (by kernel_rfl) (by simp) ?_
            refine AllReadyH.cons (by simp only [List.getElem?_toArray, List.getElem?_cons_succ, List.getElem?_cons_zero]; rfl) (fun K hK => ?_) ?_
            · skip
              refine step_append_fed _ (by rfl) (.tmp 90) (.tmp 91) 22 22 (by rfl) w1 47 i0 _ 2 24 Try.underlying22 (.inr ⟨_, Try.underlying22⟩) HI.out Z0.out Z1.out Z2.out rfl _ 0 [] (by rfl) ?_ _ l.length (flatI l) (by rfl) ?_ ?_ ?_ ?_ ?_
              · (first | exact OE.out | exact OE.out.alloc _ | exact OE2.out)
              · exact fed_row (RV.out.below hHeld.2.2)
              · simp only [maxLen]; omega
              · omega
              · exact hHeld.2.2
              intro v58 w58 hown58 hg58 hb58
              rw [Nat.zero_add, List.nil_append] at hown58
              first | change World.grownBy _ w58 (some w1.heap.size) at hg58 | change World.grownBy _ w58 (some (w1.heap.size + 1)) at hg58
              refine hK.out _ _ ?_ (fun hHeld => ?_)
              · (first | exact HKB.out _ (Below.refl _ _).drew | exact HKB.out _ hb61 | exact HKB.out _ hb59 | exact HKB.out _ hb58 | exact HKB.out _ (hHeld.2.2.alloc hHeld.2.2.size _))
              clear hK K
              try simp only [Act.put, List.setIfInBounds_toArray, List.set_cons_zero, List.set_cons_succ]
              refine wpAnyH_ready (rs := [4]) (by kernel_rfl) (by simp) ?_
              refine AllReadyH.cons (by simp only [List.getElem?_toArray, List.getElem?_cons_succ, List.getElem?_cons_zero]; rfl) (fun K hK => ?_) AllReadyH.nil
              go_simp
              refine hK.out _ _ ?_ (fun hHeld => ?_)
              · (first | exact HKB.out _ (Below.refl _ _).drew | exact HKB.out _ hb61 | exact HKB.out _ hb59 | exact HKB.out _ hb58 | exact HKB.out _ (hHeld.2.2.alloc hHeld.2.2.size _))
              clear hK K
              try simp only [Act.put, List.setIfInBounds_toArray, List.set_cons_zero, List.set_cons_succ]
              refine wpAnyH_ready (rs := [5]) (by kernel_rfl) (by simp) ?_
              refine AllReadyH.cons (by simp only [List.getElem?_toArray, List.getElem?_cons_succ, List.getElem?_cons_zero]; rfl) (fun K hK => ?_) AllReadyH.nil
              refine step_append_fed _ (by rfl) (.tmp 92) (.tmp 94) 22 22 (by rfl) w1 47 i0 _ 2 24 Try.underlying22 (.inr ⟨_, Try.underlying22⟩) HI.out Z0.out Z1.out Z2.out rfl _ l.length (flatI l) (by rfl) ?_ _ 1 [.int .i64 k, .string t] (by rfl) ?_ ?_ ?_ ?_ ?_
              · (first | exact hown58 | exact hown58.alloc _)
              · (first | exact Fed.heap (fed_new w58 _ _ _ rfl rfl) rfl | exact fed_kept HXB.out hg58 (by simp) rfl rfl | exact fed_kept HXC.out hg58 (by simp) rfl rfl)
              · simp only [maxLen]; omega
              · omega
              · exact hHeld.2.2
              intro v59 w59 hown59 hg59 hb59
              have HRW := Lib.hid (rowI_of_own (l := l ++ [((k, t) : Item)]) (by rw [flatI_append]; exact hown59))
              refine hK.out _ _ ?_ (fun hHeld => ?_)
              · (first | exact HKB.out _ (Below.refl _ _).drew | exact HKB.out _ hb61 | exact HKB.out _ hb59 | exact HKB.out _ hb58 | exact HKB.out _ (hHeld.2.2.alloc hHeld.2.2.size _))
              clear hK K
              try simp only [Act.put, List.setIfInBounds_toArray, List.set_cons_zero, List.set_cons_succ]
              refine wpAnyH_ready (rs := [8]) (by kernel_rfl) (by simp) ?_
              refine AllReadyH.cons (by simp only [List.getElem?_toArray, List.getElem?_cons_succ, List.getElem?_cons_zero]; rfl) (fun K hK => ?_) AllReadyH.nil
              go_simp
              (go_at_call 14; (with_reducible refine (H5.out _ _ HRW.out).mono ?_); rintro e w60 ⟨rfl, hb60⟩)
              have hb61 := hb59.trans (hb60.mono hb59.size)
              go_wp2_with fail
              refine hK.out _ _ ?_ (fun hHeld => ?_)
              · (first | exact HKB.out _ (Below.refl _ _).drew | exact HKB.out _ hb61 | exact HKB.out _ hb59 | exact HKB.out _ hb58 | exact HKB.out _ (hHeld.2.2.alloc hHeld.2.2.size _))
              clear hK K
              try simp only [Act.put, List.setIfInBounds_toArray, List.set_cons_zero, List.set_cons_succ]
              refine wpAnyH_take (i := 9) (v := ?_) (by simp only [List.getElem?_toArray, List.getElem?_cons_succ, List.getElem?_cons_zero]; rfl) (by kernel_rfl) (by kernel_rfl) (by kernel_rfl) (fun _ _ _ h => h) (Or.inl ⟨by rfl, ?_⟩) (by assumption) ?_
              rotate_left 1
              · (intro w' hSw; (try dsimp only at hSw); go_simp; try with_reducible rfl)
              try simp only [Act.put, List.setIfInBounds_toArray, List.set_cons_zero, List.set_cons_succ]
              refine wpAnyH_take (i := 10) (v := ?_) (by simp only [List.getElem?_toArray, List.getElem?_cons_succ, List.getElem?_cons_zero]; rfl) (by kernel_rfl) (by kernel_rfl) (by kernel_rfl) (fun _ _ _ h => h) (Or.inl ⟨by rfl, ?_⟩) (by assumption) ?_
              rotate_left 1
              · (intro w' hSw; (try dsimp only at hSw); go_simp; try with_reducible rfl)
              try simp only [Act.put, List.setIfInBounds_toArray, List.set_cons_zero, List.set_cons_succ]
              refine wpAnyH_take (i := 11) (v := ?_) (by simp only [List.getElem?_toArray, List.getElem?_cons_succ, List.getElem?_cons_zero]; rfl) (by kernel_rfl) (by kernel_rfl) (by kernel_rfl) (fun _ _ _ h => h) (Or.inl ⟨by rfl, ?_⟩) (by assumption) ?_
              rotate_left 1
              · (intro w' hSw; (try dsimp only at hSw); go_simp; try with_reducible rfl)
              try simp only [Act.put, List.setIfInBounds_toArray, List.set_cons_zero, List.set_cons_succ]
              refine wpAnyH_take (i := 12) (v := ?_) (by simp only [List.getElem?_toArray, List.getElem?_cons_succ, List.getElem?_cons_zero]; rfl) (by kernel_rfl) (by kernel_rfl) (by kernel_rfl) (fun _ _ _ h => h) (Or.inl ⟨by rfl, ?_⟩) (by assumption) ?_
              rotate_left 1
              · (intro w' hSw; (try dsimp only at hSw); go_simp; try with_reducible rfl)
              try simp only [Act.put, List.setIfInBounds_toArray, List.set_cons_zero, List.set_cons_succ]
              refine wpAnyH_take (i := 13) (v := ?_) (by simp only [List.getElem?_toArray, List.getElem?_cons_succ, List.getElem?_cons_zero]; rfl) (by kernel_rfl) (by kernel_rfl) (by kernel_rfl) (fun _ _ _ h => h) (Or.inl ⟨by rfl, ?_⟩) (by assumption) ?_
              rotate_left 1
              · (intro w' hSw; (try dsimp only at hSw); go_simp; try with_reducible rfl)
              try simp only [Act.put, List.setIfInBounds_toArray, List.set_cons_zero, List.set_cons_succ]
              refine wpAnyH_done (by kernel_rfl) ?_ _
              refine NoPanic.normal ?_
              clear hHeld
              replace HB := Lib.hid (HB.out.trans (hb61.mono HB.out.size))
              replace RV := Lib.hid (RV.out.below hb61)
              replace HX := Lib.hid (ItAt.later HX.out hb61)
              clear hb61 hb60 hb59 hb58 hg58 hg59 hown58 hown59 HRW HXB HXC OE OE2 HKB
              have c0 := HX.out.c0
              have c1 := HX.out.c1
              have HKB2 : Hid (∀ w', Below w60.heap.size w60 w' → w'.cell? ⟨w.heap.size, 0, none⟩ = some (.int .i64 k) ∧ w'.cell? ⟨w.heap.size, 1, none⟩ = some (.string t) ∧ Below w60.heap.size w60 w') := Lib.hid (fun w' h => ⟨(ItAt.later HX.out h).c0, (ItAt.later HX.out h).c1, h⟩)
              go_wp2_with fail
              refine wp_region_noPanic ?_
              refine wp_region_held_drew (S := (fun w' => w'.cell? ⟨w.heap.size, 0, none⟩ = some (.int .i64 k) ∧ w'.cell? ⟨w.heap.size, 1, none⟩ = some (.string t) ∧ Below w60.heap.size w60 w')) (by kernel_rfl) ?_ (fun hHeld => ?_)
              · (first | exact HKB2.out _ (Below.refl _ _).drew | exact HKB2.out _ hb65 | exact HKB2.out _ hb62 | exact HKB2.out _ (hHeld.2.2.alloc hHeld.2.2.size _))
              refine wpAnyH_take (i := 0) (v := ?_) (by simp only [List.getElem?_toArray, List.getElem?_cons_zero]; rfl) (by kernel_rfl) (by kernel_rfl) (by kernel_rfl) (fun _ _ _ h => h) (Or.inl ⟨by rfl, ?_⟩) (by assumption) ?_
              rotate_left 1
              · (intro w' hSw; (try dsimp only at hSw); go_simp; try with_reducible rfl)
              try simp only [Act.put, List.setIfInBounds_toArray, List.set_cons_zero, List.set_cons_succ]
              refine wpAnyH_take (i := 2) (v := ?_) (by simp only [List.getElem?_toArray, List.getElem?_cons_succ, List.getElem?_cons_zero]; rfl) (by kernel_rfl) (by kernel_rfl) (by kernel_rfl) (fun _ _ _ h => h) (Or.inl ⟨by rfl, ?_⟩) (by assumption) ?_
              rotate_left 1
              · (intro w' hSw; (try dsimp only at hSw); go_simp; try with_reducible rfl)
              try simp only [Act.put, List.setIfInBounds_toArray, List.set_cons_zero, List.set_cons_succ]
              refine wpAnyH_take (i := 4) (v := ?_) (by simp only [List.getElem?_toArray, List.getElem?_cons_succ, List.getElem?_cons_zero]; rfl) (by kernel_rfl) (by kernel_rfl) (by kernel_rfl) (fun _ _ _ h => h) (Or.inl ⟨by rfl, ?_⟩) (by assumption) ?_
              rotate_left 1
              · (intro w' hSw; (try dsimp only at hSw); go_simp; try with_reducible rfl)
              try simp only [Act.put, List.setIfInBounds_toArray, List.set_cons_zero, List.set_cons_succ]
              refine wpAnyH_take (i := 5) (v := ?_) (by simp only [List.getElem?_toArray, List.getElem?_cons_succ, List.getElem?_cons_zero]; rfl) (by kernel_rfl) (by kernel_rfl) (by kernel_rfl) (fun _ _ _ h => h) (Or.inl ⟨by rfl, ?_⟩) (by assumption) ?_
              rotate_left 1
              · (intro w' hSw; (try dsimp only at hSw); go_simp; try with_reducible rfl)
              try simp only [Act.put, List.setIfInBounds_toArray, List.set_cons_zero, List.set_cons_succ]
              refine wpAnyH_ready (rs := [1]) (by kernel_rfl) (by simp) ?_
              refine AllReadyH.cons (by simp only [List.getElem?_toArray, List.getElem?_cons_succ, List.getElem?_cons_zero]; rfl) (fun K hK => ?_) AllReadyH.nil
              go_simp
              refine hK.out _ _ ?_ (fun hHeld => ?_)
              · (first | exact HKB2.out _ (Below.refl _ _).drew | exact HKB2.out _ hb65 | exact HKB2.out _ hb62 | exact HKB2.out _ (hHeld.2.2.alloc hHeld.2.2.size _))
              clear hK K
              try simp only [Act.put, List.setIfInBounds_toArray, List.set_cons_zero, List.set_cons_succ]
              refine wpAnyH_ready (rs := [3]) (by kernel_rfl) (by simp) ?_
              refine AllReadyH.cons (by simp only [List.getElem?_toArray, List.getElem?_cons_succ, List.getElem?_cons_zero]; rfl) (fun K hK => ?_) AllReadyH.nil
              refine step_append_fed _ (by rfl) (.tmp 103) (.tmp 104) 22 22 (by rfl) w60 47 i0 _ 2 24 Try.underlying22 (.inr ⟨_, Try.underlying22⟩) HI.out Z0.out Z1.out Z2.out rfl _ 1 [.int .i64 k, .string t] (by rfl) ?_ _ l.length (flatI l) (by rfl) ?_ ?_ ?_ ?_ ?_
              · exact OwnG.full (Nat.le_refl _) 47 2 [.int .i64 k, .string t] 1 (by decide) rfl
              · exact fed_row (RV.out.below hHeld.2.2)
              · simp only [maxLen]; omega
              · omega
              · exact hHeld.2.2
              intro v62 w62 hown62 hg62 hb62
              have HRW2 := Lib.hid (rowI_of_own (l := ((k, t) : Item) :: l) hown62)
              refine hK.out _ _ ?_ (fun hHeld => ?_)
              · (first | exact HKB2.out _ (Below.refl _ _).drew | exact HKB2.out _ hb65 | exact HKB2.out _ hb62 | exact HKB2.out _ (hHeld.2.2.alloc hHeld.2.2.size _))
              clear hK K
              try simp only [Act.put, List.setIfInBounds_toArray, List.set_cons_zero, List.set_cons_succ]
              refine wpAnyH_ready (rs := [6]) (by kernel_rfl) (by simp) ?_
              refine AllReadyH.cons (by simp only [List.getElem?_toArray, List.getElem?_cons_succ, List.getElem?_cons_zero]; rfl) (fun K hK => ?_) AllReadyH.nil
              go_simp
              (go_at_call 14; (with_reducible refine (H6.out _ _ HRW2.out).mono ?_); rintro e w64 ⟨rfl, hb64⟩)
              have hb65 := hb62.trans (hb64.mono hb62.size)
              go_wp2_with fail
              refine hK.out _ _ ?_ (fun hHeld => ?_)
              · (first | exact HKB2.out _ (Below.refl _ _).drew | exact HKB2.out _ hb65 | exact HKB2.out _ hb62 | exact HKB2.out _ (hHeld.2.2.alloc hHeld.2.2.size _))
              clear hK K
              try simp only [Act.put, List.setIfInBounds_toArray, List.set_cons_zero, List.set_cons_succ]
              refine wpAnyH_take (i := 7) (v := ?_) (by simp only [List.getElem?_toArray, List.getElem?_cons_succ, List.getElem?_cons_zero]; rfl) (by kernel_rfl) (by kernel_rfl) (by kernel_rfl) (fun _ _ _ h => h) (Or.inl ⟨by rfl, ?_⟩) (by assumption) ?_
              rotate_left 1
              · (intro w' hSw; (try dsimp only at hSw); go_simp; try with_reducible rfl)
              try simp only [Act.put, List.setIfInBounds_toArray, List.set_cons_zero, List.set_cons_succ]
              refine wpAnyH_take (i := 8) (v := ?_) (by simp only [List.getElem?_toArray, List.getElem?_cons_succ, List.getElem?_cons_zero]; rfl) (by kernel_rfl) (by kernel_rfl) (by kernel_rfl) (fun _ _ _ h => h) (Or.inl ⟨by rfl, ?_⟩) (by assumption) ?_
              rotate_left 1
              · (intro w' hSw; (try dsimp only at hSw); go_simp; try with_reducible rfl)
              try simp only [Act.put, List.setIfInBounds_toArray, List.set_cons_zero, List.set_cons_succ]
              refine wpAnyH_take (i := 9) (v := ?_) (by simp only [List.getElem?_toArray, List.getElem?_cons_succ, List.getElem?_cons_zero]; rfl) (by kernel_rfl) (by kernel_rfl) (by kernel_rfl) (fun _ _ _ h => h) (Or.inl ⟨by rfl, ?_⟩) (by assumption) ?_
              rotate_left 1
              · (intro w' hSw; (try dsimp only at hSw); go_simp; try with_reducible rfl)
              try simp only [Act.put, List.setIfInBounds_toArray, List.set_cons_zero, List.set_cons_succ]
              refine wpAnyH_take (i := 10) (v := ?_) (by simp only [List.getElem?_toArray, List.getElem?_cons_succ, List.getElem?_cons_zero]; rfl) (by kernel_rfl) (by kernel_rfl) (by kernel_rfl) (fun _ _ _ h => h) (Or.inl ⟨by rfl, ?_⟩) (by assumption) ?_
              rotate_left 1
              · (intro w' hSw; (try dsimp only at hSw); go_simp; try with_reducible rfl)
              try simp only [Act.put, List.setIfInBounds_toArray, List.set_cons_zero, List.set_cons_succ]
              refine wpAnyH_take (i := 11) (v := ?_) (by simp only [List.getElem?_toArray, List.getElem?_cons_succ, List.getElem?_cons_zero]; rfl) (by kernel_rfl) (by kernel_rfl) (by kernel_rfl) (fun _ _ _ h => h) (Or.inl ⟨by rfl, ?_⟩) (by assumption) ?_
              rotate_left 1
              · (intro w' hSw; (try dsimp only at hSw); go_simp; try with_reducible rfl)
              try simp only [Act.put, List.setIfInBounds_toArray, List.set_cons_zero, List.set_cons_succ]
              refine wpAnyH_done (by kernel_rfl) ?_ _
              refine NoPanic.normal ?_
              clear hHeld
              replace HB := Lib.hid (HB.out.trans (hb65.mono HB.out.size))
              replace HX := Lib.hid (ItAt.later HX.out hb65)
              have c0 := HX.out.c0
              have c1 := HX.out.c1
              clear HRW2 HKB2 hb65 hb64 hb62 hg62 hown62 RV H1 H2 H3 H5 H6 HSM
              cases fb with
              | true =>
                obtain ⟨rfl, rfl⟩ := Prod.mk.inj (show (f, true) = (r51, r52) from HR5.out)
                go_wp2_with fail
                go_ret
                exact ⟨rfl, HB.out⟩
              | false =>
                obtain ⟨rfl, rfl⟩ := Prod.mk.inj (show (t, true) = (r51, r52) from HR5.out)
                go_wp2_with fail
                go_ret
                exact ⟨rfl, HB.out⟩
            refine AllReadyH.cons (by simp only [List.getElem?_toArray, List.getElem?_cons_succ, List.getElem?_cons_zero]; rfl) (fun K hK => ?_) AllReadyH.nil
            go_simp
            refine hK.out _ _ ?_ (fun hHeld => ?_)
            · (first | exact HKB.out _ (Below.refl _ _).drew | exact HKB.out _ hb61 | exact HKB.out _ hb59 | exact HKB.out _ hb58 | exact HKB.out _ (hHeld.2.2.alloc hHeld.2.2.size _))
            clear hK K
            try simp only [Act.put, List.setIfInBounds_toArray, List.set_cons_zero, List.set_cons_succ]
            refine wpAnyH_ready (rs := [2]) (by kernel_rfl) (by simp) ?_
            refine AllReadyH.cons (by simp only [List.getElem?_toArray, List.getElem?_cons_succ, List.getElem?_cons_zero]; rfl) (fun K hK => ?_) AllReadyH.nil
            refine step_append_fed _ (by rfl) (.tmp 90) (.tmp 91) 22 22 (by rfl) w1 47 i0 _ 2 24 Try.underlying22 (.inr ⟨_, Try.underlying22⟩) HI.out Z0.out Z1.out Z2.out rfl _ 0 [] (by rfl) ?_ _ l.length (flatI l) (by rfl) ?_ ?_ ?_ ?_ ?_
            · (first | exact OE.out | exact OE.out.alloc _ | exact OE2.out)
            · exact fed_row (RV.out.below hHeld.2.2)
            · simp only [maxLen]; omega
            · omega
            · exact hHeld.2.2
            intro v58 w58 hown58 hg58 hb58
            rw [Nat.zero_add, List.nil_append] at hown58
            first | change World.grownBy _ w58 (some w1.heap.size) at hg58 | change World.grownBy _ w58 (some (w1.heap.size + 1)) at hg58
            refine hK.out _ _ ?_ (fun hHeld => ?_)
            · (first | exact HKB.out _ (Below.refl _ _).drew | exact HKB.out _ hb61 | exact HKB.out _ hb59 | exact HKB.out _ hb58 | exact HKB.out _ (hHeld.2.2.alloc hHeld.2.2.size _))
            clear hK K
            try simp only [Act.put, List.setIfInBounds_toArray, List.set_cons_zero, List.set_cons_succ]
            refine wpAnyH_ready (rs := [5]) (by kernel_rfl) (by simp) ?_
            refine AllReadyH.cons (by simp only [List.getElem?_toArray, List.getElem?_cons_succ, List.getElem?_cons_zero]; rfl) (fun K hK => ?_) AllReadyH.nil
            refine step_append_fed _ (by rfl) (.tmp 92) (.tmp 94) 22 22 (by rfl) w1 47 i0 _ 2 24 Try.underlying22 (.inr ⟨_, Try.underlying22⟩) HI.out Z0.out Z1.out Z2.out rfl _ l.length (flatI l) (by rfl) ?_ _ 1 [.int .i64 k, .string t] (by rfl) ?_ ?_ ?_ ?_ ?_
            · (first | exact hown58 | exact hown58.alloc _)
            · (first | exact Fed.heap (fed_new w58 _ _ _ rfl rfl) rfl | exact fed_kept HXB.out hg58 (by simp) rfl rfl | exact fed_kept HXC.out hg58 (by simp) rfl rfl)
            · simp only [maxLen]; omega
            · omega
            · exact hHeld.2.2
            intro v59 w59 hown59 hg59 hb59
            have HRW := Lib.hid (rowI_of_own (l := l ++ [((k, t) : Item)]) (by rw [flatI_append]; exact hown59))
            refine hK.out _ _ ?_ (fun hHeld => ?_)
            · (first | exact HKB.out _ (Below.refl _ _).drew | exact HKB.out _ hb61 | exact HKB.out _ hb59 | exact HKB.out _ hb58 | exact HKB.out _ (hHeld.2.2.alloc hHeld.2.2.size _))
            clear hK K
            try simp only [Act.put, List.setIfInBounds_toArray, List.set_cons_zero, List.set_cons_succ]
            refine wpAnyH_ready (rs := [8]) (by kernel_rfl) (by simp) ?_
            refine AllReadyH.cons (by simp only [List.getElem?_toArray, List.getElem?_cons_succ, List.getElem?_cons_zero]; rfl) (fun K hK => ?_) AllReadyH.nil
            go_simp
            (go_at_call 14; (with_reducible refine (H5.out _ _ HRW.out).mono ?_); rintro e w60 ⟨rfl, hb60⟩)
            have hb61 := hb59.trans (hb60.mono hb59.size)
            go_wp2_with fail
            refine hK.out _ _ ?_ (fun hHeld => ?_)
            · (first | exact HKB.out _ (Below.refl _ _).drew | exact HKB.out _ hb61 | exact HKB.out _ hb59 | exact HKB.out _ hb58 | exact HKB.out _ (hHeld.2.2.alloc hHeld.2.2.size _))
            clear hK K
            try simp only [Act.put, List.setIfInBounds_toArray, List.set_cons_zero, List.set_cons_succ]
            refine wpAnyH_take (i := 9) (v := ?_) (by simp only [List.getElem?_toArray, List.getElem?_cons_succ, List.getElem?_cons_zero]; rfl) (by kernel_rfl) (by kernel_rfl) (by kernel_rfl) (fun _ _ _ h => h) (Or.inl ⟨by rfl, ?_⟩) (by assumption) ?_
            rotate_left 1
            · (intro w' hSw; (try dsimp only at hSw); go_simp; try with_reducible rfl)
            try simp only [Act.put, List.setIfInBounds_toArray, List.set_cons_zero, List.set_cons_succ]
            refine wpAnyH_take (i := 10) (v := ?_) (by simp only [List.getElem?_toArray, List.getElem?_cons_succ, List.getElem?_cons_zero]; rfl) (by kernel_rfl) (by kernel_rfl) (by kernel_rfl) (fun _ _ _ h => h) (Or.inl ⟨by rfl, ?_⟩) (by assumption) ?_
            rotate_left 1
            · (intro w' hSw; (try dsimp only at hSw); go_simp; try with_reducible rfl)
            try simp only [Act.put, List.setIfInBounds_toArray, List.set_cons_zero, List.set_cons_succ]
            refine wpAnyH_take (i := 11) (v := ?_) (by simp only [List.getElem?_toArray, List.getElem?_cons_succ, List.getElem?_cons_zero]; rfl) (by kernel_rfl) (by kernel_rfl) (by kernel_rfl) (fun _ _ _ h => h) (Or.inl ⟨by rfl, ?_⟩) (by assumption) ?_
            rotate_left 1
            · (intro w' hSw; (try dsimp only at hSw); go_simp; try with_reducible rfl)
            try simp only [Act.put, List.setIfInBounds_toArray, List.set_cons_zero, List.set_cons_succ]
            refine wpAnyH_take (i := 12) (v := ?_) (by simp only [List.getElem?_toArray, List.getElem?_cons_succ, List.getElem?_cons_zero]; rfl) (by kernel_rfl) (by kernel_rfl) (by kernel_rfl) (fun _ _ _ h => h) (Or.inl ⟨by rfl, ?_⟩) (by assumption) ?_
            rotate_left 1
            · (intro w' hSw; (try dsimp only at hSw); go_simp; try with_reducible rfl)
            try simp only [Act.put, List.setIfInBounds_toArray, List.set_cons_zero, List.set_cons_succ]
            refine wpAnyH_take (i := 13) (v := ?_) (by simp only [List.getElem?_toArray, List.getElem?_cons_succ, List.getElem?_cons_zero]; rfl) (by kernel_rfl) (by kernel_rfl) (by kernel_rfl) (fun _ _ _ h => h) (Or.inl ⟨by rfl, ?_⟩) (by assumption) ?_
            rotate_left 1
            · (intro w' hSw; (try dsimp only at hSw); go_simp; try with_reducible rfl)
            try simp only [Act.put, List.setIfInBounds_toArray, List.set_cons_zero, List.set_cons_succ]
            refine wpAnyH_done (by kernel_rfl) ?_ _
            refine NoPanic.normal ?_
            clear hHeld
            replace HB := Lib.hid (HB.out.trans (hb61.mono HB.out.size))
            replace RV := Lib.hid (RV.out.below hb61)
            replace HX := Lib.hid (ItAt.later HX.out hb61)
            clear hb61 hb60 hb59 hb58 hg58 hg59 hown58 hown59 HRW HXB HXC OE OE2 HKB
            have c0 := HX.out.c0
            have c1 := HX.out.c1
            have HKB2 : Hid (∀ w', Below w60.heap.size w60 w' → w'.cell? ⟨w.heap.size, 0, none⟩ = some (.int .i64 k) ∧ w'.cell? ⟨w.heap.size, 1, none⟩ = some (.string t) ∧ Below w60.heap.size w60 w') := Lib.hid (fun w' h => ⟨(ItAt.later HX.out h).c0, (ItAt.later HX.out h).c1, h⟩)
            go_wp2_with fail
            refine wp_region_noPanic ?_
            refine wp_region_held_drew (S := (fun w' => w'.cell? ⟨w.heap.size, 0, none⟩ = some (.int .i64 k) ∧ w'.cell? ⟨w.heap.size, 1, none⟩ = some (.string t) ∧ Below w60.heap.size w60 w')) (by kernel_rfl) ?_ (fun hHeld => ?_)
            · (first | exact HKB2.out _ (Below.refl _ _).drew | exact HKB2.out _ hb65 | exact HKB2.out _ hb62 | exact HKB2.out _ (hHeld.2.2.alloc hHeld.2.2.size _))
            refine wpAnyH_take (i := 0) (v := ?_) (by simp only [List.getElem?_toArray, List.getElem?_cons_zero]; rfl) (by kernel_rfl) (by kernel_rfl) (by kernel_rfl) (fun _ _ _ h => h) (Or.inl ⟨by rfl, ?_⟩) (by assumption) ?_
            rotate_left 1
            · (intro w' hSw; (try dsimp only at hSw); go_simp; try with_reducible rfl)
            try simp only [Act.put, List.setIfInBounds_toArray, List.set_cons_zero, List.set_cons_succ]
            refine wpAnyH_take (i := 2) (v := ?_) (by simp only [List.getElem?_toArray, List.getElem?_cons_succ, List.getElem?_cons_zero]; rfl) (by kernel_rfl) (by kernel_rfl) (by kernel_rfl) (fun _ _ _ h => h) (Or.inl ⟨by rfl, ?_⟩) (by assumption) ?_
            rotate_left 1
            · (intro w' hSw; (try dsimp only at hSw); go_simp; try with_reducible rfl)
            try simp only [Act.put, List.setIfInBounds_toArray, List.set_cons_zero, List.set_cons_succ]
            refine wpAnyH_take (i := 4) (v := ?_) (by simp only [List.getElem?_toArray, List.getElem?_cons_succ, List.getElem?_cons_zero]; rfl) (by kernel_rfl) (by kernel_rfl) (by kernel_rfl) (fun _ _ _ h => h) (Or.inl ⟨by rfl, ?_⟩) (by assumption) ?_
            rotate_left 1
            · (intro w' hSw; (try dsimp only at hSw); go_simp; try with_reducible rfl)
            try simp only [Act.put, List.setIfInBounds_toArray, List.set_cons_zero, List.set_cons_succ]
            refine wpAnyH_take (i := 5) (v := ?_) (by simp only [List.getElem?_toArray, List.getElem?_cons_succ, List.getElem?_cons_zero]; rfl) (by kernel_rfl) (by kernel_rfl) (by kernel_rfl) (fun _ _ _ h => h) (Or.inl ⟨by rfl, ?_⟩) (by assumption) ?_
            rotate_left 1
            · (intro w' hSw; (try dsimp only at hSw); go_simp; try with_reducible rfl)
            try simp only [Act.put, List.setIfInBounds_toArray, List.set_cons_zero, List.set_cons_succ]
            refine wpAnyH_ready (rs := [1]) (by kernel_rfl) (by simp) ?_
            refine AllReadyH.cons (by simp only [List.getElem?_toArray, List.getElem?_cons_succ, List.getElem?_cons_zero]; rfl) (fun K hK => ?_) AllReadyH.nil
            go_simp
            refine hK.out _ _ ?_ (fun hHeld => ?_)
            · (first | exact HKB2.out _ (Below.refl _ _).drew | exact HKB2.out _ hb65 | exact HKB2.out _ hb62 | exact HKB2.out _ (hHeld.2.2.alloc hHeld.2.2.size _))
            clear hK K
            try simp only [Act.put, List.setIfInBounds_toArray, List.set_cons_zero, List.set_cons_succ]
            refine wpAnyH_ready (rs := [3]) (by kernel_rfl) (by simp) ?_
            refine AllReadyH.cons (by simp only [List.getElem?_toArray, List.getElem?_cons_succ, List.getElem?_cons_zero]; rfl) (fun K hK => ?_) AllReadyH.nil
            refine step_append_fed _ (by rfl) (.tmp 103) (.tmp 104) 22 22 (by rfl) w60 47 i0 _ 2 24 Try.underlying22 (.inr ⟨_, Try.underlying22⟩) HI.out Z0.out Z1.out Z2.out rfl _ 1 [.int .i64 k, .string t] (by rfl) ?_ _ l.length (flatI l) (by rfl) ?_ ?_ ?_ ?_ ?_
            · exact OwnG.full (Nat.le_refl _) 47 2 [.int .i64 k, .string t] 1 (by decide) rfl
            · exact fed_row (RV.out.below hHeld.2.2)
            · simp only [maxLen]; omega
            · omega
            · exact hHeld.2.2
            intro v62 w62 hown62 hg62 hb62
            have HRW2 := Lib.hid (rowI_of_own (l := ((k, t) : Item) :: l) hown62)
            refine hK.out _ _ ?_ (fun hHeld => ?_)
            · (first | exact HKB2.out _ (Below.refl _ _).drew | exact HKB2.out _ hb65 | exact HKB2.out _ hb62 | exact HKB2.out _ (hHeld.2.2.alloc hHeld.2.2.size _))
            clear hK K
            try simp only [Act.put, List.setIfInBounds_toArray, List.set_cons_zero, List.set_cons_succ]
            refine wpAnyH_ready (rs := [6]) (by kernel_rfl) (by simp) ?_
            refine AllReadyH.cons (by simp only [List.getElem?_toArray, List.getElem?_cons_succ, List.getElem?_cons_zero]; rfl) (fun K hK => ?_) AllReadyH.nil
            go_simp
            (go_at_call 14; (with_reducible refine (H6.out _ _ HRW2.out).mono ?_); rintro e w64 ⟨rfl, hb64⟩)
            have hb65 := hb62.trans (hb64.mono hb62.size)
            go_wp2_with fail
            refine hK.out _ _ ?_ (fun hHeld => ?_)
            · (first | exact HKB2.out _ (Below.refl _ _).drew | exact HKB2.out _ hb65 | exact HKB2.out _ hb62 | exact HKB2.out _ (hHeld.2.2.alloc hHeld.2.2.size _))
            clear hK K
            try simp only [Act.put, List.setIfInBounds_toArray, List.set_cons_zero, List.set_cons_succ]
            refine wpAnyH_take (i := 7) (v := ?_) (by simp only [List.getElem?_toArray, List.getElem?_cons_succ, List.getElem?_cons_zero]; rfl) (by kernel_rfl) (by kernel_rfl) (by kernel_rfl) (fun _ _ _ h => h) (Or.inl ⟨by rfl, ?_⟩) (by assumption) ?_
            rotate_left 1
            · (intro w' hSw; (try dsimp only at hSw); go_simp; try with_reducible rfl)
            try simp only [Act.put, List.setIfInBounds_toArray, List.set_cons_zero, List.set_cons_succ]
            refine wpAnyH_take (i := 8) (v := ?_) (by simp only [List.getElem?_toArray, List.getElem?_cons_succ, List.getElem?_cons_zero]; rfl) (by kernel_rfl) (by kernel_rfl) (by kernel_rfl) (fun _ _ _ h => h) (Or.inl ⟨by rfl, ?_⟩) (by assumption) ?_
            rotate_left 1
            · (intro w' hSw; (try dsimp only at hSw); go_simp; try with_reducible rfl)
            try simp only [Act.put, List.setIfInBounds_toArray, List.set_cons_zero, List.set_cons_succ]
            refine wpAnyH_take (i := 9) (v := ?_) (by simp only [List.getElem?_toArray, List.getElem?_cons_succ, List.getElem?_cons_zero]; rfl) (by kernel_rfl) (by kernel_rfl) (by kernel_rfl) (fun _ _ _ h => h) (Or.inl ⟨by rfl, ?_⟩) (by assumption) ?_
            rotate_left 1
            · (intro w' hSw; (try dsimp only at hSw); go_simp; try with_reducible rfl)
            try simp only [Act.put, List.setIfInBounds_toArray, List.set_cons_zero, List.set_cons_succ]
            refine wpAnyH_take (i := 10) (v := ?_) (by simp only [List.getElem?_toArray, List.getElem?_cons_succ, List.getElem?_cons_zero]; rfl) (by kernel_rfl) (by kernel_rfl) (by kernel_rfl) (fun _ _ _ h => h) (Or.inl ⟨by rfl, ?_⟩) (by assumption) ?_
            rotate_left 1
            · (intro w' hSw; (try dsimp only at hSw); go_simp; try with_reducible rfl)
            try simp only [Act.put, List.setIfInBounds_toArray, List.set_cons_zero, List.set_cons_succ]
            refine wpAnyH_take (i := 11) (v := ?_) (by simp only [List.getElem?_toArray, List.getElem?_cons_succ, List.getElem?_cons_zero]; rfl) (by kernel_rfl) (by kernel_rfl) (by kernel_rfl) (fun _ _ _ h => h) (Or.inl ⟨by rfl, ?_⟩) (by assumption) ?_
            rotate_left 1
            · (intro w' hSw; (try dsimp only at hSw); go_simp; try with_reducible rfl)
            try simp only [Act.put, List.setIfInBounds_toArray, List.set_cons_zero, List.set_cons_succ]
            refine wpAnyH_done (by kernel_rfl) ?_ _
            refine NoPanic.normal ?_
            clear hHeld
            replace HB := Lib.hid (HB.out.trans (hb65.mono HB.out.size))
            replace HX := Lib.hid (ItAt.later HX.out hb65)
            have c0 := HX.out.c0
            have c1 := HX.out.c1
            clear HRW2 HKB2 hb65 hb64 hb62 hg62 hown62 RV H1 H2 H3 H5 H6 HSM
            cases fb with
            | true =>
              obtain ⟨rfl, rfl⟩ := Prod.mk.inj (show (f, true) = (r51, r52) from HR5.out)
              go_wp2_with fail
              go_ret
              exact ⟨rfl, HB.out⟩
            | false =>
              obtain ⟨rfl, rfl⟩ := Prod.mk.inj (show (t, true) = (r51, r52) from HR5.out)
              go_wp2_with fail
              go_ret
              exact ⟨rfl, HB.out⟩
          refine AllReadyH.cons (by simp only [List.getElem?_toArray, List.getElem?_cons_succ, List.getElem?_cons_zero]; rfl) (fun K hK => ?_) AllReadyH.nil
          go_simp
          refine hK.out _ _ ?_ (fun hHeld => ?_)
          · (first | exact HKB.out _ (Below.refl _ _).drew | exact HKB.out _ hb61 | exact HKB.out _ hb59 | exact HKB.out _ hb58 | exact HKB.out _ (hHeld.2.2.alloc hHeld.2.2.size _))
          clear hK K
          try simp only [Act.put, List.setIfInBounds_toArray, List.set_cons_zero, List.set_cons_succ]
          refine wpAnyH_ready (rs := [0]) (by kernel_rfl) (by simp) ?_
          refine AllReadyH.cons (by simp only [List.getElem?_toArray, List.getElem?_cons_zero]; rfl) (fun K hK => ?_) AllReadyH.nil
          go_simp
          refine hK.out _ _ ?_ (fun hHeld => ?_)
          · (first | exact HKB.out _ (Below.refl _ _).drew | exact HKB.out _ hb61 | exact HKB.out _ hb59 | exact HKB.out _ hb58 | exact HKB.out _ (hHeld.2.2.alloc hHeld.2.2.size _))
          clear hK K
          try simp only [Act.put, List.setIfInBounds_toArray, List.set_cons_zero, List.set_cons_succ]
          refine wpAnyH_ready (rs := [2]) (by kernel_rfl) (by simp) ?_
          refine AllReadyH.cons (by simp only [List.getElem?_toArray, List.getElem?_cons_succ, List.getElem?_cons_zero]; rfl) (fun K hK => ?_) AllReadyH.nil
          refine step_append_fed _ (by rfl) (.tmp 90) (.tmp 91) 22 22 (by rfl) w1 47 i0 _ 2 24 Try.underlying22 (.inr ⟨_, Try.underlying22⟩) HI.out Z0.out Z1.out Z2.out rfl _ 0 [] (by rfl) ?_ _ l.length (flatI l) (by rfl) ?_ ?_ ?_ ?_ ?_
          · (first | exact OE.out | exact OE.out.alloc _ | exact OE2.out)
          · exact fed_row (RV.out.below hHeld.2.2)
          · simp only [maxLen]; omega
          · omega
          · exact hHeld.2.2
          intro v58 w58 hown58 hg58 hb58
          rw [Nat.zero_add, List.nil_append] at hown58
          first | change World.grownBy _ w58 (some w1.heap.size) at hg58 | change World.grownBy _ w58 (some (w1.heap.size + 1)) at hg58
          refine hK.out _ _ ?_ (fun hHeld => ?_)
          · (first | exact HKB.out _ (Below.refl _ _).drew | exact HKB.out _ hb61 | exact HKB.out _ hb59 | exact HKB.out _ hb58 | exact HKB.out _ (hHeld.2.2.alloc hHeld.2.2.size _))
          clear hK K
          try simp only [Act.put, List.setIfInBounds_toArray, List.set_cons_zero, List.set_cons_succ]
          refine wpAnyH_ready (rs := [5]) (by kernel_rfl) (by simp) ?_
          refine AllReadyH.cons (by simp only [List.getElem?_toArray, List.getElem?_cons_succ, List.getElem?_cons_zero]; rfl) (fun K hK => ?_) AllReadyH.nil
          refine step_append_fed _ (by rfl) (.tmp 92) (.tmp 94) 22 22 (by rfl) w1 47 i0 _ 2 24 Try.underlying22 (.inr ⟨_, Try.underlying22⟩) HI.out Z0.out Z1.out Z2.out rfl _ l.length (flatI l) (by rfl) ?_ _ 1 [.int .i64 k, .string t] (by rfl) ?_ ?_ ?_ ?_ ?_
          · (first | exact hown58 | exact hown58.alloc _)
          · (first | exact Fed.heap (fed_new w58 _ _ _ rfl rfl) rfl | exact fed_kept HXB.out hg58 (by simp) rfl rfl | exact fed_kept HXC.out hg58 (by simp) rfl rfl)
          · simp only [maxLen]; omega
          · omega
          · exact hHeld.2.2
          intro v59 w59 hown59 hg59 hb59
          have HRW := Lib.hid (rowI_of_own (l := l ++ [((k, t) : Item)]) (by rw [flatI_append]; exact hown59))
          refine hK.out _ _ ?_ (fun hHeld => ?_)
          · (first | exact HKB.out _ (Below.refl _ _).drew | exact HKB.out _ hb61 | exact HKB.out _ hb59 | exact HKB.out _ hb58 | exact HKB.out _ (hHeld.2.2.alloc hHeld.2.2.size _))
          clear hK K
          try simp only [Act.put, List.setIfInBounds_toArray, List.set_cons_zero, List.set_cons_succ]
          refine wpAnyH_ready (rs := [8]) (by kernel_rfl) (by simp) ?_
          refine AllReadyH.cons (by simp only [List.getElem?_toArray, List.getElem?_cons_succ, List.getElem?_cons_zero]; rfl) (fun K hK => ?_) AllReadyH.nil
          go_simp
          (go_at_call 14; (with_reducible refine (H5.out _ _ HRW.out).mono ?_); rintro e w60 ⟨rfl, hb60⟩)
          have hb61 := hb59.trans (hb60.mono hb59.size)
          go_wp2_with fail
          refine hK.out _ _ ?_ (fun hHeld => ?_)
          · (first | exact HKB.out _ (Below.refl _ _).drew | exact HKB.out _ hb61 | exact HKB.out _ hb59 | exact HKB.out _ hb58 | exact HKB.out _ (hHeld.2.2.alloc hHeld.2.2.size _))
          clear hK K
          try simp only [Act.put, List.setIfInBounds_toArray, List.set_cons_zero, List.set_cons_succ]
          refine wpAnyH_take (i := 9) (v := ?_) (by simp only [List.getElem?_toArray, List.getElem?_cons_succ, List.getElem?_cons_zero]; rfl) (by kernel_rfl) (by kernel_rfl) (by kernel_rfl) (fun _ _ _ h => h) (Or.inl ⟨by rfl, ?_⟩) (by assumption) ?_
          rotate_left 1
          · (intro w' hSw; (try dsimp only at hSw); go_simp; try with_reducible rfl)
          try simp only [Act.put, List.setIfInBounds_toArray, List.set_cons_zero, List.set_cons_succ]
          refine wpAnyH_take (i := 10) (v := ?_) (by simp only [List.getElem?_toArray, List.getElem?_cons_succ, List.getElem?_cons_zero]; rfl) (by kernel_rfl) (by kernel_rfl) (by kernel_rfl) (fun _ _ _ h => h) (Or.inl ⟨by rfl, ?_⟩) (by assumption) ?_
          rotate_left 1
          · (intro w' hSw; (try dsimp only at hSw); go_simp; try with_reducible rfl)
          try simp only [Act.put, List.setIfInBounds_toArray, List.set_cons_zero, List.set_cons_succ]
          refine wpAnyH_take (i := 11) (v := ?_) (by simp only [List.getElem?_toArray, List.getElem?_cons_succ, List.getElem?_cons_zero]; rfl) (by kernel_rfl) (by kernel_rfl) (by kernel_rfl) (fun _ _ _ h => h) (Or.inl ⟨by rfl, ?_⟩) (by assumption) ?_
          rotate_left 1
          · (intro w' hSw; (try dsimp only at hSw); go_simp; try with_reducible rfl)
          try simp only [Act.put, List.setIfInBounds_toArray, List.set_cons_zero, List.set_cons_succ]
          refine wpAnyH_take (i := 12) (v := ?_) (by simp only [List.getElem?_toArray, List.getElem?_cons_succ, List.getElem?_cons_zero]; rfl) (by kernel_rfl) (by kernel_rfl) (by kernel_rfl) (fun _ _ _ h => h) (Or.inl ⟨by rfl, ?_⟩) (by assumption) ?_
          rotate_left 1
          · (intro w' hSw; (try dsimp only at hSw); go_simp; try with_reducible rfl)
          try simp only [Act.put, List.setIfInBounds_toArray, List.set_cons_zero, List.set_cons_succ]
          refine wpAnyH_take (i := 13) (v := ?_) (by simp only [List.getElem?_toArray, List.getElem?_cons_succ, List.getElem?_cons_zero]; rfl) (by kernel_rfl) (by kernel_rfl) (by kernel_rfl) (fun _ _ _ h => h) (Or.inl ⟨by rfl, ?_⟩) (by assumption) ?_
          rotate_left 1
          · (intro w' hSw; (try dsimp only at hSw); go_simp; try with_reducible rfl)
          try simp only [Act.put, List.setIfInBounds_toArray, List.set_cons_zero, List.set_cons_succ]
          refine wpAnyH_done (by kernel_rfl) ?_ _
          refine NoPanic.normal ?_
          clear hHeld
          replace HB := Lib.hid (HB.out.trans (hb61.mono HB.out.size))
          replace RV := Lib.hid (RV.out.below hb61)
          replace HX := Lib.hid (ItAt.later HX.out hb61)
          clear hb61 hb60 hb59 hb58 hg58 hg59 hown58 hown59 HRW HXB HXC OE OE2 HKB
          have c0 := HX.out.c0
          have c1 := HX.out.c1
          have HKB2 : Hid (∀ w', Below w60.heap.size w60 w' → w'.cell? ⟨w.heap.size, 0, none⟩ = some (.int .i64 k) ∧ w'.cell? ⟨w.heap.size, 1, none⟩ = some (.string t) ∧ Below w60.heap.size w60 w') := Lib.hid (fun w' h => ⟨(ItAt.later HX.out h).c0, (ItAt.later HX.out h).c1, h⟩)
          go_wp2_with fail
          refine wp_region_noPanic ?_
          refine wp_region_held_drew (S := (fun w' => w'.cell? ⟨w.heap.size, 0, none⟩ = some (.int .i64 k) ∧ w'.cell? ⟨w.heap.size, 1, none⟩ = some (.string t) ∧ Below w60.heap.size w60 w')) (by kernel_rfl) ?_ (fun hHeld => ?_)
          · (first | exact HKB2.out _ (Below.refl _ _).drew | exact HKB2.out _ hb65 | exact HKB2.out _ hb62 | exact HKB2.out _ (hHeld.2.2.alloc hHeld.2.2.size _))
          refine wpAnyH_take (i := 0) (v := ?_) (by simp only [List.getElem?_toArray, List.getElem?_cons_zero]; rfl) (by kernel_rfl) (by kernel_rfl) (by kernel_rfl) (fun _ _ _ h => h) (Or.inl ⟨by rfl, ?_⟩) (by assumption) ?_
          rotate_left 1
          · (intro w' hSw; (try dsimp only at hSw); go_simp; try with_reducible rfl)
          try simp only [Act.put, List.setIfInBounds_toArray, List.set_cons_zero, List.set_cons_succ]
          refine wpAnyH_take (i := 2) (v := ?_) (by simp only [List.getElem?_toArray, List.getElem?_cons_succ, List.getElem?_cons_zero]; rfl) (by kernel_rfl) (by kernel_rfl) (by kernel_rfl) (fun _ _ _ h => h) (Or.inl ⟨by rfl, ?_⟩) (by assumption) ?_
          rotate_left 1
          · (intro w' hSw; (try dsimp only at hSw); go_simp; try with_reducible rfl)
          try simp only [Act.put, List.setIfInBounds_toArray, List.set_cons_zero, List.set_cons_succ]
          refine wpAnyH_take (i := 4) (v := ?_) (by simp only [List.getElem?_toArray, List.getElem?_cons_succ, List.getElem?_cons_zero]; rfl) (by kernel_rfl) (by kernel_rfl) (by kernel_rfl) (fun _ _ _ h => h) (Or.inl ⟨by rfl, ?_⟩) (by assumption) ?_
          rotate_left 1
          · (intro w' hSw; (try dsimp only at hSw); go_simp; try with_reducible rfl)
          try simp only [Act.put, List.setIfInBounds_toArray, List.set_cons_zero, List.set_cons_succ]
          refine wpAnyH_take (i := 5) (v := ?_) (by simp only [List.getElem?_toArray, List.getElem?_cons_succ, List.getElem?_cons_zero]; rfl) (by kernel_rfl) (by kernel_rfl) (by kernel_rfl) (fun _ _ _ h => h) (Or.inl ⟨by rfl, ?_⟩) (by assumption) ?_
          rotate_left 1
          · (intro w' hSw; (try dsimp only at hSw); go_simp; try with_reducible rfl)
          try simp only [Act.put, List.setIfInBounds_toArray, List.set_cons_zero, List.set_cons_succ]
          refine wpAnyH_ready (rs := [1]) (by kernel_rfl) (by simp) ?_
          refine AllReadyH.cons (by simp only [List.getElem?_toArray, List.getElem?_cons_succ, List.getElem?_cons_zero]; rfl) (fun K hK => ?_) AllReadyH.nil
          go_simp
          refine hK.out _ _ ?_ (fun hHeld => ?_)
          · (first | exact HKB2.out _ (Below.refl _ _).drew | exact HKB2.out _ hb65 | exact HKB2.out _ hb62 | exact HKB2.out _ (hHeld.2.2.alloc hHeld.2.2.size _))
          clear hK K
          try simp only [Act.put, List.setIfInBounds_toArray, List.set_cons_zero, List.set_cons_succ]
          refine wpAnyH_ready (rs := [3]) (by kernel_rfl) (by simp) ?_
          refine AllReadyH.cons (by simp only [List.getElem?_toArray, List.getElem?_cons_succ, List.getElem?_cons_zero]; rfl) (fun K hK => ?_) AllReadyH.nil
          refine step_append_fed _ (by rfl) (.tmp 103) (.tmp 104) 22 22 (by rfl) w60 47 i0 _ 2 24 Try.underlying22 (.inr ⟨_, Try.underlying22⟩) HI.out Z0.out Z1.out Z2.out rfl _ 1 [.int .i64 k, .string t] (by rfl) ?_ _ l.length (flatI l) (by rfl) ?_ ?_ ?_ ?_ ?_
          · exact OwnG.full (Nat.le_refl _) 47 2 [.int .i64 k, .string t] 1 (by decide) rfl
          · exact fed_row (RV.out.below hHeld.2.2)
          · simp only [maxLen]; omega
          · omega
          · exact hHeld.2.2
          intro v62 w62 hown62 hg62 hb62
          have HRW2 := Lib.hid (rowI_of_own (l := ((k, t) : Item) :: l) hown62)
          refine hK.out _ _ ?_ (fun hHeld => ?_)
          · (first | exact HKB2.out _ (Below.refl _ _).drew | exact HKB2.out _ hb65 | exact HKB2.out _ hb62 | exact HKB2.out _ (hHeld.2.2.alloc hHeld.2.2.size _))
          clear hK K
          try simp only [Act.put, List.setIfInBounds_toArray, List.set_cons_zero, List.set_cons_succ]
          refine wpAnyH_ready (rs := [6]) (by kernel_rfl) (by simp) ?_
          refine AllReadyH.cons (by simp only [List.getElem?_toArray, List.getElem?_cons_succ, List.getElem?_cons_zero]; rfl) (fun K hK => ?_) AllReadyH.nil
          go_simp
          (go_at_call 14; (with_reducible refine (H6.out _ _ HRW2.out).mono ?_); rintro e w64 ⟨rfl, hb64⟩)
          have hb65 := hb62.trans (hb64.mono hb62.size)
          go_wp2_with fail
          refine hK.out _ _ ?_ (fun hHeld => ?_)
          · (first | exact HKB2.out _ (Below.refl _ _).drew | exact HKB2.out _ hb65 | exact HKB2.out _ hb62 | exact HKB2.out _ (hHeld.2.2.alloc hHeld.2.2.size _))
          clear hK K
          try simp only [Act.put, List.setIfInBounds_toArray, List.set_cons_zero, List.set_cons_succ]
          refine wpAnyH_take (i := 7) (v := ?_) (by simp only [List.getElem?_toArray, List.getElem?_cons_succ, List.getElem?_cons_zero]; rfl) (by kernel_rfl) (by kernel_rfl) (by kernel_rfl) (fun _ _ _ h => h) (Or.inl ⟨by rfl, ?_⟩) (by assumption) ?_
          rotate_left 1
          · (intro w' hSw; (try dsimp only at hSw); go_simp; try with_reducible rfl)
          try simp only [Act.put, List.setIfInBounds_toArray, List.set_cons_zero, List.set_cons_succ]
          refine wpAnyH_take (i := 8) (v := ?_) (by simp only [List.getElem?_toArray, List.getElem?_cons_succ, List.getElem?_cons_zero]; rfl) (by kernel_rfl) (by kernel_rfl) (by kernel_rfl) (fun _ _ _ h => h) (Or.inl ⟨by rfl, ?_⟩) (by assumption) ?_
          rotate_left 1
          · (intro w' hSw; (try dsimp only at hSw); go_simp; try with_reducible rfl)
          try simp only [Act.put, List.setIfInBounds_toArray, List.set_cons_zero, List.set_cons_succ]
          refine wpAnyH_take (i := 9) (v := ?_) (by simp only [List.getElem?_toArray, List.getElem?_cons_succ, List.getElem?_cons_zero]; rfl) (by kernel_rfl) (by kernel_rfl) (by kernel_rfl) (fun _ _ _ h => h) (Or.inl ⟨by rfl, ?_⟩) (by assumption) ?_
          rotate_left 1
          · (intro w' hSw; (try dsimp only at hSw); go_simp; try with_reducible rfl)
          try simp only [Act.put, List.setIfInBounds_toArray, List.set_cons_zero, List.set_cons_succ]
          refine wpAnyH_take (i := 10) (v := ?_) (by simp only [List.getElem?_toArray, List.getElem?_cons_succ, List.getElem?_cons_zero]; rfl) (by kernel_rfl) (by kernel_rfl) (by kernel_rfl) (fun _ _ _ h => h) (Or.inl ⟨by rfl, ?_⟩) (by assumption) ?_
          rotate_left 1
          · (intro w' hSw; (try dsimp only at hSw); go_simp; try with_reducible rfl)
          try simp only [Act.put, List.setIfInBounds_toArray, List.set_cons_zero, List.set_cons_succ]
          refine wpAnyH_take (i := 11) (v := ?_) (by simp only [List.getElem?_toArray, List.getElem?_cons_succ, List.getElem?_cons_zero]; rfl) (by kernel_rfl) (by kernel_rfl) (by kernel_rfl) (fun _ _ _ h => h) (Or.inl ⟨by rfl, ?_⟩) (by assumption) ?_
          rotate_left 1
          · (intro w' hSw; (try dsimp only at hSw); go_simp; try with_reducible rfl)
          try simp only [Act.put, List.setIfInBounds_toArray, List.set_cons_zero, List.set_cons_succ]
          refine wpAnyH_done (by kernel_rfl) ?_ _
          refine NoPanic.normal ?_
          clear hHeld
          replace HB := Lib.hid (HB.out.trans (hb65.mono HB.out.size))
          replace HX := Lib.hid (ItAt.later HX.out hb65)
          have c0 := HX.out.c0
          have c1 := HX.out.c1
          clear HRW2 HKB2 hb65 hb64 hb62 hg62 hown62 RV H1 H2 H3 H5 H6 HSM
          cases fb with
          | true =>
            obtain ⟨rfl, rfl⟩ := Prod.mk.inj (show (f, true) = (r51, r52) from HR5.out)
            go_wp2_with fail
            go_ret
            exact ⟨rfl, HB.out⟩
          | false =>
            obtain ⟨rfl, rfl⟩ := Prod.mk.inj (show (t, true) = (r51, r52) from HR5.out)
            go_wp2_with fail
            go_ret
            exact ⟨rfl, HB.out⟩

set_option maxRecDepth 100000 in
theorem lifted (os : Os) (started : os.Started) (H : Type) (enc : TypeId × Value → H) :
    ReturnsInHanded {} Try.checked os 7 .any (Rows.tlvSizesSpec.pre6 enc Try.prog Try.f7 Rows.tlvSizesRow.domain false) (Rows.tlvSizesSpec.post enc Try.prog Try.f7 false true false false) := by
  refine returnsInHanded_of_change_sized (C := Try.checked) own started (by kernel_rfl) Try.func7
    (ChangeSpec.witness6 (enc := enc) (C := Try.checked) false ⟨#[], #[.slice none 0 0, .agg #[.int .i64 0, .string ⟨#[]⟩]], []⟩ 8 (by kernel_rfl) (by kernel_rfl) (by kernel_rfl) (by kernel_rfl)) ?_
  intro W base args ds gs before hval0 hW _ hreach _
  have hval : ∀ (j : Nat) t v, Try.f7.params[j]? = some t → args[j]? = some v → Value.okWide Try.prog W .any base t v := hval0
  obtain ⟨p, q, hA0, _, _, _, _⟩ := id hW
  have hA : DataW.TrodAll enc Try.prog W 0 (fun _ => true) true Try.f7.params.toList args.toList ds p := hA0
  rw [Try.params7] at hA hval
  obtain ⟨v0, vs0, d0, ds0, p0, q0, hargs, rfl, rfl, h0, r0⟩ := trodAll_cons hA
  obtain ⟨v1, vs1, d1, ds1, p1, q1, rfl, rfl, rfl, h1, r1⟩ := trodAll_cons r0
  obtain ⟨rfl, rfl, rfl⟩ := trodAll_nil r1
  obtain rfl : args = #[v0, v1] := by cases args; simp_all
  obtain ⟨l0, w0, m0, s0⟩ := items_in (hval 0 22 v0 rfl rfl) h0
  obtain ⟨k1, t1, rfl, w1, s1⟩ := item_in (hval 1 47 v1 rfl rfl) h1
  refine (walk l0 v0 k1 t1 m0 s1 W w0).mono fun e W' ⟨he, hg⟩ => ?_
  subst he
  exact ⟨_, rfl, law_post laidOut Try.underlying4 (by kernel_rfl) (by kernel_rfl) rfl hW (by simp [Rows.tlvSizesSpec]) hg⟩

theorem proved : Rows.TlvSizesSaid :=
  OpenClaim.holds_of_wide 7 Try.f7 rfl rfl rfl rfl rfl rfl rfl ⟨rfl, rfl, rfl, rfl, rfl⟩ rfl rfl rfl rfl rfl (by kernel_rfl) Try.func7 (by kernel_rfl)
    (of_decide_eq_true (by kernel_rfl)) (by unfold Func.isWrapper; first | (rw [if_pos (by decide +kernel)]; kernel_rfl) | (rw [if_neg (by decide +kernel)]; exact ⟨rfl, rfl⟩))
    (fun os started H enc _ => lifted os started H enc)
#print axioms proved
end Go.Proofs.Ytkganhpfagnmjaa.tlvSizes
