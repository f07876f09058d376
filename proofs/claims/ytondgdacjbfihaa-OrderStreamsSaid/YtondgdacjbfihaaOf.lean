/-
  Package order: places: contract.
-/
import Derived.Test.YtondgdacjbfihaaOe
namespace Go.Proofs.Ytondgdacjbfihaa
open Go.RowKit
set_option linter.unusedVariables false
set_option linter.unusedSimpArgs false
set_option maxRecDepth 100000

/-- A row of 256 numbers. -/
def rowI (f : Nat → Int) : Array Value := ((List.range 256).map fun i => Value.int .i64 (f i)).toArray
theorem rowI_size (f : Nat → Int) : (rowI f).size = 256 := by simp [rowI]
theorem rowI_at (f : Nat → Int) {i : Nat} (h : i < 256) : (rowI f)[i]? = some (.int .i64 (f i)) := by simp [rowI, h]
theorem rowI_none (f : Nat → Int) {i : Nat} (h : ¬ i < 256) : (rowI f)[i]? = none := by simp [rowI]; omega
theorem rowI_zero : Array.replicate 256 (Value.int .i64 0) = rowI fun _ => 0 := by
  apply Array.ext_getElem?
  intro i
  by_cases h : i < 256
  · rw [rowI_at _ h]; simp [h]
  · rw [rowI_none _ h]; simp [h]
theorem rowI_set (f g : Nat → Int) {x : Nat} {v : Int} (h : x < 256) (hg : ∀ i, i < 256 → g i = if i = x then v else f i) : (rowI f).setIfInBounds x (.int .i64 v) = rowI g := by
  apply Array.ext_getElem?
  intro i
  rw [Array.getElem?_setIfInBounds, rowI_size]
  by_cases hi : i < 256
  · rw [rowI_at g hi, hg i hi]
    by_cases e : x = i
    · subst e; simp [h]
    · simp [e, show ¬ i = x by omega, rowI_at f hi]
  · rw [rowI_none g hi]
    by_cases e : x = i
    · omega
    · simp [e, rowI_none f hi]
theorem rowI_one (f : Nat → Int) : (rowI f).all (·.oneCell') = true := by
  rw [Array.all_eq_true]
  intro i hi
  rw [rowI_size] at hi
  have h := rowI_at f hi
  rw [Array.getElem?_eq_getElem (by rw [rowI_size]; exact hi)] at h
  rw [Option.some.inj h]
  rfl
theorem rowI_congr {f g : Nat → Int} (h : ∀ i, i < 256 → f i = g i) : rowI f = rowI g := by
  unfold rowI
  congr 1
  apply List.map_congr_left
  intro i hi
  rw [h i (by simpa using hi)]
/-- Where the message waits that is so far above a number: the first one, or -1. -/
def plAt (wt : List Mg) (s : Int) (nx : UInt16) (far : Nat) : Int := idxP (fun x => ofB s x && decide ((x.ss - nx).toNat = far)) wt
theorem idx_snoc (f : Mg → Bool) (l : List Mg) (x : Mg) : idxP f (l ++ [x]) = if idxP f l = -1 then (if f x then (l.length : Int) else -1) else idxP f l := by
  unfold idxP findL
  rw [List.findIdx?_append]
  cases h : l.findIdx? f with
  | none =>
    rw [if_pos rfl]
    cases hx : f x with
    | true => simp [List.findIdx?_cons, hx]
    | false => simp [List.findIdx?_cons, hx]
  | some i =>
    rw [if_neg (by show ¬ ((i : Int) = -1); omega)]
    rfl
theorem plAt_next (wt : List Mg) (s : Int) (nx : UInt16) (far j : Nat) (h : j < wt.length) : plAt (wt.take (j + 1)) s nx far = if plAt (wt.take j) s nx far = -1 then (if ofB s wt[j] && decide ((wt[j].ss - nx).toNat = far) then (j : Int) else -1) else plAt (wt.take j) s nx far := by
  unfold plAt
  rw [List.take_succ_eq_append_getElem h, idx_snoc, List.length_take, Nat.min_eq_left (by omega)]
theorem infoA : (Try.prog.info? 80).map (fun i => (i.zero, i.size)) = some (some (.agg (Array.replicate 256 (Value.int .i64 0))), 256) := by kernel_rfl
theorem infoA1 : (Try.prog.info? 80).map (·.size) = some 256 := by kernel_rfl
theorem retA {fn : Func} {p : Tmp} (h : fn.results = #[.cell p 80]) {tmps : Array Value} {w : World} {g : Nat} {f : Nat → Int} (hp : tmps.getD p undef = .pointer (some ⟨g, 0, none⟩)) (hg : Bx w g 80 (rowI f)) : (results fn tmps).run Try.prog w = .ok (.agg (rowI f)) w :=
  ret_cell h hp hg Try.underlying80 rfl (by rw [rowI_size]; exact infoA1)
set_option maxHeartbeats 8000000 in
theorem places_any (nx : List UInt16) (wt : List Mg) (h2 : wt.length ≤ 100000) (st : Nat) (hst : st < nx.length) (hst2 : st ≤ 65535) (vn v : Value) (w : World) (hn : RowE enc16 w vn nx) (hw : RowM w v wt) :
    Calls Try.prog 37 #[.agg #[vn, v], .int .i64 (st : Int)] w fun e w' => e = .returned (.agg (rowI (plAt wt (st : Int) nx[st]))) ∧ Below w.heap.size w w' := by
  obtain ⟨hz, hsz⟩ := zero_of_info infoA
  rw [rowI_zero] at hz
  have HV := Lib.hid hw
  obtain ⟨An, cn, rfl, _, hmn, hcn⟩ := id hn
  obtain ⟨bn, on, rfl, hbn, hen⟩ := hcn (by omega)
  have en : w.cell? ⟨bn, on + st, none⟩ = some (.int .u16 (nx[st].toNat : Int)) := by
    have := hen st hst
    rw [getElem!_pos nx st hst] at this
    exact this
  obtain ⟨A, c, rfl, _, _, _⟩ := id hw
  generalize nx[st] = nxs at *
  have HNX := Lib.hid (fun far j h => plAt_next wt (st : Int) nxs far j h)
  have HFU : Hid (rowI (plAt (wt.take wt.length) (st : Int) nxs) = rowI (plAt wt (st : Int) nxs)) := Lib.hid (by rw [List.take_length])
  have HC0 : Hid (∀ far, plAt (wt.take 0) (st : Int) nxs far = -1) := Lib.hid (fun far => rfl)
  obtain ⟨W1, hW1, HQ, HB1, hs1⟩ := one_open w 27 #[.slice (some ⟨bn, on, none⟩) nx.length cn, .slice A wt.length c]
  obtain ⟨W2, hW2, HR, HB2, hs2⟩ := one_open W1 80 (rowI fun _ => 0)
  obtain ⟨W3, hW3, HL, HB3, hs3⟩ := one_open W2 80 (rowI fun _ => 0)
  obtain ⟨gq, hgq⟩ : ∃ g, w.heap.size = g := ⟨_, rfl⟩
  obtain ⟨gr, hgr⟩ : ∃ g, W1.heap.size = g := ⟨_, rfl⟩
  obtain ⟨gl, hgl⟩ : ∃ g, W2.heap.size = g := ⟨_, rfl⟩
  have hB : Below w.heap.size w W3 := (HB1.out.trans (HB2.out.mono HB1.out.size)).trans (HB3.out.mono (HB1.out.trans (HB2.out.mono HB1.out.size)).size)
  have HB := Lib.hid hB
  rw [hgq] at HQ hs1
  rw [hgr] at HR hs1 hs2
  rw [hgl] at HL hs2
  replace HQ := Lib.hid ((HQ.out.later HB2.out).later HB3.out)
  replace HR := Lib.hid (HR.out.later HB3.out)
  have hgw : w.heap.size ≤ gl := by omega
  have hgw2 : w.heap.size ≤ gr := by omega
  have hne1 : gq ≠ gl := by omega
  have hne2 : gr ≠ gl := by omega
  have hlI : (wt.length : Int) ≤ 100000 := by omega
  have hsI : (st : Int) < (nx.length : Int) := by omega
  have hs0 : (0 : Int) ≤ (st : Int) := by omega
  have hnxI : (nx.length : Int) ≤ 9223372036854775807 := by unfold maxLen at hmn; omega
  clear hs1 hs2 hs3 HB1 HB2 HB3 hB hn hw hcn hen hmn
  go_enter Try.func37, Try.ntmps37
  go_wp2_with fail
  clear hz hW1 hW2 hW3 hgr hgl
  clear hgq
  go_loopw [10] (fun v10 wr => ∃ j : Nat, j ≤ 256 ∧ v10 = .int .i64 j ∧ Hid (Bx wr gl 80 (rowI fun i => if i < j then -1 else 0)) ∧ Hid (Bx wr gq 27 #[.slice (some ⟨bn, on, none⟩) nx.length cn, .slice A wt.length c]) ∧ Hid (Bx wr gr 80 (rowI fun _ => 0)) ∧ Hid (Below w.heap.size w wr))
    (fun v10 _ => 256 - (intOf v10).toNat)
  case atStart => exact ⟨0, by omega, rfl, HL, HQ, HR, HB⟩
  case round =>
    clear HL HQ HR HB
    obtain ⟨j, hj, rfl, HL, HQ, HR, HB⟩ := hrel
    by_cases hlt : j < 256
    · have q1 : (0 : Int) ≤ (j : Int) := by omega
      have q2 : (j : Int) < 256 := by omega
      have HST := Lib.hid (rowI_set (fun i => if i < j then (-1 : Int) else 0) (fun i => if i < j + 1 then (-1 : Int) else 0) (x := j) (v := -1) hlt (fun i hi => by
        by_cases e : i = j
        · rw [if_pos e, if_pos (by omega)]
        · rw [if_neg e]
          by_cases e2 : i < j
          · rw [if_pos e2, if_pos (by omega)]
          · rw [if_neg e2, if_neg (by omega)]))
      go_wp2_with ((with_reducible refine gate9 ?_); refine stF (ty := 3) (.int .i64 (-1)) rfl rfl rfl rfl HL.out (by rw [rowI_size]; omega) infoI rfl ?_; intro w5 ht hg; rw [HST.out] at ht; replace HQ := Lib.hid (HQ.out.kept hg hne1); replace HR := Lib.hid (HR.out.kept hg hne2); replace HB := Lib.hid (below_of_grown1 HB.out hg HB.out.size hgw); replace HL := Lib.hid ht; clear ht hg)
      go_roundw
      case rel => exact ⟨j + 1, by omega, by go_num, HL, HQ, HR, HB⟩
      case measure => simp [intOf]; omega
    · obtain rfl : j = 256 := by omega
      have HL2 : Hid (Bx wr gl 80 (rowI (plAt (wt.take 0) (st : Int) nxs))) := Lib.hid (by
        have h := HL.out
        rw [rowI_congr (g := plAt (wt.take 0) (st : Int) nxs) (fun i hi => by rw [HC0.out, if_pos hi])] at h
        exact h)
      have c1 := HQ.out.cell 1 (.slice A wt.length c) rfl
      clear HL
      generalize hwq : wr = wq at *
      clear hwq
      go_wp2_with fail
      clear c1
      go_loopw [19] (fun v19 wr => ∃ j : Nat, j ≤ wt.length ∧ v19 = .int .i64 j ∧ Hid (Bx wr gl 80 (rowI (plAt (wt.take j) (st : Int) nxs))) ∧ Hid (Bx wr gq 27 #[.slice (some ⟨bn, on, none⟩) nx.length cn, .slice A wt.length c]) ∧ Hid (Bx wr gr 80 (rowI fun _ => 0)) ∧ Hid (Below w.heap.size w wr))
        (fun v19 _ => wt.length - (intOf v19).toNat)
      case atStart => exact ⟨0, Nat.zero_le _, rfl, HL2, HQ, HR, HB⟩
      case round =>
        clear HL2 HQ HR HB
        obtain ⟨j, hj, rfl, HL, HQ, HR, HB⟩ := hrel
        by_cases hlt : j < wt.length
        · obtain ⟨b, off, c', e9, hb, -, -, hrg⟩ := HV.out.at hlt
          cases e9
          have HRG := Lib.hid (range_below hrg hb HB.out)
          have HNJ := Lib.hid (fun far => HNX.out far j hlt)
          have q1 : (0 : Int) ≤ (j : Int) := by omega
          have q2 : (j : Int) < (wt.length : Int) := by omega
          clear hrg
          generalize wt[j] = x at *
          obtain ⟨b1, b3⟩ := fit16 x.st
          obtain ⟨W4, hW4, HT0, HB3, hs3⟩ := one_open wr 40 #[.int .u32 0, .bool false, .int .u16 0, .int .u16 0, .int .u32 0, .string ⟨#[]⟩]
          obtain ⟨g8, hg8⟩ : ∃ g, wr.heap.size = g := ⟨_, rfl⟩
          rw [hg8] at HT0
          have hl8 : gl < g8 := by have := HL.out.lt; omega
          by_cases hx : ofB (st : Int) x = true
          · have t1 : ((x.st.toNat : Int) != (st : Int)) = false := by unfold ofB at hx; rw [decide_eq_true_iff] at hx; rw [hx]; simp
            obtain ⟨d, hd⟩ : ∃ d, x.ss - nxs = d := ⟨_, rfl⟩
            have s1 : IntKind.u16.wrap ((x.ss.toNat : Int) - (nxs.toNat : Int)) = (d.toNat : Int) := by
              rw [← hd, UInt16.toNat_sub]
              have := x.ss.toNat_lt; have := nxs.toNat_lt
              show ((x.ss.toNat : Int) - (nxs.toNat : Int)) % 65536 = _
              omega
            obtain ⟨d1, d3⟩ := fit16 d
            have HNK : Hid (∀ far, plAt (wt.take (j + 1)) (st : Int) nxs far = if plAt (wt.take j) (st : Int) nxs far = -1 then (if d.toNat = far then (j : Int) else -1) else plAt (wt.take j) (st : Int) nxs far) := Lib.hid (fun far => by rw [HNJ.out far, hx, hd]; simp)
            clear hx hd HNJ
            go_wp2_with (first
          | ((with_reducible refine gate9 ?_); refine ldMg (ty := 40) rfl rfl rfl HRG.out Try.underlying40 rfl infoM ?_)
          | ((with_reducible refine gate9 ?_); refine stB (ty := 40) (cellsMg x) rfl rfl rfl rfl HT0.out infoM rfl (cellsMg_one _) ?_; intro w4 ht hg; replace HB3 := Lib.hid (below_of_grown1 HB3.out hg HB3.out.size (Nat.le_of_eq hg8)); have HT := Lib.hid (show Bx w4 g8 40 (cellsMg x) from ht); have t7 := HT.out.cell 2 (.int .u16 (x.st.toNat : Int)) rfl; have hb := HB3.out; replace HQ := Lib.hid (HQ.out.later hb); replace HR := Lib.hid (HR.out.later hb); replace HL := Lib.hid (HL.out.later hb); replace HB := Lib.hid (HB.out.trans (hb.mono HB.out.size)); clear ht hg hb))
            by_cases hd2 : d.toNat < 256
            · have d4 : (d.toNat : Int) < 256 := by omega
              have d5 : (0 : Int) ≤ (d.toNat : Int) := by omega
              have HD := Lib.hid hd2
              obtain ⟨p, hp⟩ : ∃ p, plAt (wt.take j) (st : Int) nxs d.toNat = p := ⟨_, rfl⟩
              have HPP := Lib.hid hp
              clear hp
              by_cases hp1 : p = -1
              · subst hp1
                have HST := Lib.hid (rowI_set (plAt (wt.take j) (st : Int) nxs) (plAt (wt.take (j + 1)) (st : Int) nxs) (x := d.toNat) (v := (j : Int)) hd2 (fun i hi => by
                  rw [HNK.out i]
                  by_cases e : i = d.toNat
                  · rw [if_pos e, e, HPP.out, if_pos rfl, if_pos rfl]
                  · rw [if_neg e]
                    by_cases e2 : plAt (wt.take j) (st : Int) nxs i = -1
                    · rw [if_pos e2, if_neg (fun h => e h.symm), e2]
                    · rw [if_neg e2]))
                clear hd2
                have HS : (fun U => Bx U g8 40 (cellsMg x) ∧ Bx U gq 27 #[.slice (some ⟨bn, on, none⟩) nx.length cn, .slice (some ⟨b, off, none⟩) wt.length c] ∧ Below w.heap.size w U ∧ Below w4.heap.size w4 U) w4.drew := ⟨HT.out.drew, HQ.out.drew, below_drawn HB.out, below_drawn (Below.refl _ _)⟩
                refine wp_region_noPanic ?_
                refine wp_region_waits (S := (fun U => Bx U g8 40 (cellsMg x) ∧ Bx U gq 27 #[.slice (some ⟨bn, on, none⟩) nx.length cn, .slice (some ⟨b, off, none⟩) wt.length c] ∧ Below w.heap.size w U ∧ Below w4.heap.size w4 U)) [9] (by kernel_rfl) HS (fun hHeld => ?_)
                clear HS
                refine wpAnyW_take (i := 0) (v := ?_) (by simp only [List.getElem?_toArray, List.getElem?_cons_zero]; rfl) (by kernel_rfl) (by kernel_rfl) (by kernel_rfl) (by kernel_rfl) (by kernel_rfl) (fun _ _ _ h => h) (Or.inl ⟨by rfl, ?_⟩) (by assumption) ?_
                rotate_left 1
                · (intro w' hSw; go_simp; try with_reducible rfl)
                try simp only [Act.put, List.setIfInBounds_toArray, List.set_cons_zero, List.set_cons_succ]
                refine wpAnyW_take (i := 1) (v := ?_) (by simp only [List.getElem?_toArray, List.getElem?_cons_succ, List.getElem?_cons_zero]; rfl) (by kernel_rfl) (by kernel_rfl) (by kernel_rfl) (by kernel_rfl) (by kernel_rfl) (fun _ _ _ h => h) (Or.inl ⟨by rfl, ?_⟩) (by assumption) ?_
                rotate_left 1
                · (intro w' hSw; have hq := hSw.1.cell 3 (.int .u16 (x.ss.toNat : Int)) rfl; go_simp; try with_reducible rfl)
                try simp only [Act.put, List.setIfInBounds_toArray, List.set_cons_zero, List.set_cons_succ]
                refine wpAnyW_take (i := 2) (v := ?_) (by simp only [List.getElem?_toArray, List.getElem?_cons_succ, List.getElem?_cons_zero]; rfl) (by kernel_rfl) (by kernel_rfl) (by kernel_rfl) (by kernel_rfl) (by kernel_rfl) (fun _ _ _ h => h) (Or.inl ⟨by rfl, ?_⟩) (by assumption) ?_
                rotate_left 1
                · (intro w' hSw; go_simp; try with_reducible rfl)
                try simp only [Act.put, List.setIfInBounds_toArray, List.set_cons_zero, List.set_cons_succ]
                refine wpAnyW_take (i := 3) (v := ?_) (by simp only [List.getElem?_toArray, List.getElem?_cons_succ, List.getElem?_cons_zero]; rfl) (by kernel_rfl) (by kernel_rfl) (by kernel_rfl) (by kernel_rfl) (by kernel_rfl) (fun _ _ _ h => h) (Or.inl ⟨by rfl, ?_⟩) (by assumption) ?_
                rotate_left 1
                · (intro w' hSw; have hq := hSw.2.1.cell 0 (.slice (some ⟨bn, on, none⟩) nx.length cn) rfl; go_simp; try with_reducible rfl)
                try simp only [Act.put, List.setIfInBounds_toArray, List.set_cons_zero, List.set_cons_succ]
                refine wpAnyW_take (i := 4) (v := ?_) (by simp only [List.getElem?_toArray, List.getElem?_cons_succ, List.getElem?_cons_zero]; rfl) (by kernel_rfl) (by kernel_rfl) (by kernel_rfl) (by kernel_rfl) (by kernel_rfl) (fun _ _ _ h => h) (Or.inl ⟨by rfl, ?_⟩) (by assumption) ?_
                rotate_left 1
                · (intro w' hSw; go_simp; try with_reducible rfl)
                try simp only [Act.put, List.setIfInBounds_toArray, List.set_cons_zero, List.set_cons_succ]
                refine wpAnyW_take (i := 5) (v := ?_) (by simp only [List.getElem?_toArray, List.getElem?_cons_succ, List.getElem?_cons_zero]; rfl) (by kernel_rfl) (by kernel_rfl) (by kernel_rfl) (by kernel_rfl) (by kernel_rfl) (fun _ _ _ h => h) (Or.inl ⟨by rfl, ?_⟩) (by assumption) ?_
                rotate_left 1
                · (intro w' hSw; go_simp; try with_reducible rfl)
                try simp only [Act.put, List.setIfInBounds_toArray, List.set_cons_zero, List.set_cons_succ]
                refine wpAnyW_take (i := 6) (v := ?_) (by simp only [List.getElem?_toArray, List.getElem?_cons_succ, List.getElem?_cons_zero]; rfl) (by kernel_rfl) (by kernel_rfl) (by kernel_rfl) (by kernel_rfl) (by kernel_rfl) (fun _ _ _ h => h) (Or.inl ⟨by rfl, ?_⟩) (by assumption) ?_
                rotate_left 1
                · (intro w' hSw; have hq := (hSw.2.2.1.cell (p := ⟨bn, on + st, none⟩) hbn).trans en; go_simp; try with_reducible rfl)
                try simp only [Act.put, List.setIfInBounds_toArray, List.set_cons_zero, List.set_cons_succ]
                refine wpAnyW_take (i := 7) (v := ?_) (by simp only [List.getElem?_toArray, List.getElem?_cons_succ, List.getElem?_cons_zero]; rfl) (by kernel_rfl) (by kernel_rfl) (by kernel_rfl) (by kernel_rfl) (by kernel_rfl) (fun _ _ _ h => h) (Or.inl ⟨by rfl, ?_⟩) (by assumption) ?_
                rotate_left 1
                · (intro w' hSw; go_simp; try with_reducible rfl)
                try simp only [Act.put, List.setIfInBounds_toArray, List.set_cons_zero, List.set_cons_succ]
                refine wpAnyW_take (i := 8) (v := ?_) (by simp only [List.getElem?_toArray, List.getElem?_cons_succ, List.getElem?_cons_zero]; rfl) (by kernel_rfl) (by kernel_rfl) (by kernel_rfl) (by kernel_rfl) (by kernel_rfl) (fun _ _ _ h => h) (Or.inl ⟨by rfl, ?_⟩) (by assumption) ?_
                rotate_left 1
                · (intro w' hSw; go_simp; try with_reducible rfl)
                try simp only [Act.put, List.setIfInBounds_toArray, List.set_cons_zero, List.set_cons_succ]
                refine wpAnyW_freed (i := 9) (by kernel_rfl) (by kernel_rfl) (by simp only [List.getElem?_toArray, List.getElem?_cons_succ, List.getElem?_cons_zero]; rfl) (fun K hK => ?_)
                rw [if_pos (by rfl)]
                go_simp
                have hb := hHeld.2.2.2
                have HL9 := Lib.hid (HL.out.later hb)
                have HQ9 := Lib.hid (HQ.out.later hb)
                have HR9 := Lib.hid (HR.out.later hb)
                have HB9 := Lib.hid (HB.out.trans (hb.mono HB.out.size))
                have lc := HL9.out.cell d.toNat (.int .i64 (-1)) (by rw [rowI_at _ HD.out, HPP.out])
                refine hK.out _ _ ?_
                clear hK K hHeld hb
                try simp only [Act.put, List.setIfInBounds_toArray, List.set_cons_zero, List.set_cons_succ]
                refine wpAnyW_done (by kernel_rfl) ?_ _
                refine NoPanic.normal ?_
                go_wp2_with ((with_reducible refine gate9 ?_); refine stF (ty := 3) (.int .i64 (j : Int)) rfl rfl rfl rfl HL9.out (by rw [rowI_size]; exact HD.out) infoI rfl ?_; intro w5 ht hg; rw [HST.out] at ht; replace HQ9 := Lib.hid (HQ9.out.kept hg hne1); replace HR9 := Lib.hid (HR9.out.kept hg hne2); replace HB9 := Lib.hid (below_of_grown1 HB9.out hg HB9.out.size hgw); replace HL9 := Lib.hid ht; clear ht hg)
                go_roundw
                case rel => (first | exact ⟨j + 1, by omega, by go_num, HL9, HQ9, HR9, HB9⟩ | ((repeat apply Exists.intro); refine ⟨?_, rfl⟩; first | exact ⟨j + 1, by omega, by go_num, HL9, HQ9, HR9, HB9⟩ | exact ⟨j + 1, by omega, by go_num, HL9, HB9⟩ | exact ⟨j + 1, by omega, by go_num, HL9, HQ9, HB9⟩ | exact ⟨j + 1, by omega, by go_num, HL9, HR9, HB9⟩ | exact ⟨j + 1, by omega, by go_num, HL9⟩ | exact ⟨j + 1, by omega, by go_num⟩) | ((repeat apply Exists.intro); refine ⟨?_, rfl, rfl, rfl, rfl⟩; first | exact ⟨j + 1, by omega, by go_num, HL9, HQ9, HR9, HB9⟩ | exact ⟨j + 1, by omega, by go_num, HL9, HB9⟩ | exact ⟨j + 1, by omega, by go_num, HL9⟩))
                case measure => simp [intOf]; omega
              · have t2 : (p == -1) = false := by rw [beq_eq_false_iff_ne]; exact hp1
                have HSM : Hid (rowI (plAt (wt.take (j + 1)) (st : Int) nxs) = rowI (plAt (wt.take j) (st : Int) nxs)) := Lib.hid (rowI_congr (fun i hi => by
                  rw [HNK.out i]
                  by_cases e2 : plAt (wt.take j) (st : Int) nxs i = -1
                  · rw [if_pos e2, if_neg (fun h => hp1 (by rw [← HPP.out, h]; exact e2)), e2]
                  · rw [if_neg e2]))
                clear hd2 hp1
                have HS : (fun U => Bx U g8 40 (cellsMg x) ∧ Bx U gq 27 #[.slice (some ⟨bn, on, none⟩) nx.length cn, .slice (some ⟨b, off, none⟩) wt.length c] ∧ Below w.heap.size w U ∧ Below w4.heap.size w4 U) w4.drew := ⟨HT.out.drew, HQ.out.drew, below_drawn HB.out, below_drawn (Below.refl _ _)⟩
                refine wp_region_noPanic ?_
                refine wp_region_waits (S := (fun U => Bx U g8 40 (cellsMg x) ∧ Bx U gq 27 #[.slice (some ⟨bn, on, none⟩) nx.length cn, .slice (some ⟨b, off, none⟩) wt.length c] ∧ Below w.heap.size w U ∧ Below w4.heap.size w4 U)) [9] (by kernel_rfl) HS (fun hHeld => ?_)
                clear HS
                refine wpAnyW_take (i := 0) (v := ?_) (by simp only [List.getElem?_toArray, List.getElem?_cons_zero]; rfl) (by kernel_rfl) (by kernel_rfl) (by kernel_rfl) (by kernel_rfl) (by kernel_rfl) (fun _ _ _ h => h) (Or.inl ⟨by rfl, ?_⟩) (by assumption) ?_
                rotate_left 1
                · (intro w' hSw; go_simp; try with_reducible rfl)
                try simp only [Act.put, List.setIfInBounds_toArray, List.set_cons_zero, List.set_cons_succ]
                refine wpAnyW_take (i := 1) (v := ?_) (by simp only [List.getElem?_toArray, List.getElem?_cons_succ, List.getElem?_cons_zero]; rfl) (by kernel_rfl) (by kernel_rfl) (by kernel_rfl) (by kernel_rfl) (by kernel_rfl) (fun _ _ _ h => h) (Or.inl ⟨by rfl, ?_⟩) (by assumption) ?_
                rotate_left 1
                · (intro w' hSw; have hq := hSw.1.cell 3 (.int .u16 (x.ss.toNat : Int)) rfl; go_simp; try with_reducible rfl)
                try simp only [Act.put, List.setIfInBounds_toArray, List.set_cons_zero, List.set_cons_succ]
                refine wpAnyW_take (i := 2) (v := ?_) (by simp only [List.getElem?_toArray, List.getElem?_cons_succ, List.getElem?_cons_zero]; rfl) (by kernel_rfl) (by kernel_rfl) (by kernel_rfl) (by kernel_rfl) (by kernel_rfl) (fun _ _ _ h => h) (Or.inl ⟨by rfl, ?_⟩) (by assumption) ?_
                rotate_left 1
                · (intro w' hSw; go_simp; try with_reducible rfl)
                try simp only [Act.put, List.setIfInBounds_toArray, List.set_cons_zero, List.set_cons_succ]
                refine wpAnyW_take (i := 3) (v := ?_) (by simp only [List.getElem?_toArray, List.getElem?_cons_succ, List.getElem?_cons_zero]; rfl) (by kernel_rfl) (by kernel_rfl) (by kernel_rfl) (by kernel_rfl) (by kernel_rfl) (fun _ _ _ h => h) (Or.inl ⟨by rfl, ?_⟩) (by assumption) ?_
                rotate_left 1
                · (intro w' hSw; have hq := hSw.2.1.cell 0 (.slice (some ⟨bn, on, none⟩) nx.length cn) rfl; go_simp; try with_reducible rfl)
                try simp only [Act.put, List.setIfInBounds_toArray, List.set_cons_zero, List.set_cons_succ]
                refine wpAnyW_take (i := 4) (v := ?_) (by simp only [List.getElem?_toArray, List.getElem?_cons_succ, List.getElem?_cons_zero]; rfl) (by kernel_rfl) (by kernel_rfl) (by kernel_rfl) (by kernel_rfl) (by kernel_rfl) (fun _ _ _ h => h) (Or.inl ⟨by rfl, ?_⟩) (by assumption) ?_
                rotate_left 1
                · (intro w' hSw; go_simp; try with_reducible rfl)
                try simp only [Act.put, List.setIfInBounds_toArray, List.set_cons_zero, List.set_cons_succ]
                refine wpAnyW_take (i := 5) (v := ?_) (by simp only [List.getElem?_toArray, List.getElem?_cons_succ, List.getElem?_cons_zero]; rfl) (by kernel_rfl) (by kernel_rfl) (by kernel_rfl) (by kernel_rfl) (by kernel_rfl) (fun _ _ _ h => h) (Or.inl ⟨by rfl, ?_⟩) (by assumption) ?_
                rotate_left 1
                · (intro w' hSw; go_simp; try with_reducible rfl)
                try simp only [Act.put, List.setIfInBounds_toArray, List.set_cons_zero, List.set_cons_succ]
                refine wpAnyW_take (i := 6) (v := ?_) (by simp only [List.getElem?_toArray, List.getElem?_cons_succ, List.getElem?_cons_zero]; rfl) (by kernel_rfl) (by kernel_rfl) (by kernel_rfl) (by kernel_rfl) (by kernel_rfl) (fun _ _ _ h => h) (Or.inl ⟨by rfl, ?_⟩) (by assumption) ?_
                rotate_left 1
                · (intro w' hSw; have hq := (hSw.2.2.1.cell (p := ⟨bn, on + st, none⟩) hbn).trans en; go_simp; try with_reducible rfl)
                try simp only [Act.put, List.setIfInBounds_toArray, List.set_cons_zero, List.set_cons_succ]
                refine wpAnyW_take (i := 7) (v := ?_) (by simp only [List.getElem?_toArray, List.getElem?_cons_succ, List.getElem?_cons_zero]; rfl) (by kernel_rfl) (by kernel_rfl) (by kernel_rfl) (by kernel_rfl) (by kernel_rfl) (fun _ _ _ h => h) (Or.inl ⟨by rfl, ?_⟩) (by assumption) ?_
                rotate_left 1
                · (intro w' hSw; go_simp; try with_reducible rfl)
                try simp only [Act.put, List.setIfInBounds_toArray, List.set_cons_zero, List.set_cons_succ]
                refine wpAnyW_take (i := 8) (v := ?_) (by simp only [List.getElem?_toArray, List.getElem?_cons_succ, List.getElem?_cons_zero]; rfl) (by kernel_rfl) (by kernel_rfl) (by kernel_rfl) (by kernel_rfl) (by kernel_rfl) (fun _ _ _ h => h) (Or.inl ⟨by rfl, ?_⟩) (by assumption) ?_
                rotate_left 1
                · (intro w' hSw; go_simp; try with_reducible rfl)
                try simp only [Act.put, List.setIfInBounds_toArray, List.set_cons_zero, List.set_cons_succ]
                refine wpAnyW_freed (i := 9) (by kernel_rfl) (by kernel_rfl) (by simp only [List.getElem?_toArray, List.getElem?_cons_succ, List.getElem?_cons_zero]; rfl) (fun K hK => ?_)
                rw [if_pos (by rfl)]
                go_simp
                have hb := hHeld.2.2.2
                have HL9 := Lib.hid (HL.out.later hb)
                have HQ9 := Lib.hid (HQ.out.later hb)
                have HR9 := Lib.hid (HR.out.later hb)
                have HB9 := Lib.hid (HB.out.trans (hb.mono HB.out.size))
                have lc := HL9.out.cell d.toNat (.int .i64 p) (by rw [rowI_at _ HD.out, HPP.out])
                refine hK.out _ _ ?_
                clear hK K hHeld hb
                try simp only [Act.put, List.setIfInBounds_toArray, List.set_cons_zero, List.set_cons_succ]
                refine wpAnyW_done (by kernel_rfl) ?_ _
                refine NoPanic.normal ?_
                go_wp2_with fail
                go_roundw
                case rel => (first | exact ⟨j + 1, by omega, by go_num, Lib.hid (by rw [HSM.out]; exact HL9.out), HQ9, HR9, HB9⟩ | ((repeat apply Exists.intro); refine ⟨?_, rfl⟩; first | exact ⟨j + 1, by omega, by go_num, Lib.hid (by rw [HSM.out]; exact HL9.out), HQ9, HR9, HB9⟩ | exact ⟨j + 1, by omega, by go_num, Lib.hid (by rw [HSM.out]; exact HL9.out), HB9⟩ | exact ⟨j + 1, by omega, by go_num, Lib.hid (by rw [HSM.out]; exact HL9.out), HQ9, HB9⟩ | exact ⟨j + 1, by omega, by go_num, Lib.hid (by rw [HSM.out]; exact HL9.out), HR9, HB9⟩ | exact ⟨j + 1, by omega, by go_num, Lib.hid (by rw [HSM.out]; exact HL9.out)⟩ | exact ⟨j + 1, by omega, by go_num⟩) | ((repeat apply Exists.intro); refine ⟨?_, rfl, rfl, rfl, rfl⟩; first | exact ⟨j + 1, by omega, by go_num, Lib.hid (by rw [HSM.out]; exact HL9.out), HQ9, HR9, HB9⟩ | exact ⟨j + 1, by omega, by go_num, Lib.hid (by rw [HSM.out]; exact HL9.out), HB9⟩ | exact ⟨j + 1, by omega, by go_num, Lib.hid (by rw [HSM.out]; exact HL9.out)⟩))
                case measure => simp [intOf]; omega
            · have d4 : ¬ (d.toNat : Int) < 256 := by omega
              have HSM : Hid (rowI (plAt (wt.take (j + 1)) (st : Int) nxs) = rowI (plAt (wt.take j) (st : Int) nxs)) := Lib.hid (rowI_congr (fun i hi => by
                rw [HNK.out i]
                by_cases e2 : plAt (wt.take j) (st : Int) nxs i = -1
                · rw [if_pos e2, if_neg (fun h => hd2 (by omega)), e2]
                · rw [if_neg e2]))
              clear hd2
              have HS : (fun U => Bx U g8 40 (cellsMg x) ∧ Bx U gq 27 #[.slice (some ⟨bn, on, none⟩) nx.length cn, .slice (some ⟨b, off, none⟩) wt.length c] ∧ Below w.heap.size w U ∧ Below w4.heap.size w4 U) w4.drew := ⟨HT.out.drew, HQ.out.drew, below_drawn HB.out, below_drawn (Below.refl _ _)⟩
              refine wp_region_noPanic ?_
              refine wp_region_waits (S := (fun U => Bx U g8 40 (cellsMg x) ∧ Bx U gq 27 #[.slice (some ⟨bn, on, none⟩) nx.length cn, .slice (some ⟨b, off, none⟩) wt.length c] ∧ Below w.heap.size w U ∧ Below w4.heap.size w4 U)) [9] (by kernel_rfl) HS (fun hHeld => ?_)
              clear HS
              refine wpAnyW_take (i := 0) (v := ?_) (by simp only [List.getElem?_toArray, List.getElem?_cons_zero]; rfl) (by kernel_rfl) (by kernel_rfl) (by kernel_rfl) (by kernel_rfl) (by kernel_rfl) (fun _ _ _ h => h) (Or.inl ⟨by rfl, ?_⟩) (by assumption) ?_
              rotate_left 1
              · (intro w' hSw; go_simp; try with_reducible rfl)
              try simp only [Act.put, List.setIfInBounds_toArray, List.set_cons_zero, List.set_cons_succ]
              refine wpAnyW_take (i := 1) (v := ?_) (by simp only [List.getElem?_toArray, List.getElem?_cons_succ, List.getElem?_cons_zero]; rfl) (by kernel_rfl) (by kernel_rfl) (by kernel_rfl) (by kernel_rfl) (by kernel_rfl) (fun _ _ _ h => h) (Or.inl ⟨by rfl, ?_⟩) (by assumption) ?_
              rotate_left 1
              · (intro w' hSw; have hq := hSw.1.cell 3 (.int .u16 (x.ss.toNat : Int)) rfl; go_simp; try with_reducible rfl)
              try simp only [Act.put, List.setIfInBounds_toArray, List.set_cons_zero, List.set_cons_succ]
              refine wpAnyW_take (i := 2) (v := ?_) (by simp only [List.getElem?_toArray, List.getElem?_cons_succ, List.getElem?_cons_zero]; rfl) (by kernel_rfl) (by kernel_rfl) (by kernel_rfl) (by kernel_rfl) (by kernel_rfl) (fun _ _ _ h => h) (Or.inl ⟨by rfl, ?_⟩) (by assumption) ?_
              rotate_left 1
              · (intro w' hSw; go_simp; try with_reducible rfl)
              try simp only [Act.put, List.setIfInBounds_toArray, List.set_cons_zero, List.set_cons_succ]
              refine wpAnyW_take (i := 3) (v := ?_) (by simp only [List.getElem?_toArray, List.getElem?_cons_succ, List.getElem?_cons_zero]; rfl) (by kernel_rfl) (by kernel_rfl) (by kernel_rfl) (by kernel_rfl) (by kernel_rfl) (fun _ _ _ h => h) (Or.inl ⟨by rfl, ?_⟩) (by assumption) ?_
              rotate_left 1
              · (intro w' hSw; have hq := hSw.2.1.cell 0 (.slice (some ⟨bn, on, none⟩) nx.length cn) rfl; go_simp; try with_reducible rfl)
              try simp only [Act.put, List.setIfInBounds_toArray, List.set_cons_zero, List.set_cons_succ]
              refine wpAnyW_take (i := 4) (v := ?_) (by simp only [List.getElem?_toArray, List.getElem?_cons_succ, List.getElem?_cons_zero]; rfl) (by kernel_rfl) (by kernel_rfl) (by kernel_rfl) (by kernel_rfl) (by kernel_rfl) (fun _ _ _ h => h) (Or.inl ⟨by rfl, ?_⟩) (by assumption) ?_
              rotate_left 1
              · (intro w' hSw; go_simp; try with_reducible rfl)
              try simp only [Act.put, List.setIfInBounds_toArray, List.set_cons_zero, List.set_cons_succ]
              refine wpAnyW_take (i := 5) (v := ?_) (by simp only [List.getElem?_toArray, List.getElem?_cons_succ, List.getElem?_cons_zero]; rfl) (by kernel_rfl) (by kernel_rfl) (by kernel_rfl) (by kernel_rfl) (by kernel_rfl) (fun _ _ _ h => h) (Or.inl ⟨by rfl, ?_⟩) (by assumption) ?_
              rotate_left 1
              · (intro w' hSw; go_simp; try with_reducible rfl)
              try simp only [Act.put, List.setIfInBounds_toArray, List.set_cons_zero, List.set_cons_succ]
              refine wpAnyW_take (i := 6) (v := ?_) (by simp only [List.getElem?_toArray, List.getElem?_cons_succ, List.getElem?_cons_zero]; rfl) (by kernel_rfl) (by kernel_rfl) (by kernel_rfl) (by kernel_rfl) (by kernel_rfl) (fun _ _ _ h => h) (Or.inl ⟨by rfl, ?_⟩) (by assumption) ?_
              rotate_left 1
              · (intro w' hSw; have hq := (hSw.2.2.1.cell (p := ⟨bn, on + st, none⟩) hbn).trans en; go_simp; try with_reducible rfl)
              try simp only [Act.put, List.setIfInBounds_toArray, List.set_cons_zero, List.set_cons_succ]
              refine wpAnyW_take (i := 7) (v := ?_) (by simp only [List.getElem?_toArray, List.getElem?_cons_succ, List.getElem?_cons_zero]; rfl) (by kernel_rfl) (by kernel_rfl) (by kernel_rfl) (by kernel_rfl) (by kernel_rfl) (fun _ _ _ h => h) (Or.inl ⟨by rfl, ?_⟩) (by assumption) ?_
              rotate_left 1
              · (intro w' hSw; go_simp; try with_reducible rfl)
              try simp only [Act.put, List.setIfInBounds_toArray, List.set_cons_zero, List.set_cons_succ]
              refine wpAnyW_take (i := 8) (v := ?_) (by simp only [List.getElem?_toArray, List.getElem?_cons_succ, List.getElem?_cons_zero]; rfl) (by kernel_rfl) (by kernel_rfl) (by kernel_rfl) (by kernel_rfl) (by kernel_rfl) (fun _ _ _ h => h) (Or.inl ⟨by rfl, ?_⟩) (by assumption) ?_
              rotate_left 1
              · (intro w' hSw; go_simp; try with_reducible rfl)
              try simp only [Act.put, List.setIfInBounds_toArray, List.set_cons_zero, List.set_cons_succ]
              refine wpAnyW_freed (i := 9) (by kernel_rfl) (by kernel_rfl) (by simp only [List.getElem?_toArray, List.getElem?_cons_succ, List.getElem?_cons_zero]; rfl) (fun K hK => ?_)
              rw [if_pos (by rfl)]
              go_simp
              have hb := hHeld.2.2.2
              have HL9 := Lib.hid (HL.out.later hb)
              have HQ9 := Lib.hid (HQ.out.later hb)
              have HR9 := Lib.hid (HR.out.later hb)
              have HB9 := Lib.hid (HB.out.trans (hb.mono HB.out.size))
              skip
              refine hK.out _ _ ?_
              clear hK K hHeld hb
              try simp only [Act.put, List.setIfInBounds_toArray, List.set_cons_zero, List.set_cons_succ]
              refine wpAnyW_done (by kernel_rfl) ?_ _
              refine NoPanic.normal ?_
              go_wp2_with fail
              go_roundw
              case rel => (first | exact ⟨j + 1, by omega, by go_num, Lib.hid (by rw [HSM.out]; exact HL9.out), HQ9, HR9, HB9⟩ | ((repeat apply Exists.intro); refine ⟨?_, rfl⟩; first | exact ⟨j + 1, by omega, by go_num, Lib.hid (by rw [HSM.out]; exact HL9.out), HQ9, HR9, HB9⟩ | exact ⟨j + 1, by omega, by go_num, Lib.hid (by rw [HSM.out]; exact HL9.out), HB9⟩ | exact ⟨j + 1, by omega, by go_num, Lib.hid (by rw [HSM.out]; exact HL9.out), HQ9, HB9⟩ | exact ⟨j + 1, by omega, by go_num, Lib.hid (by rw [HSM.out]; exact HL9.out), HR9, HB9⟩ | exact ⟨j + 1, by omega, by go_num, Lib.hid (by rw [HSM.out]; exact HL9.out)⟩ | exact ⟨j + 1, by omega, by go_num⟩) | ((repeat apply Exists.intro); refine ⟨?_, rfl, rfl, rfl, rfl⟩; first | exact ⟨j + 1, by omega, by go_num, Lib.hid (by rw [HSM.out]; exact HL9.out), HQ9, HR9, HB9⟩ | exact ⟨j + 1, by omega, by go_num, Lib.hid (by rw [HSM.out]; exact HL9.out), HB9⟩ | exact ⟨j + 1, by omega, by go_num, Lib.hid (by rw [HSM.out]; exact HL9.out)⟩))
              case measure => simp [intOf]; omega
          · have hx2 : ofB (st : Int) x = false := by simpa using hx
            have t1 : ((x.st.toNat : Int) != (st : Int)) = true := by
              have : ¬ (x.st.toNat : Int) = (st : Int) := fun h => hx (decide_eq_true h)
              simpa using this
            have HNK : Hid (∀ far, plAt (wt.take (j + 1)) (st : Int) nxs far = plAt (wt.take j) (st : Int) nxs far) := Lib.hid (fun far => by
              rw [HNJ.out far, hx2, Bool.false_and]
              by_cases e : plAt (wt.take j) (st : Int) nxs far = -1
              · rw [if_pos e, e]; rfl
              · rw [if_neg e])
            clear hx hx2 HNJ
            go_wp2_with (first
          | ((with_reducible refine gate9 ?_); refine ldMg (ty := 40) rfl rfl rfl HRG.out Try.underlying40 rfl infoM ?_)
          | ((with_reducible refine gate9 ?_); refine stB (ty := 40) (cellsMg x) rfl rfl rfl rfl HT0.out infoM rfl (cellsMg_one _) ?_; intro w4 ht hg; replace HB3 := Lib.hid (below_of_grown1 HB3.out hg HB3.out.size (Nat.le_of_eq hg8)); have HT := Lib.hid (show Bx w4 g8 40 (cellsMg x) from ht); have t7 := HT.out.cell 2 (.int .u16 (x.st.toNat : Int)) rfl; have hb := HB3.out; replace HQ := Lib.hid (HQ.out.later hb); replace HR := Lib.hid (HR.out.later hb); replace HL := Lib.hid (HL.out.later hb); replace HB := Lib.hid (HB.out.trans (hb.mono HB.out.size)); clear ht hg hb))
            go_roundw
            case rel => ((repeat apply Exists.intro); refine ⟨?_, rfl⟩; exact ⟨j + 1, by omega, by go_num, Lib.hid (by rw [rowI_congr (fun i _ => HNK.out i)]; exact HL.out), HQ, HR, HB⟩)
            case measure => simp [intOf]; omega
        · obtain rfl : j = wt.length := by omega
          have HL2 : Hid (Bx wr gl 80 (rowI (plAt wt (st : Int) nxs))) := Lib.hid (by have h := HL.out; rw [HFU.out] at h; exact h)
          clear HL
          go_wp2_with (first
            | ((with_reducible refine gate9 ?_); refine ldB (ty := 80) (cs := rowI (plAt wt (st : Int) nxs)) rfl rfl rfl HL2.out Try.underlying80 rfl (by rw [rowI_size]; exact infoA1) ?_)
            | ((with_reducible refine gate9 ?_); refine stB (ty := 80) (rowI (plAt wt (st : Int) nxs)) rfl rfl rfl rfl HR.out (by rw [rowI_size]; exact infoA1) (by rw [rowI_size, rowI_size]) (rowI_one _) ?_; intro w9 ht hg; have HZ := Lib.hid ht; replace HB := Lib.hid (below_of_grown1 HB.out hg HB.out.size hgw2); clear ht hg))
          exact bodyPost_ret (retA rfl rfl HZ.out) rfl ⟨rfl, HB.out⟩
end Go.Proofs.Ytondgdacjbfihaa
