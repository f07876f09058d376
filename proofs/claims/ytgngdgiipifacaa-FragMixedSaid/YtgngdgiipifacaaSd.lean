/-
  Package frag: what is left of a bag when a row is taken out: contracts.
-/
import Derived.Test.YtgngdgiipifacaaSc
namespace Go.Proofs.Ytgngdgiipifacaa
open Go.RowKit
set_option linter.unusedVariables false
set_option linter.unusedSimpArgs false
set_option maxRecDepth 100000

/-- Where the first one lies of which f says yes. -/
def findL {α : Type} (f : α → Bool) (l : List α) : Option Nat := l.findIdx? f
set_option maxHeartbeats 2000000 in
theorem hit_any (x : Pc) (r : List Pc) (hr : 0 < r.length) (hr2 : r.length ≤ 1000) (g : Nat) (V : Value) (w : World) (hg : Bx w g 29 #[V]) (hv : RowP w V r) : Calls Try.prog 32 #[.agg (cellsPc x), .pointer (some ⟨g, 0, none⟩)] w fun e w' => e = .returned (.bool (inRow r x)) ∧ Below w.heap.size w w' := by
  obtain ⟨W, hW, HX, HB, hs⟩ := one_open w 43 (cellsPc x)
  obtain ⟨b, off, cap, rfl, hb, hc1, hc2, hrg⟩ := hv.at hr
  have HG := Lib.hid (hg.later HB.out)
  rw [Nat.zero_mul, Nat.add_zero] at hrg
  have HR0 := Lib.hid (range_below hrg hb HB.out)
  obtain ⟨r0, hr0⟩ : ∃ y, r[0] = y := ⟨_, rfl⟩
  rw [hr0] at HR0
  have s1 := sub_toNat32 x.ts r0.ts
  have s1' : IntKind.u32.wrap ((x.ts.toNat : Int) - (r0.ts.toNat : Int)) = ((x.ts - r0.ts).toNat : Int) := by rw [← s1]; rfl
  have s2 : IntKind.u32.wrap (r.length : Int) = (r.length : Int) := by show (r.length : Int) % 4294967296 = _; omega
  have s2' : (r.length : Int) % 4294967296 = (r.length : Int) := by omega
  have q1 : (0 : Int) < (r.length : Int) := by omega
  have q2 : (r.length : Int) ≤ 1000 := by omega
  have HIN : Hid (inRow r x = decide ((x.ts - r0.ts).toNat < r.length)) := Lib.hid (by unfold inRow; rw [getElem!_pos r 0 hr, hr0])
  generalize (x.ts - r0.ts).toNat = d at *
  have e1 : decide ((d : Int) < (r.length : Int)) = decide (d < r.length) := by congr 1; exact propext (by omega)
  obtain ⟨res, hres⟩ : ∃ y, decide (d < r.length) = y := ⟨_, rfl⟩
  rw [hres] at HIN e1
  have HRES : Hid (res = inRow r x) := Lib.hid HIN.out.symm
  clear hrg hg hv HIN hr0
  go_enter Try.func32, Try.ntmps32
  go_wp2_with fail
  have HS : (fun U => Bx U w.heap.size 43 (cellsPc x) ∧ Bx U g 29 #[.slice (some ⟨b, off, none⟩) r.length cap] ∧ U.rangeAt b off (cellsPc r0).toList ∧ Below w.heap.size w U) _ := ⟨HX.out.drew, HG.out.drew, fun j v hj => HR0.out j v hj, below_drawn HB.out⟩
  refine wp_region_noPanic ?_
  refine wp_region_waits (S := (fun U => Bx U w.heap.size 43 (cellsPc x) ∧ Bx U g 29 #[.slice (some ⟨b, off, none⟩) r.length cap] ∧ U.rangeAt b off (cellsPc r0).toList ∧ Below w.heap.size w U)) [11] (by kernel_rfl) HS (fun hHeld => ?_)
  clear HS
  refine wpAnyW_take (i := 0) (v := ?_) (by simp only [List.getElem?_toArray, List.getElem?_cons_zero]; rfl) (by kernel_rfl) (by kernel_rfl) (by kernel_rfl) (by kernel_rfl) (by kernel_rfl) (fun _ _ _ h => h) (Or.inl ⟨by rfl, ?_⟩) (by assumption) ?_
  rotate_left 1
  · (intro w' hSw; go_simp; try with_reducible rfl)
  try simp only [Act.put, List.setIfInBounds_toArray, List.set_cons_zero, List.set_cons_succ]
  refine wpAnyW_take (i := 1) (v := ?_) (by simp only [List.getElem?_toArray, List.getElem?_cons_succ, List.getElem?_cons_zero]; rfl) (by kernel_rfl) (by kernel_rfl) (by kernel_rfl) (by kernel_rfl) (by kernel_rfl) (fun _ _ _ h => h) (Or.inl ⟨by rfl, ?_⟩) (by assumption) ?_
  rotate_left 1
  · (intro w' hSw; have hq := hSw.1.cell 0 (.int .u32 (x.ts.toNat : Int)) rfl; go_simp; try with_reducible rfl)
  try simp only [Act.put, List.setIfInBounds_toArray, List.set_cons_zero, List.set_cons_succ]
  refine wpAnyW_take (i := 2) (v := ?_) (by simp only [List.getElem?_toArray, List.getElem?_cons_succ, List.getElem?_cons_zero]; rfl) (by kernel_rfl) (by kernel_rfl) (by kernel_rfl) (by kernel_rfl) (by kernel_rfl) (fun _ _ _ h => h) (Or.inl ⟨by rfl, ?_⟩) (by assumption) ?_
  rotate_left 1
  · (intro w' hSw; have hq := hSw.2.1.cell 0 (.slice (some ⟨b, off, none⟩) r.length cap) rfl; go_simp; try with_reducible rfl)
  try simp only [Act.put, List.setIfInBounds_toArray, List.set_cons_zero, List.set_cons_succ]
  refine wpAnyW_take (i := 3) (v := ?_) (by simp only [List.getElem?_toArray, List.getElem?_cons_succ, List.getElem?_cons_zero]; rfl) (by kernel_rfl) (by kernel_rfl) (by kernel_rfl) (by kernel_rfl) (by kernel_rfl) (fun _ _ _ h => h) (Or.inl ⟨by rfl, ?_⟩) (by assumption) ?_
  rotate_left 1
  · (intro w' hSw; go_simp; try with_reducible rfl)
  try simp only [Act.put, List.setIfInBounds_toArray, List.set_cons_zero, List.set_cons_succ]
  refine wpAnyW_take (i := 4) (v := ?_) (by simp only [List.getElem?_toArray, List.getElem?_cons_succ, List.getElem?_cons_zero]; rfl) (by kernel_rfl) (by kernel_rfl) (by kernel_rfl) (by kernel_rfl) (by kernel_rfl) (fun _ _ _ h => h) (Or.inl ⟨by rfl, ?_⟩) (by assumption) ?_
  rotate_left 1
  · (intro w' hSw; go_simp; try with_reducible rfl)
  try simp only [Act.put, List.setIfInBounds_toArray, List.set_cons_zero, List.set_cons_succ]
  refine wpAnyW_take (i := 5) (v := ?_) (by simp only [List.getElem?_toArray, List.getElem?_cons_succ, List.getElem?_cons_zero]; rfl) (by kernel_rfl) (by kernel_rfl) (by kernel_rfl) (by kernel_rfl) (by kernel_rfl) (fun _ _ _ h => h) (Or.inl ⟨by rfl, ?_⟩) (by assumption) ?_
  rotate_left 1
  · (intro w' hSw; have hq := hSw.2.2.1 0 (.int .u32 (r0.ts.toNat : Int)) rfl; rw [Nat.add_zero] at hq; go_simp; try with_reducible rfl)
  try simp only [Act.put, List.setIfInBounds_toArray, List.set_cons_zero, List.set_cons_succ]
  refine wpAnyW_take (i := 6) (v := ?_) (by simp only [List.getElem?_toArray, List.getElem?_cons_succ, List.getElem?_cons_zero]; rfl) (by kernel_rfl) (by kernel_rfl) (by kernel_rfl) (by kernel_rfl) (by kernel_rfl) (fun _ _ _ h => h) (Or.inl ⟨by rfl, ?_⟩) (by assumption) ?_
  rotate_left 1
  · (intro w' hSw; go_simp; try with_reducible rfl)
  try simp only [Act.put, List.setIfInBounds_toArray, List.set_cons_zero, List.set_cons_succ]
  refine wpAnyW_take (i := 7) (v := ?_) (by simp only [List.getElem?_toArray, List.getElem?_cons_succ, List.getElem?_cons_zero]; rfl) (by kernel_rfl) (by kernel_rfl) (by kernel_rfl) (by kernel_rfl) (by kernel_rfl) (fun _ _ _ h => h) (Or.inl ⟨by rfl, ?_⟩) (by assumption) ?_
  rotate_left 1
  · (intro w' hSw; have hq := hSw.2.1.cell 0 (.slice (some ⟨b, off, none⟩) r.length cap) rfl; go_simp; try with_reducible rfl)
  try simp only [Act.put, List.setIfInBounds_toArray, List.set_cons_zero, List.set_cons_succ]
  refine wpAnyW_take (i := 8) (v := ?_) (by simp only [List.getElem?_toArray, List.getElem?_cons_succ, List.getElem?_cons_zero]; rfl) (by kernel_rfl) (by kernel_rfl) (by kernel_rfl) (by kernel_rfl) (by kernel_rfl) (fun _ _ _ h => h) (Or.inl ⟨by rfl, ?_⟩) (by assumption) ?_
  rotate_left 1
  · (intro w' hSw; go_simp; try with_reducible rfl)
  try simp only [Act.put, List.setIfInBounds_toArray, List.set_cons_zero, List.set_cons_succ]
  refine wpAnyW_take (i := 9) (v := ?_) (by simp only [List.getElem?_toArray, List.getElem?_cons_succ, List.getElem?_cons_zero]; rfl) (by kernel_rfl) (by kernel_rfl) (by kernel_rfl) (by kernel_rfl) (by kernel_rfl) (fun _ _ _ h => h) (Or.inl ⟨by rfl, ?_⟩) (by assumption) ?_
  rotate_left 1
  · (intro w' hSw; go_simp; try with_reducible rfl)
  try simp only [Act.put, List.setIfInBounds_toArray, List.set_cons_zero, List.set_cons_succ]
  refine wpAnyW_take (i := 10) (v := ?_) (by simp only [List.getElem?_toArray, List.getElem?_cons_succ, List.getElem?_cons_zero]; rfl) (by kernel_rfl) (by kernel_rfl) (by kernel_rfl) (by kernel_rfl) (by kernel_rfl) (fun _ _ _ h => h) (Or.inl ⟨by rfl, ?_⟩) (by assumption) ?_
  rotate_left 1
  · (intro w' hSw; go_simp; try with_reducible rfl)
  try simp only [Act.put, List.setIfInBounds_toArray, List.set_cons_zero, List.set_cons_succ]
  refine wpAnyW_freed (i := 11) (by kernel_rfl) (by kernel_rfl) (by simp only [List.getElem?_toArray, List.getElem?_cons_succ, List.getElem?_cons_zero]; rfl) (fun K hK => ?_)
  rw [if_pos (by rfl)]
  go_simp
  have HE := Lib.hid hHeld.2.2.2
  refine hK.out _ _ ?_
  clear hK K hHeld
  try simp only [Act.put, List.setIfInBounds_toArray, List.set_cons_zero, List.set_cons_succ]
  refine wpAnyW_done (by kernel_rfl) ?_ _
  refine NoPanic.normal ?_
  go_wp2_with fail
  go_ret
  exact ⟨ret_bool HRES.out, HE.out⟩
/-- None of the first j. -/
def NoneP (f : Pc → Bool) (l : List Pc) (j : Nat) : Prop := ∀ i (h : i < l.length), i < j → f l[i] = false
def idxP (f : Pc → Bool) (l : List Pc) : Int := match findL f l with
  | some i => (i : Int)
  | none => -1
theorem idxP_hit {f : Pc → Bool} {l : List Pc} {j : Nat} (h : NoneP f l j) (hj : j < l.length) (hf : f l[j] = true) : findL f l = some j := by
  unfold findL
  rw [List.findIdx?_eq_some_iff_getElem]
  exact ⟨hj, hf, fun i hi => by simpa using h i (by omega) hi⟩
theorem idxP_none {f : Pc → Bool} {l : List Pc} (h : NoneP f l l.length) : findL f l = none := by
  unfold findL
  rw [List.findIdx?_eq_none_iff]
  intro x hx
  obtain ⟨i, hi, rfl⟩ := List.mem_iff_getElem.1 hx
  simpa using h i hi hi
set_option maxHeartbeats 1000000 in
theorem index_any (l : List Pc) (hl : l.length ≤ 1000) (r : List Pc) (hr : 0 < r.length) (hr2 : r.length ≤ 1000) (g : Nat) (V : Value) (v : Value) (w : World) (h : RowP w v l) (hg : Bx w g 29 #[V]) (hv : RowP w V r) :
    Calls Try.prog 37 #[v, .func (.func 32) #[] #[.pointer (some ⟨g, 0, none⟩)]] w fun e w' => e = .returned (.int .i64 (idxP (inRow r) l)) ∧ Below w.heap.size w w' := by
  have HR := Lib.hid h
  obtain ⟨A, cap, rfl, _, hmx, _⟩ := id h
  have HHT := Lib.hid (fun x W h h2 => hit_any x r hr hr2 g V W h h2)
  have HG := Lib.hid hg
  have HVV := Lib.hid hv
  clear h hg hv
  go_enter Try.func37, Try.ntmps37
  go_wp2_with fail
  go_loopw [8] (fun i wr => ∃ j : Nat, j ≤ l.length ∧ i = .int .i64 j ∧ Hid (NoneP (inRow r) l j) ∧ Hid (Below w.heap.size w wr))
    (fun i _ => l.length - (intOf i).toNat)
  case atStart => exact ⟨0, Nat.zero_le _, rfl, Lib.hid (fun i h h0 => absurd h0 (by omega)), Lib.hid (Below.refl _ _)⟩
  case round =>
    obtain ⟨j, hj, rfl, HN, HW⟩ := hrel
    by_cases hlt : j < l.length
    · obtain ⟨b, off, cap', e9, hb, hc1, hc2, hrg⟩ := HR.out.at hlt
      cases e9
      have HRG := Lib.hid (range_below hrg hb HW.out)
      have HXQ := Lib.hid (idxP_hit (f := inRow r) HN.out hlt)
      have HNX : Hid (inRow r l[j] = false → NoneP (inRow r) l (j + 1)) := Lib.hid (fun hf i hi hij => by
        by_cases e : i = j
        · subst e; exact hf
        · exact HN.out i hi (by omega))
      have q1 : (0 : Int) ≤ (j : Int) := by omega
      have q2 : (j : Int) < (l.length : Int) := by omega
      have q3 : (l.length : Int) ≤ 1000 := by omega
      clear hrg
      generalize l[j] = x at *
      cases hbo : inRow r x with
      | true =>
        have HBO := Lib.hid hbo
        have HE : Hid (idxP (inRow r) l = (j : Int)) := Lib.hid (by unfold idxP; rw [HXQ.out hbo])
        clear hbo HXQ HNX
        go_wp2_with (first
          | ((with_reducible refine gate9 ?_); refine ldPc (ty := 43) rfl rfl rfl HRG.out Try.underlying43 rfl infoP ?_)
          | (go_at_call 32; (with_reducible refine (HHT.out _ _ (HG.out.later HW.out) (HVV.out.below HW.out)).mono ?_); rintro e w1 ⟨rfl, hb5⟩; (try rw [HBO.out]); replace HW := Lib.hid (HW.out.trans (hb5.mono HW.out.size)); clear hb5))
        go_ret
        exact ⟨ret_i64 (by rw [HE.out]), HW.out⟩
      | false =>
        have HBO := Lib.hid hbo
        have HNN := Lib.hid (HNX.out hbo)
        clear hbo HXQ HNX
        go_wp2_with (first
          | ((with_reducible refine gate9 ?_); refine ldPc (ty := 43) rfl rfl rfl HRG.out Try.underlying43 rfl infoP ?_)
          | (go_at_call 32; (with_reducible refine (HHT.out _ _ (HG.out.later HW.out) (HVV.out.below HW.out)).mono ?_); rintro e w1 ⟨rfl, hb5⟩; (try rw [HBO.out]); replace HW := Lib.hid (HW.out.trans (hb5.mono HW.out.size)); clear hb5))
        go_roundw
        case rel => exact ⟨j + 1, by omega, by go_num, HNN, HW⟩
        case measure => simp [intOf]; omega
    · obtain rfl : j = l.length := by omega
      have HE : Hid (idxP (inRow r) l = -1) := Lib.hid (by unfold idxP; rw [idxP_none HN.out])
      go_wp2_with fail
      go_ret
      exact ⟨ret_i64 (by rw [HE.out]), HW.out⟩

/-! ### A whole piece is stored in a row -/
theorem putA_size : ∀ (vs : List Value) (cs : Array Value) (o : Nat), (putA cs o vs).size = cs.size
  | [], _, _ => rfl
  | v :: r, cs, o => by rw [putA, putA_size r]; simp
theorem putA_get : ∀ (vs : List Value) (cs : Array Value) (o j : Nat), o + vs.length ≤ cs.size → (putA cs o vs)[j]? = if o ≤ j ∧ j < o + vs.length then vs[j - o]? else cs[j]?
  | [], cs, o, j, _ => by
    rw [if_neg (by simp)]
    rfl
  | v :: r, cs, o, j, h => by
    rw [List.length_cons] at h
    rw [putA, putA_get r _ _ _ (by simp; omega), List.length_cons]
    by_cases e : j = o
    · subst e
      rw [if_neg (by omega), if_pos (by omega), Nat.sub_self, Array.getElem?_setIfInBounds_self_of_lt (by omega)]
      rfl
    · by_cases e2 : o ≤ j ∧ j < o + (r.length + 1)
      · rw [if_pos (by omega), if_pos e2, show j - o = (j - (o + 1)) + 1 by omega, List.getElem?_cons_succ]
      · rw [if_neg (by omega), if_neg e2, Array.getElem?_setIfInBounds_ne (by omega)]
section
variable {W : World} {g cap n : Nat} {T : TypeId} {l : List Pc}
theorem OwnS.room (h : OwnS W g T cap n l) : ∃ cur, Bx W g T cur ∧ n * 8 ≤ cur.size ∧ ∀ j, j < n * 8 → cur[j]? = (flatP l)[j]? := by
  obtain ⟨cur, hb, h0, h1, h2, h3⟩ := h
  refine ⟨cur, hb, ?_, h3⟩
  rcases Nat.eq_zero_or_pos n with rfl | hp
  · omega
  · have h9 := h3 (n * 8 - 1) (by omega)
    rw [List.getElem?_eq_getElem (by rw [flatP_length]; omega)] at h9
    have := (Array.getElem?_eq_some_iff.1 h9).1
    omega
theorem OwnS.there (h : OwnS W g T cap n l) {o k : Nat} (hk : o + k ≤ n * 8) : W.there g o k := fun j hj => by
  obtain ⟨cur, hb, hz, _⟩ := h.room
  refine ⟨?_, hb.free _⟩
  rw [hb.at, Array.getElem?_eq_getElem (by omega)]
  rfl
theorem OwnS.put (h : OwnS W g T cap n l) {i : Nat} (hi : i < n) (x : Pc) : OwnS (W.setCells g (i * 8) (cellsPc x).toList) g T cap n (l.set i x) := by
  obtain ⟨cur, hb, hz, hc⟩ := h.room
  have hl := h.len
  obtain ⟨_, _, _, h1, h2, _⟩ := h
  refine ⟨_, Bx.setCells (W := W) _ _ _ _ hb, by rw [List.length_set]; exact hl, h1, h2, fun j hj => ?_⟩
  rw [putA_get _ _ _ _ (by rw [lenPc]; omega), lenPc]
  have hj2 : j / 8 < l.length := by omega
  have hjm : j % 8 < 8 := Nat.mod_lt _ (by omega)
  have e1 : j = j / 8 * 8 + j % 8 := by omega
  have e2 : (flatP (l.set i x))[j]? = (cellsPc (l.set i x)[j / 8]!).toList[j % 8]? := by
    rw [getElem!_pos _ _ (by rw [List.length_set]; exact hj2), ← flatP_at _ _ _ (by rw [List.length_set]; exact hj2) hjm, ← e1]
  rw [e2, getElem!_pos _ _ (by rw [List.length_set]; exact hj2), List.getElem_set]
  by_cases e : i = j / 8
  · rw [if_pos (by omega), if_pos e, show j - i * 8 = j % 8 by omega]
  · rw [if_neg (by omega), if_neg e, hc j hj, ← flatP_at l _ _ hj2 hjm, ← e1]
end
section
variable {P : Program} {ops : Array Oper} {rest : List Oper} {op : Oper} {a : Act} {w : World} {Q : Exit → Act → World → Prop} {g cap n : Nat} {T : TypeId} {l : List Pc}
theorem stW {ty : TypeId} {x y : Operand} (i : Nat) (z : Pc) (hgd : op.guard = none) (ho : op.op = .store ty x y) (hx : a.eval x = .pointer (some ⟨g, i * 8, none⟩)) (hy : a.eval y = .agg (cellsPc z)) (h : OwnS w g T cap n l) (hi : i < n) (hz : (P.info? ty).map (·.size) = some 8)
    (hK : ∀ W', OwnS W' g T cap n (l.set i z) → w.grownBy W' (some g) → wpList P ops Q rest (a.put op.dst undef) W') : wpList P ops Q (op :: rest) a w :=
  wpList_plain hgd fun K hL => wp_store_mid ty x y ho g (i * 8) (cellsPc z) hx hy (h.there (by show i * 8 + 8 ≤ n * 8; omega)) hz (cellsPc_one z) (hL _ _ (hK _ (h.put hi z) (grown_cells g _ _ w)))
end
theorem zeroCells_len (zs : Array Value) (n : Nat) : (Builtin.zeroCells zs n).toList.length = n * zs.size := by simp [Builtin.zeroCells]
theorem zeroCells_one (zs : Array Value) (n : Nat) (h1 : zs.all (·.oneCell') = true) : ∀ u ∈ (Builtin.zeroCells zs n).toList, u.oneCell' = true := by
  intro u hu
  unfold Builtin.zeroCells at hu
  simp only [Array.toList_map, List.mem_map] at hu
  obtain ⟨i, hi, rfl⟩ := hu
  have hi2 : i < n * zs.size := by simpa using hi
  have hz : 0 < zs.size := by
    rcases Nat.eq_zero_or_pos zs.size with e | e
    · rw [e] at hi2; omega
    · exact e
  have hm := Nat.mod_lt i hz
  rw [getElem!_pos zs _ hm]
  exact (Array.all_eq_true_iff_forall_mem.1 h1) _ (Array.getElem_mem hm)
/-- clear of the end of a row of pieces. -/
theorem run_clear_own {w : World} {g cap n : Nat} {l : List Pc} (h : OwnS w g 43 cap n l) {i : Nat} (hi : i < n) (ty : TypeId) (c : Nat) :
    (Builtin.clear_ #[29] ty #[.slice (some ⟨g, i * 8, none⟩) (n - i) c]).run Try.prog w = .ok (.tuple #[]) (w.setCells g (i * 8) (Builtin.zeroCells (cellsPc zeroPc) (n - i)).toList) := by
  have hlen := zeroCells_len (cellsPc zeroPc) (n - i)
  have hl2 : (Builtin.zeroCells (cellsPc zeroPc) (n - i)).toList.length = (n - i) * 8 := hlen
  have hth := h.there (o := i * 8) (k := (n - i) * 8) (by omega)
  have hst := run_storeCells_cells (P := Try.prog) g (i * 8) (Builtin.zeroCells (cellsPc zeroPc) (n - i)).toList 0 w (fun j hj => (hth j (by rw [hl2] at hj; exact hj)).1) (fun j hj => (hth j (by rw [hl2] at hj; exact hj)).2) (zeroCells_one _ _ (cellsPc_one _))
  simp only [Nat.add_zero] at hst
  obtain ⟨m, hm⟩ : ∃ m, n - i = m + 1 := ⟨n - i - 1, by omega⟩
  rw [hm] at hst ⊢
  have hu : Try.prog.underlying 29 = _ := Try.underlying29
  have hz : ∀ w, (zeroValue 43).run Try.prog w = .ok (.agg (cellsPc zeroPc)) w := zeroP
  simp only [Builtin.clear_, Sem.run_bind, Sem.run_pure, run_underlying hu, hz, Value.cells, hst, Result.andThen_ok, List.getElem?_toArray, List.getElem?_cons_zero]
theorem filter_take1 {α : Type} (f : α → Bool) (l : List α) (j : Nat) (h : j < l.length) : (l.take (j + 1)).filter f = (l.take j).filter f ++ (if f l[j] then [l[j]] else []) := by
  rw [List.take_succ_eq_append_getElem h, List.filter_append]
  congr 1
  by_cases hf : f l[j] = true
  · rw [if_pos hf, List.filter_cons_of_pos hf]; rfl
  · rw [if_neg hf, List.filter_cons_of_neg hf]; rfl
/-- Where DeleteFunc's loop stands. -/
structure DelI (r l m : List Pc) (i j : Nat) : Prop where
  len : m.length = l.length
  lt : i < j
  le : j ≤ l.length
  hd : m.take i = (l.take j).filter fun x => !inRow r x
  tl : m.drop j = l.drop j
theorem DelI.start {r l : List Pc} {i : Nat} (hn : NoneP (inRow r) l i) (hi : i < l.length) (hx : inRow r l[i] = true) : DelI r l l i (i + 1) := by
  refine ⟨rfl, Nat.lt_succ_self _, hi, ?_, rfl⟩
  rw [filter_take1 _ l i hi, if_neg (by rw [hx]; decide), List.append_nil]
  symm
  rw [List.filter_eq_self]
  intro x hx
  obtain ⟨k, hk, rfl⟩ := List.getElem_of_mem hx
  rw [List.length_take] at hk
  rw [List.getElem_take, hn k (by omega) (by omega)]
  rfl
theorem DelI.at {r l m : List Pc} {i j : Nat} (h : DelI r l m i j) (hj : j < l.length) : m[j]'(by rw [h.len]; exact hj) = l[j] := by
  have := congrArg (fun z => z[0]?) h.tl
  simp only [List.getElem?_drop, Nat.add_zero] at this
  rw [List.getElem?_eq_getElem (by rw [h.len]; exact hj), List.getElem?_eq_getElem hj] at this
  exact Option.some.inj this
theorem DelI.gone {r l m : List Pc} {i j : Nat} (h : DelI r l m i j) (hj : j < l.length) (hx : inRow r l[j] = true) : DelI r l m i (j + 1) := by
  refine ⟨h.len, by have := h.lt; omega, hj, ?_, ?_⟩
  · rw [filter_take1 _ l j hj, if_neg (by rw [hx]; decide), List.append_nil]; exact h.hd
  · rw [← List.drop_drop (i := 1) (j := j), h.tl, List.drop_drop]
theorem DelI.kept {r l m : List Pc} {i j : Nat} (h : DelI r l m i j) (hj : j < l.length) (hx : inRow r l[j] = false) : DelI r l (m.set i l[j]) (i + 1) (j + 1) := by
  have h1 := h.len
  have h2 := h.lt
  refine ⟨by rw [List.length_set]; exact h1, by omega, hj, ?_, ?_⟩
  · rw [filter_take1 _ l j hj, if_pos (by rw [hx]; rfl), ← h.hd, List.take_succ_eq_append_getElem (by rw [List.length_set]; omega), List.getElem_set_self, List.take_set_of_le (Nat.le_refl _)]
  · rw [List.drop_set_of_lt (by omega), ← List.drop_drop (i := 1) (j := j), h.tl, List.drop_drop]
end Go.Proofs.Ytgngdgiipifacaa
