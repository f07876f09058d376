/-
  The document's Put: a message that is whole: contract.
-/
import Derived.Test.YtblepnbmjehikaaRd
namespace Go.Proofs.Ytblepnbmjehikaa
open Go.RowKit
set_option linter.unusedVariables false
set_option linter.unusedSimpArgs false
set_option maxRecDepth 100000

theorem wpLB {P : Program} {o : Oper} {a : Act} {w : World} {K : Act → World → Prop} {Q : Exit → Act → World → Prop} {ty T : TypeId} {x : Operand} {g : Nat} {cs : Array Value} {d : TypeDesc} (ho : o.op = .load ty x) (hx : a.eval x = .pointer (some ⟨g, 0, none⟩)) (h : Bx w g T cs)
    (hu : P.underlying ty = some d) (hd : (match d with | .struct _ | .array _ _ => true | _ => false) = true) (hi : (P.info? ty).map (·.size) = some cs.size)
    (hk : K (a.put o.dst (.agg cs)) w) : o.wp P a w K Q := wp_load_row ty x ho g hx T cs (0, 0) d h hu hd hi hk
def leftL (r l : List Pc) : List Pc := l.filter fun x => decide (idxP (isT x.ts) r < 0)
theorem left_eq {l r : List Pc} {p : Pc} (hl : ((l ++ [p]).map (·.ts)).Nodup) (hlen : (l ++ [p]).length ≤ 100000) (h : IsRow (l ++ [p]) r) (hp : p ∈ r) : leftL r (l ++ [p]) = keepL r l := by
  rw [← keep_put hl hlen h hp]
  unfold leftL keepL
  refine List.filter_congr fun x hx => ?_
  cases hf : findT r x.ts with
  | none =>
    rw [idx_none hf]
    cases hi : inRow r x with
    | false => rfl
    | true => exact absurd rfl (find_none.1 hf x ((inRow_iff hl hlen h hx).1 hi))
  | some y =>
    obtain ⟨i, hi, hix, -⟩ := idx_some hf
    obtain ⟨h1, h2⟩ := find_mem hf
    have e := same_ts hl (h.mem y h1) hx h2
    rw [hix, (inRow_iff hl hlen h hx).2 (e ▸ h1)]
    simp
theorem left_yes {r l : List Pc} {j : Nat} (h : j < l.length) (hf : findT r l[j].ts = none) : leftL r (l.take (j + 1)) = leftL r (l.take j) ++ [l[j]] := by
  unfold leftL
  rw [List.take_succ_eq_append_getElem h, List.filter_append]
  simp [idx_none hf]
theorem left_no {r l : List Pc} {j : Nat} {y : Pc} (h : j < l.length) (hf : findT r l[j].ts = some y) : leftL r (l.take (j + 1)) = leftL r (l.take j) := by
  obtain ⟨i, hi, hix, -⟩ := idx_some hf
  unfold leftL
  rw [List.take_succ_eq_append_getElem h, List.filter_append]
  simp [hix]
theorem left_len (r l : List Pc) (j : Nat) : (leftL r (l.take j)).length ≤ j := by
  unfold leftL
  exact Nat.le_trans (List.length_filter_le _ _) (by rw [List.length_take]; omega)
theorem joinB_snoc (r : List Pc) (j : Nat) (h : j < r.length) : joinB (r.take (j + 1)) = joinB (r.take j) ++ r[j].tx := by
  apply ByteArray.ext
  rw [ByteArray.data_append]
  unfold joinB
  rw [List.take_succ_eq_append_getElem h, List.flatMap_append]
  simp
set_option maxHeartbeats 16000000 in
theorem rput_done (l : List Pc) (hl : l.length < 999) (hok : OkB l) (p : Pc) (hf : findT l p.ts = none) (hp : 0 < p.tx.size) (r : List Pc) (hrc : rowC (l ++ [p]) p = some r) (hz : bytesL r ≤ 1000000000) (v : Value) (w : World) (h : RowP w v l) :
    Calls Try.prog 15 #[.agg #[v], .agg (cellsPc p)] w fun e w' => RPutR w w' v l e (keepL r l) (some (joinM r)) := by
  have hte : p.tx.toList.isEmpty = false := empty_no hp
  have HFN := Lib.hid (find_ix (idx_none hf))
  have hok2 := okB_put hok hf hp
  have hl2 : (l ++ [p]).length ≤ 1000 := by rw [List.length_append, List.length_singleton]; omega
  have hpm : p ∈ l ++ [p] := by simp
  obtain ⟨hir, hpr⟩ := row_sound hok2.nd hpm hrc
  have hr0 := hir.ne
  have hr1 : r.length ≤ 1000 := Nat.le_trans ((Seg.of_row hir).le hok2.nd) hl2
  have HRW := Lib.hid (fun V W h => rrow_any (l ++ [p]) hl2 hok2.nd p hpm V W h)
  have HRC : Hid ((rowC (l ++ [p]) p).getD [] = r) := Lib.hid (by rw [hrc]; rfl)
  have HLN : Hid ((l ++ [p]).length = l.length + 1) := Lib.hid (by rw [List.length_append, List.length_singleton])
  have HLE := Lib.hid (left_eq hok2.nd (by omega) hir hpr)
  have HLF : Hid (leftL r ((l ++ [p]).take (l ++ [p]).length) = leftL r (l ++ [p])) := Lib.hid (by rw [List.take_length])
  have HJN := Lib.hid (joinB_snoc r)
  have HJF : Hid (joinB (r.take r.length) = joinB r) := Lib.hid (by rw [List.take_length])
  have HJS := Lib.hid (fun j (h : j < r.length) => bytes_take r j h)
  have HJZ := Lib.hid (fun j => join_size (r.take j))
  have qr : (0 : Int) < (r.length : Int) := by omega
  have qr2 : ((r.length : Int) == 0) = false := by rw [beq_eq_false_iff_ne]; omega
  have qr3 : r.length ≠ 0 := by omega
  have hrI : (r.length : Int) ≤ 1000 := by omega
  obtain ⟨i0, hi0, hz0, hz1, hz2⟩ := info_parts infoRPZ
  have HI := Lib.hid hi0
  have HZ0 := Lib.hid hz0
  have HZ1 := Lib.hid hz1
  have HZ2 := Lib.hid hz2
  obtain ⟨W1, hW1, HA, HP, HB1, hs1⟩ := two_open w 35 47 #[v] (cellsPc p)
  obtain ⟨W, hW, HZ4, HZ5, HB2, hs2⟩ := two_open W1 35 44 #[.slice none 0 0] #[.int .u32 0, .bool false, .int .u16 0, .int .u16 0, .int .u32 0, .string ⟨#[]⟩]
  replace HA := Lib.hid (HA.out.later HB2.out)
  replace HP := Lib.hid (HP.out.later HB2.out)
  have HV := Lib.hid h
  have HB := Lib.hid (HB1.out.trans (HB2.out.mono HB1.out.size))
  obtain ⟨A, cap, rfl, hcap, hmx, _⟩ := id h
  have hmxI : (cap : Int) ≤ 9223372036854775807 := by unfold maxLen at hmx; omega
  have HVW := Lib.hid (HV.out.below HB.out)
  have c0 := HP.out.cell 0 (.int .u32 (p.ts.toNat : Int)) rfl
  have c7 := HP.out.cell 7 (.string p.tx) rfl
  have a0 := HA.out.cell 0 (.slice A l.length cap) rfl
  have hsW1 : w.heap.size + 2 ≤ W1.heap.size := Nat.le_of_eq hs1.symm
  have hsW : W1.heap.size + 2 ≤ W.heap.size := Nat.le_of_eq hs2.symm
  clear hs1 hs2 HB1 HB2 h
  obtain ⟨W3, hW3⟩ : ∃ X, W.alloc (.cells #[] 47) = X := ⟨_, rfl⟩
  have HO3 : Hid (OwnG W3 W.heap.size 47 8 (.slice (some ⟨W.heap.size, 0, none⟩) 0 0) 0 []) := Lib.hid (by rw [← hW3]; exact OwnG.full (Nat.le_refl _) 47 8 [] 0 (by decide) rfl)
  have HB3 : Hid (Below W.heap.size W W3) := Lib.hid (by rw [← hW3]; exact below_one _ _)
  have HA3 := Lib.hid (HA.out.later HB3.out)
  have HP3 := Lib.hid (HP.out.later HB3.out)
  have HV3 := Lib.hid (HVW.out.below HB3.out)
  have HWs : Hid (W.heap.size ≤ W3.heap.size) := Lib.hid HB3.out.size
  have b0 := HA3.out.cell 0 (.slice A l.length cap) rfl
  have hs4 := HZ4.out.lt
  have hs5 := HZ5.out.lt
  have hl3 : (l.length : Int) ≤ 1000 := by omega
  clear hp hok2 hpm hrc hi0 hz0 hz1 hz2 hl2 hir hpr
  go_enter Try.func15, Try.ntmps15
  go_wp2_with (first
    | (go_at_call 29; (with_reducible refine (HFN.out _ _ HVW.out).mono ?_); rintro e w6 ⟨rfl, h6⟩; obtain rfl := h6.symm; clear h6)
    | (at_builtin; refine wpList_append_fed _ rfl (.tmp 26) (.tmp 28) 33 33 rfl W.heap.size 47 i0 _ 8 32 Try.underlying33 (.inr ⟨_, Try.underlying33⟩) HI.out HZ0.out HZ1.out HZ2.out rfl _ _ _ rfl (HO3.out) _ l.length (flatP l) rfl (RowP.fed HV3.out) (by unfold maxLen; omega) (by omega) (HWs.out) ?_; intro v7 w7 hown hgr; rw [Nat.zero_add, List.nil_append] at hown; have hbb : Below W.heap.size W w7 := HB3.out.grown hgr HWs.out (fun z hz => (HO3.out.lt z hz).1); obtain ⟨A7, k7, rfl, -, -, -⟩ := id hown.slice; have HO7 := Lib.hid hown; have HP7 := Lib.hid (HP.out.later hbb); have HB7 := Lib.hid hbb; clear hown hgr hbb b0 a0)
    | (first | ((with_reducible refine gate9 ?_); refine ldB (ty := 47) (cs := #[.int .u32 (p.ts.toNat : Int), .bool p.bg, .bool p.en, .bool p.fr, .int .u16 (p.st.toNat : Int), .int .u16 (p.ss.toNat : Int), .int .u32 (p.pp.toNat : Int), .string p.tx]) rfl rfl rfl HP7.out Try.underlying47 rfl infoRP ?_) | ((with_reducible refine gate9 ?_); refine ldB (ty := 47) (cs := #[.int .u32 (p.ts.toNat : Int), .bool p.bg, .bool p.en, .bool p.fr, .int .u16 (p.st.toNat : Int), .int .u16 (p.ss.toNat : Int), .int .u32 (p.pp.toNat : Int), .string p.tx]) rfl rfl rfl HP.out Try.underlying47 rfl infoRP ?_))
    | (at_builtin; refine wpList_append_fed _ rfl (.tmp 30) (.tmp 32) 33 33 rfl W.heap.size 47 i0 _ 8 32 Try.underlying33 (.inr ⟨_, Try.underlying33⟩) HI.out HZ0.out HZ1.out HZ2.out rfl _ _ _ rfl (HO7.out.alloc _) _ 1 (cellsPc p).toList rfl (Fed.block (heap_alloc_new _ _) rfl (fun u hu => cells_one hu)) (by unfold maxLen; omega) (by omega) (by rw [World.size_alloc]; have := HB7.out.size; omega) ?_; intro v8 w8 hown hgr; rw [← flatP_add] at hown; have hbb : Below W.heap.size W w8 := below_own HB7.out HB7.out.size HO7.out (Nat.le_refl _) hgr; obtain ⟨A8, k8, rfl, -, -, -⟩ := id hown.slice; have HR8 : Hid (RowP w8 (.slice A8 (l.length + 1) k8) (l ++ [p])) := Lib.hid (rowP_of_ownG hown); have HF8 := Lib.hid (fresh_ownG hown); replace HP := Lib.hid (HP.out.later hbb); replace HZ4 := Lib.hid (HZ4.out.later hbb); replace HZ5 := Lib.hid (HZ5.out.later hbb); replace HB := Lib.hid (HB.out.trans (hbb.mono HB.out.size)); clear hown hgr hbb)
    | (go_at_call 30; refine (HRW.out _ _ HR8.out).mono ?_; rintro e w9 ⟨A9, k9, rfl, hr9, hb⟩; rw [HRC.out] at hr9 ⊢; have HR9 := Lib.hid hr9; replace HR8 := Lib.hid (HR8.out.below hb); replace HZ4 := Lib.hid (HZ4.out.later hb); replace HZ5 := Lib.hid (HZ5.out.later hb); replace HB := Lib.hid (HB.out.trans (hb.mono HB.out.size)); clear hb hr9))
  have HJM : Hid (joinM r = ⟨(r[0]'hr0).ts, (r[0]'hr0).fr, (r[0]'hr0).st, (r[0]'hr0).ss, (r[0]'hr0).pp, joinB r⟩) := Lib.hid (by unfold joinM; rw [getElem!_pos r 0 hr0])
  obtain ⟨b9, o9, c9, e9, hbW, -, -, hrg⟩ := HR9.out.at hr0
  cases e9
  rw [Nat.zero_mul, Nat.add_zero] at hrg
  have HRG := Lib.hid hrg
  have hsz5 := HZ5.out.lt
  generalize r[0] = x at *
  clear hrg hW1 hW hW3
  have HRN : Hid (joinB (r.take 0) = ⟨#[]⟩) := Lib.hid rfl
  have HS : (fun V => Below w9.heap.size w9 V) w9.drew := below_drawn (Below.refl _ _)
  obtain ⟨v1, hv1, HX, HBv, hsv⟩ := one_open w9.drew 44 #[.int .u32 0, .bool false, .int .u16 0, .int .u16 0, .int .u32 0, .string ⟨#[]⟩]
  obtain ⟨g9, hg9⟩ : ∃ g, w9.drew.heap.size = g := ⟨_, rfl⟩
  rw [hg9] at HX hsv
  have hgz : w9.heap.size ≤ g9 := Nat.le_of_eq hg9
  refine wp_region_noPanic ?_
  refine wp_region_waits (S := (fun V => Below w9.heap.size w9 V)) [22] (by kernel_rfl) HS (fun hHeld => ?_)
  clear HS
  refine wpAnyW_take (i := 0) (v := ?_) (by simp only [List.getElem?_toArray, List.getElem?_cons_zero]; rfl) (by kernel_rfl) (by kernel_rfl) (by kernel_rfl) (by kernel_rfl) (by kernel_rfl) (fun _ _ _ h => h) (Or.inl ⟨by rfl, ?_⟩) (by assumption) ?_
  rotate_left 1
  · (intro w' hSw; go_simp; try with_reducible rfl)
  try simp only [Act.put, List.setIfInBounds_toArray, List.set_cons_zero, List.set_cons_succ]
  refine wpAnyW_take (i := 1) (v := ?_) (by simp only [List.getElem?_toArray, List.getElem?_cons_succ, List.getElem?_cons_zero]; rfl) (by kernel_rfl) (by kernel_rfl) (by kernel_rfl) (by kernel_rfl) (by kernel_rfl) (fun _ _ _ h => h) (Or.inl ⟨by rfl, ?_⟩) (by assumption) ?_
  rotate_left 1
  · (intro w' hSw; go_simp; try with_reducible rfl)
  try simp only [Act.put, List.setIfInBounds_toArray, List.set_cons_zero, List.set_cons_succ]
  refine wpAnyW_take (i := 2) (v := ?_) (by simp only [List.getElem?_toArray, List.getElem?_cons_succ, List.getElem?_cons_zero]; rfl) (by kernel_rfl) (by kernel_rfl) (by kernel_rfl) (by kernel_rfl) (by kernel_rfl) (fun _ _ _ h => h) (Or.inl ⟨by rfl, ?_⟩) (by assumption) ?_
  rotate_left 1
  · (intro w' hSw; go_simp; try with_reducible rfl)
  try simp only [Act.put, List.setIfInBounds_toArray, List.set_cons_zero, List.set_cons_succ]
  refine wpAnyW_take (i := 3) (v := ?_) (by simp only [List.getElem?_toArray, List.getElem?_cons_succ, List.getElem?_cons_zero]; rfl) (by kernel_rfl) (by kernel_rfl) (by kernel_rfl) (by kernel_rfl) (by kernel_rfl) (fun _ _ _ h => h) (Or.inl ⟨by rfl, ?_⟩) (by assumption) ?_
  rotate_left 1
  · (intro w' hSw; have hq := (range_below HRG.out hbW hSw) 0 (.int .u32 (x.ts.toNat : Int)) rfl; rw [Nat.add_zero] at hq; go_simp; try with_reducible rfl)
  try simp only [Act.put, List.setIfInBounds_toArray, List.set_cons_zero, List.set_cons_succ]
  refine wpAnyW_take (i := 4) (v := ?_) (by simp only [List.getElem?_toArray, List.getElem?_cons_succ, List.getElem?_cons_zero]; rfl) (by kernel_rfl) (by kernel_rfl) (by kernel_rfl) (by kernel_rfl) (by kernel_rfl) (fun _ _ _ h => h) (Or.inl ⟨by rfl, ?_⟩) (by assumption) ?_
  rotate_left 1
  · (intro w' hSw; go_simp; try with_reducible rfl)
  try simp only [Act.put, List.setIfInBounds_toArray, List.set_cons_zero, List.set_cons_succ]
  refine wpAnyW_take (i := 5) (v := ?_) (by simp only [List.getElem?_toArray, List.getElem?_cons_succ, List.getElem?_cons_zero]; rfl) (by kernel_rfl) (by kernel_rfl) (by kernel_rfl) (by kernel_rfl) (by kernel_rfl) (fun _ _ _ h => h) (Or.inl ⟨by rfl, ?_⟩) (by assumption) ?_
  rotate_left 1
  · (intro w' hSw; go_simp; try with_reducible rfl)
  try simp only [Act.put, List.setIfInBounds_toArray, List.set_cons_zero, List.set_cons_succ]
  refine wpAnyW_take (i := 6) (v := ?_) (by simp only [List.getElem?_toArray, List.getElem?_cons_succ, List.getElem?_cons_zero]; rfl) (by kernel_rfl) (by kernel_rfl) (by kernel_rfl) (by kernel_rfl) (by kernel_rfl) (fun _ _ _ h => h) (Or.inl ⟨by rfl, ?_⟩) (by assumption) ?_
  rotate_left 1
  · (intro w' hSw; go_simp; try with_reducible rfl)
  try simp only [Act.put, List.setIfInBounds_toArray, List.set_cons_zero, List.set_cons_succ]
  refine wpAnyW_take (i := 7) (v := ?_) (by simp only [List.getElem?_toArray, List.getElem?_cons_succ, List.getElem?_cons_zero]; rfl) (by kernel_rfl) (by kernel_rfl) (by kernel_rfl) (by kernel_rfl) (by kernel_rfl) (fun _ _ _ h => h) (Or.inl ⟨by rfl, ?_⟩) (by assumption) ?_
  rotate_left 1
  · (intro w' hSw; have hq := (range_below HRG.out hbW hSw) 3 (.bool x.fr) rfl; go_simp; try with_reducible rfl)
  try simp only [Act.put, List.setIfInBounds_toArray, List.set_cons_zero, List.set_cons_succ]
  refine wpAnyW_take (i := 8) (v := ?_) (by simp only [List.getElem?_toArray, List.getElem?_cons_succ, List.getElem?_cons_zero]; rfl) (by kernel_rfl) (by kernel_rfl) (by kernel_rfl) (by kernel_rfl) (by kernel_rfl) (fun _ _ _ h => h) (Or.inl ⟨by rfl, ?_⟩) (by assumption) ?_
  rotate_left 1
  · (intro w' hSw; go_simp; try with_reducible rfl)
  try simp only [Act.put, List.setIfInBounds_toArray, List.set_cons_zero, List.set_cons_succ]
  refine wpAnyW_take (i := 9) (v := ?_) (by simp only [List.getElem?_toArray, List.getElem?_cons_succ, List.getElem?_cons_zero]; rfl) (by kernel_rfl) (by kernel_rfl) (by kernel_rfl) (by kernel_rfl) (by kernel_rfl) (fun _ _ _ h => h) (Or.inl ⟨by rfl, ?_⟩) (by assumption) ?_
  rotate_left 1
  · (intro w' hSw; go_simp; try with_reducible rfl)
  try simp only [Act.put, List.setIfInBounds_toArray, List.set_cons_zero, List.set_cons_succ]
  refine wpAnyW_take (i := 10) (v := ?_) (by simp only [List.getElem?_toArray, List.getElem?_cons_succ, List.getElem?_cons_zero]; rfl) (by kernel_rfl) (by kernel_rfl) (by kernel_rfl) (by kernel_rfl) (by kernel_rfl) (fun _ _ _ h => h) (Or.inl ⟨by rfl, ?_⟩) (by assumption) ?_
  rotate_left 1
  · (intro w' hSw; go_simp; try with_reducible rfl)
  try simp only [Act.put, List.setIfInBounds_toArray, List.set_cons_zero, List.set_cons_succ]
  refine wpAnyW_take (i := 11) (v := ?_) (by simp only [List.getElem?_toArray, List.getElem?_cons_succ, List.getElem?_cons_zero]; rfl) (by kernel_rfl) (by kernel_rfl) (by kernel_rfl) (by kernel_rfl) (by kernel_rfl) (fun _ _ _ h => h) (Or.inl ⟨by rfl, ?_⟩) (by assumption) ?_
  rotate_left 1
  · (intro w' hSw; have hq := (range_below HRG.out hbW hSw) 4 (.int .u16 (x.st.toNat : Int)) rfl; go_simp; try with_reducible rfl)
  try simp only [Act.put, List.setIfInBounds_toArray, List.set_cons_zero, List.set_cons_succ]
  refine wpAnyW_take (i := 12) (v := ?_) (by simp only [List.getElem?_toArray, List.getElem?_cons_succ, List.getElem?_cons_zero]; rfl) (by kernel_rfl) (by kernel_rfl) (by kernel_rfl) (by kernel_rfl) (by kernel_rfl) (fun _ _ _ h => h) (Or.inl ⟨by rfl, ?_⟩) (by assumption) ?_
  rotate_left 1
  · (intro w' hSw; go_simp; try with_reducible rfl)
  try simp only [Act.put, List.setIfInBounds_toArray, List.set_cons_zero, List.set_cons_succ]
  refine wpAnyW_take (i := 13) (v := ?_) (by simp only [List.getElem?_toArray, List.getElem?_cons_succ, List.getElem?_cons_zero]; rfl) (by kernel_rfl) (by kernel_rfl) (by kernel_rfl) (by kernel_rfl) (by kernel_rfl) (fun _ _ _ h => h) (Or.inl ⟨by rfl, ?_⟩) (by assumption) ?_
  rotate_left 1
  · (intro w' hSw; go_simp; try with_reducible rfl)
  try simp only [Act.put, List.setIfInBounds_toArray, List.set_cons_zero, List.set_cons_succ]
  refine wpAnyW_take (i := 14) (v := ?_) (by simp only [List.getElem?_toArray, List.getElem?_cons_succ, List.getElem?_cons_zero]; rfl) (by kernel_rfl) (by kernel_rfl) (by kernel_rfl) (by kernel_rfl) (by kernel_rfl) (fun _ _ _ h => h) (Or.inl ⟨by rfl, ?_⟩) (by assumption) ?_
  rotate_left 1
  · (intro w' hSw; go_simp; try with_reducible rfl)
  try simp only [Act.put, List.setIfInBounds_toArray, List.set_cons_zero, List.set_cons_succ]
  refine wpAnyW_take (i := 15) (v := ?_) (by simp only [List.getElem?_toArray, List.getElem?_cons_succ, List.getElem?_cons_zero]; rfl) (by kernel_rfl) (by kernel_rfl) (by kernel_rfl) (by kernel_rfl) (by kernel_rfl) (fun _ _ _ h => h) (Or.inl ⟨by rfl, ?_⟩) (by assumption) ?_
  rotate_left 1
  · (intro w' hSw; have hq := (range_below HRG.out hbW hSw) 5 (.int .u16 (x.ss.toNat : Int)) rfl; go_simp; try with_reducible rfl)
  try simp only [Act.put, List.setIfInBounds_toArray, List.set_cons_zero, List.set_cons_succ]
  refine wpAnyW_take (i := 16) (v := ?_) (by simp only [List.getElem?_toArray, List.getElem?_cons_succ, List.getElem?_cons_zero]; rfl) (by kernel_rfl) (by kernel_rfl) (by kernel_rfl) (by kernel_rfl) (by kernel_rfl) (fun _ _ _ h => h) (Or.inl ⟨by rfl, ?_⟩) (by assumption) ?_
  rotate_left 1
  · (intro w' hSw; go_simp; try with_reducible rfl)
  try simp only [Act.put, List.setIfInBounds_toArray, List.set_cons_zero, List.set_cons_succ]
  refine wpAnyW_take (i := 17) (v := ?_) (by simp only [List.getElem?_toArray, List.getElem?_cons_succ, List.getElem?_cons_zero]; rfl) (by kernel_rfl) (by kernel_rfl) (by kernel_rfl) (by kernel_rfl) (by kernel_rfl) (fun _ _ _ h => h) (Or.inl ⟨by rfl, ?_⟩) (by assumption) ?_
  rotate_left 1
  · (intro w' hSw; go_simp; try with_reducible rfl)
  try simp only [Act.put, List.setIfInBounds_toArray, List.set_cons_zero, List.set_cons_succ]
  refine wpAnyW_take (i := 18) (v := ?_) (by simp only [List.getElem?_toArray, List.getElem?_cons_succ, List.getElem?_cons_zero]; rfl) (by kernel_rfl) (by kernel_rfl) (by kernel_rfl) (by kernel_rfl) (by kernel_rfl) (fun _ _ _ h => h) (Or.inl ⟨by rfl, ?_⟩) (by assumption) ?_
  rotate_left 1
  · (intro w' hSw; go_simp; try with_reducible rfl)
  try simp only [Act.put, List.setIfInBounds_toArray, List.set_cons_zero, List.set_cons_succ]
  refine wpAnyW_take (i := 19) (v := ?_) (by simp only [List.getElem?_toArray, List.getElem?_cons_succ, List.getElem?_cons_zero]; rfl) (by kernel_rfl) (by kernel_rfl) (by kernel_rfl) (by kernel_rfl) (by kernel_rfl) (fun _ _ _ h => h) (Or.inl ⟨by rfl, ?_⟩) (by assumption) ?_
  rotate_left 1
  · (intro w' hSw; have hq := (range_below HRG.out hbW hSw) 6 (.int .u32 (x.pp.toNat : Int)) rfl; go_simp; try with_reducible rfl)
  try simp only [Act.put, List.setIfInBounds_toArray, List.set_cons_zero, List.set_cons_succ]
  refine wpAnyW_take (i := 20) (v := ?_) (by simp only [List.getElem?_toArray, List.getElem?_cons_succ, List.getElem?_cons_zero]; rfl) (by kernel_rfl) (by kernel_rfl) (by kernel_rfl) (by kernel_rfl) (by kernel_rfl) (fun _ _ _ h => h) (Or.inl ⟨by rfl, ?_⟩) (by assumption) ?_
  rotate_left 1
  · (intro w' hSw; go_simp; try with_reducible rfl)
  try simp only [Act.put, List.setIfInBounds_toArray, List.set_cons_zero, List.set_cons_succ]
  refine wpAnyW_held (i := 21) (by kernel_rfl) (by simp only [List.getElem?_toArray, List.getElem?_cons_succ, List.getElem?_cons_zero]; rfl) (fun K hK => ?_)
  rw [if_pos (by rfl)]
  have HS : (fun V => Below w9.heap.size w9 V) _ := hHeld.trans (HBv.out.mono hHeld.size)
  clear hHeld
  go_simp
  refine hK.out _ _ HS (fun hHeld => ?_)
  clear hK K HS
  try simp only [Act.put, List.setIfInBounds_toArray, List.set_cons_zero, List.set_cons_succ]
  refine wpAnyW_freed (i := 22) (by kernel_rfl) (by kernel_rfl) (by simp only [List.getElem?_toArray, List.getElem?_cons_succ, List.getElem?_cons_zero]; rfl) (fun K hK => ?_)
  rw [if_pos (by rfl)]
  refine wpB (ty := 44) (cellsMg ⟨x.ts, x.fr, x.st, x.ss, x.pp, ⟨#[]⟩⟩) rfl rfl rfl HX.out infoRM rfl (cellsMg_one _) ?_
  intro y1 ht hg
  have hbb : Below w9.heap.size w9 y1 := below_of_grown1 hHeld hg hHeld.size hgz
  have HM9 : Hid (Bx y1 g9 44 (cellsMg ⟨x.ts, x.fr, x.st, x.ss, x.pp, ⟨#[]⟩⟩)) := Lib.hid ht
  have HBB := Lib.hid hbb
  have hs9 := HM9.out.lt
  have hz4 : W1.heap.size + 1 < w9.heap.size := hsz5
  clear ht hg
  refine hK.out _ _ ?_
  clear hK K hHeld
  try simp only [Act.put, List.setIfInBounds_toArray, List.set_cons_zero, List.set_cons_succ]
  refine wpAnyW_done (by kernel_rfl) ?_ _
  refine NoPanic.normal ?_
  clear hv1 hg9 hsv HX HBv hbb
  go_wp2_with fail
  go_loopw [10] (fun v10 wr => ∃ j : Nat, j ≤ r.length ∧ v10 = .int .i64 j ∧ Hid (Bx wr g9 44 (cellsMg ⟨x.ts, x.fr, x.st, x.ss, x.pp, joinB (r.take j)⟩)) ∧ Hid (Below g9 y1 wr))
    (fun v10 _ => r.length - (intOf v10).toNat)
  case atStart => exact ⟨0, Nat.zero_le _, rfl, by rw [HRN.out]; exact HM9, Lib.hid (Below.refl _ _)⟩
  case round =>
    clear HM9
    obtain ⟨j, hj, rfl, HM, HW⟩ := hrel
    by_cases hlt : j < r.length
    · obtain ⟨by1, oy, cy, ey, hby0, -, -, hry⟩ := HR9.out.at hlt
      cases ey
      have hby : b9 < g9 := by omega
      have HRY := Lib.hid (range_below hry hby0 HBB.out)
      have HN := Lib.hid (HJN.out j hlt)
      have hbt := HJS.out j hlt
      have hjz := HJZ.out j
      have q1 : (0 : Int) ≤ (j : Int) := by omega
      have q2 : (j : Int) < (r.length : Int) := by omega
      clear hry hby0
      generalize r[j] = y at *
      obtain ⟨u, hu⟩ : ∃ u, joinB (r.take j) = u := ⟨_, rfl⟩
      rw [hu] at HN hjz HM
      have q4 : ¬ (9223372036854775807 : Int) < (u.size : Int) + (y.tx.size : Int) := by omega
      have q5 : ¬ 9223372036854775807 < u.size + y.tx.size := by omega
      clear hu hbt hjz
      go_wp2_with fail
      have HS : (fun V => Bx V g9 44 (cellsMg ⟨x.ts, x.fr, x.st, x.ss, x.pp, u⟩) ∧ Below g9 y1 V) wr.drew := ⟨HM.out.drew, below_drawn HW.out⟩
      refine wp_region_noPanic ?_
      refine wp_region_waits (S := (fun V => Bx V g9 44 (cellsMg ⟨x.ts, x.fr, x.st, x.ss, x.pp, u⟩) ∧ Below g9 y1 V)) [9] (by kernel_rfl) HS (fun hHeld => ?_)
      clear HS
      refine wpAnyW_take (i := 0) (v := ?_) (by simp only [List.getElem?_toArray, List.getElem?_cons_zero]; rfl) (by kernel_rfl) (by kernel_rfl) (by kernel_rfl) (by kernel_rfl) (by kernel_rfl) (fun _ _ _ h => h) (Or.inl ⟨by rfl, ?_⟩) (by assumption) ?_
      rotate_left 1
      · (intro w' hSw; go_simp; try with_reducible rfl)
      try simp only [Act.put, List.setIfInBounds_toArray, List.set_cons_zero, List.set_cons_succ]
      refine wpAnyW_take (i := 1) (v := ?_) (by simp only [List.getElem?_toArray, List.getElem?_cons_succ, List.getElem?_cons_zero]; rfl) (by kernel_rfl) (by kernel_rfl) (by kernel_rfl) (by kernel_rfl) (by kernel_rfl) (fun _ _ _ h => h) (Or.inl ⟨by rfl, ?_⟩) (by assumption) ?_
      rotate_left 1
      · (intro w' hSw; have hq := hSw.1.cell 5 (.string u) rfl; go_simp; try with_reducible rfl)
      try simp only [Act.put, List.setIfInBounds_toArray, List.set_cons_zero, List.set_cons_succ]
      refine wpAnyW_take (i := 2) (v := ?_) (by simp only [List.getElem?_toArray, List.getElem?_cons_succ, List.getElem?_cons_zero]; rfl) (by kernel_rfl) (by kernel_rfl) (by kernel_rfl) (by kernel_rfl) (by kernel_rfl) (fun _ _ _ h => h) (Or.inl ⟨by rfl, ?_⟩) (by assumption) ?_
      rotate_left 1
      · (intro w' hSw; go_simp; try with_reducible rfl)
      try simp only [Act.put, List.setIfInBounds_toArray, List.set_cons_zero, List.set_cons_succ]
      refine wpAnyW_take (i := 3) (v := ?_) (by simp only [List.getElem?_toArray, List.getElem?_cons_succ, List.getElem?_cons_zero]; rfl) (by kernel_rfl) (by kernel_rfl) (by kernel_rfl) (by kernel_rfl) (by kernel_rfl) (fun _ _ _ h => h) (Or.inl ⟨by rfl, ?_⟩) (by assumption) ?_
      rotate_left 1
      · (intro w' hSw; go_simp; try with_reducible rfl)
      try simp only [Act.put, List.setIfInBounds_toArray, List.set_cons_zero, List.set_cons_succ]
      refine wpAnyW_take (i := 4) (v := ?_) (by simp only [List.getElem?_toArray, List.getElem?_cons_succ, List.getElem?_cons_zero]; rfl) (by kernel_rfl) (by kernel_rfl) (by kernel_rfl) (by kernel_rfl) (by kernel_rfl) (fun _ _ _ h => h) (Or.inl ⟨by rfl, ?_⟩) (by assumption) ?_
      rotate_left 1
      · (intro w' hSw; go_simp; try with_reducible rfl)
      try simp only [Act.put, List.setIfInBounds_toArray, List.set_cons_zero, List.set_cons_succ]
      refine wpAnyW_take (i := 5) (v := ?_) (by simp only [List.getElem?_toArray, List.getElem?_cons_succ, List.getElem?_cons_zero]; rfl) (by kernel_rfl) (by kernel_rfl) (by kernel_rfl) (by kernel_rfl) (by kernel_rfl) (fun _ _ _ h => h) (Or.inl ⟨by rfl, ?_⟩) (by assumption) ?_
      rotate_left 1
      · (intro w' hSw; go_simp; try with_reducible rfl)
      try simp only [Act.put, List.setIfInBounds_toArray, List.set_cons_zero, List.set_cons_succ]
      refine wpAnyW_take (i := 6) (v := ?_) (by simp only [List.getElem?_toArray, List.getElem?_cons_succ, List.getElem?_cons_zero]; rfl) (by kernel_rfl) (by kernel_rfl) (by kernel_rfl) (by kernel_rfl) (by kernel_rfl) (fun _ _ _ h => h) (Or.inl ⟨by rfl, ?_⟩) (by assumption) ?_
      rotate_left 1
      · (intro w' hSw; have hq := (range_below HRY.out hby hSw.2) 7 (.string y.tx) rfl; go_simp; try with_reducible rfl)
      try simp only [Act.put, List.setIfInBounds_toArray, List.set_cons_zero, List.set_cons_succ]
      refine wpAnyW_take (i := 7) (v := ?_) (by simp only [List.getElem?_toArray, List.getElem?_cons_succ, List.getElem?_cons_zero]; rfl) (by kernel_rfl) (by kernel_rfl) (by kernel_rfl) (by kernel_rfl) (by kernel_rfl) (fun _ _ _ h => h) (Or.inl ⟨by rfl, ?_⟩) (by assumption) ?_
      rotate_left 1
      · (intro w' hSw; go_simp; try with_reducible rfl)
      try simp only [Act.put, List.setIfInBounds_toArray, List.set_cons_zero, List.set_cons_succ]
      refine wpAnyW_take (i := 8) (v := ?_) (by simp only [List.getElem?_toArray, List.getElem?_cons_succ, List.getElem?_cons_zero]; rfl) (by kernel_rfl) (by kernel_rfl) (by kernel_rfl) (by kernel_rfl) (by kernel_rfl) (fun _ _ _ h => h) (Or.inl ⟨by rfl, ?_⟩) (by assumption) ?_
      rotate_left 1
      · (intro w' hSw; go_simp; try with_reducible rfl)
      try simp only [Act.put, List.setIfInBounds_toArray, List.set_cons_zero, List.set_cons_succ]
      refine wpAnyW_freed (i := 9) (by kernel_rfl) (by kernel_rfl) (by simp only [List.getElem?_toArray, List.getElem?_cons_succ, List.getElem?_cons_zero]; rfl) (fun K hK => ?_)
      rw [if_pos (by rfl)]
      refine wpF (ty := 9) (.string (u ++ y.tx)) rfl rfl rfl hHeld.1 (show (5 : Nat) < 6 by decide) infoST rfl ?_
      intro y2 ht hg he2
      clear he2
      have HM2 : Hid (Bx y2 g9 44 (cellsMg ⟨x.ts, x.fr, x.st, x.ss, x.pp, u ++ y.tx⟩)) := Lib.hid ht
      have HW2 : Hid (Below g9 y1 y2) := Lib.hid (below_of_grown1 hHeld.2 hg (Nat.le_of_lt hHeld.1.lt) (Nat.le_refl _))
      clear ht hg
      refine hK.out _ _ ?_
      clear hK K hHeld
      try simp only [Act.put, List.setIfInBounds_toArray, List.set_cons_zero, List.set_cons_succ]
      refine wpAnyW_done (by kernel_rfl) ?_ _
      refine NoPanic.normal ?_
      go_wp2_with fail
      go_roundw
      case rel => exact ⟨j + 1, by omega, by go_num, by rw [HN.out]; exact HM2, HW2⟩
      case measure => simp [intOf]; omega
    · obtain rfl : j = r.length := by omega
      rw [HJF.out] at HM
      have HMJ0 : Hid (Bx wr g9 44 (cellsMg (joinM r))) := Lib.hid (by rw [HJM.out]; exact HM.out)
      obtain ⟨J, hJ⟩ : ∃ J, joinM r = J := ⟨_, rfl⟩
      rw [hJ] at HMJ0
      have HJQ := Lib.hid hJ
      clear hJ
      have HMJ := HMJ0
      clear HMJ0 HM
      have hbw2 : Below w9.heap.size w9 wr := HBB.out.trans (HW.out.mono hgz)
      replace HR8 := Lib.hid (HR8.out.below hbw2)
      replace HR9 := Lib.hid (HR9.out.below hbw2)
      replace HZ4 := Lib.hid (HZ4.out.later hbw2)
      replace HZ5 := Lib.hid (HZ5.out.later hbw2)
      replace HB := Lib.hid (HB.out.trans (hbw2.mono HB.out.size))
      have hz5 := HZ5.out.lt
      have hm9 := HMJ.out.lt
      clear hbw2 HW
      generalize wr = wx at *
      go_wp2_with fail
      go_loopw [11, 12] (fun v11 v12 wr => ∃ (j : Nat) (acc : List Pc) (A' : Option Addr) (c : Nat), j ≤ (l ++ [p]).length ∧ v11 = .slice A' acc.length c ∧ v12 = .int .i64 j ∧ Hid (leftL r ((l ++ [p]).take j) = acc) ∧ Hid (OwnG wr wx.heap.size 47 8 (.slice A' acc.length c) acc.length (flatP acc)) ∧ Hid (Below wx.heap.size wx wr))
        (fun _ v12 _ => (l ++ [p]).length - (intOf v12).toNat)
      case atStart => exact ⟨0, [], none, 0, Nat.zero_le _, rfl, rfl, Lib.hid rfl, Lib.hid (OwnG.nil _ _ _ _), Lib.hid (Below.refl _ _)⟩
      case round =>
        obtain ⟨j, acc, A11, k11, hj, rfl, rfl, HE, HO, HW⟩ := hrel
        have hln := HLN.out
        have hal : acc.length ≤ 1000 := by have := left_len r (l ++ [p]) j; rw [HE.out] at this; omega
        by_cases hlt : j < (l ++ [p]).length
        · obtain ⟨b8, o8, c8, e8, hb8, -, -, hrg8⟩ := HR8.out.at hlt
          rw [hln] at e8
          cases e8
          have HRG8 := Lib.hid (range_below hrg8 hb8 HW.out)
          have y0 := HRG8.out 0 (.int .u32 ((l ++ [p])[j].ts.toNat : Int)) rfl
          rw [Nat.add_zero] at y0
          have q1 : (0 : Int) ≤ (j : Int) := by omega
          have q2 : (j : Int) < (l.length : Int) + 1 := by omega
          have HLY := Lib.hid (fun hf => left_yes (r := r) hlt hf)
          have HLO := Lib.hid (fun y hf => left_no (r := r) (y := y) hlt hf)
          have HR9b := Lib.hid (HR9.out.below HW.out)
          have hws := HW.out.size
          clear hrg8 hb8
          generalize (l ++ [p])[j] = y at *
          cases hfy : findT r y.ts with
          | none =>
            have HFY := Lib.hid (find_ix (idx_none hfy))
            have HE2 := Lib.hid (HLY.out hfy)
            rw [HE.out] at HE2
            have HLN2 : Hid ((acc ++ [y]).length = acc.length + 1) := Lib.hid (by simp)
            clear hfy hln
            go_wp2_with (first
              | (go_at_call 29; (with_reducible refine (HFY.out _ _ HR9b.out).mono ?_); rintro e w6 ⟨rfl, h6⟩; obtain rfl := h6.symm; clear h6)
              | ((with_reducible refine gate9 ?_); refine ldPcL (ty := 47) rfl rfl rfl HRG8.out Try.underlying47 rfl infoRP ?_)
              | (at_builtin; refine wpList_append_fed _ rfl (.tmp 93) (.tmp 98) 33 33 rfl wx.heap.size 47 i0 _ 8 32 Try.underlying33 (.inr ⟨_, Try.underlying33⟩) HI.out HZ0.out HZ1.out HZ2.out rfl _ _ _ rfl (HO.out.alloc _) _ 1 (cellsPc y).toList rfl (Fed.block (heap_alloc_new _ _) rfl (fun u hu => cells_one hu)) (by unfold maxLen; omega) (by omega) (by rw [World.size_alloc]; have := HW.out.size; omega) ?_; intro v8 w8b hown hgr; replace HW := Lib.hid (below_own HW.out HW.out.size HO.out (Nat.le_refl _) hgr); obtain ⟨A12, k12, rfl, -, -, -⟩ := id hown.slice; have HO2 := Lib.hid hown; clear hown hgr))
            go_roundw
            case rel => exact ⟨j + 1, acc ++ [y], A12, k12, by omega, by rw [HLN2.out], by go_num, HE2, by rw [HLN2.out, flatP_add]; exact HO2, HW⟩
            case measure => simp [intOf]; omega
          | some z =>
            obtain ⟨i, hi, hix, -⟩ := idx_some hfy
            have HFY := Lib.hid (find_ix hix)
            have HE2 := Lib.hid (HLO.out z hfy)
            rw [HE.out] at HE2
            have p1 : ¬ (i : Int) < 0 := by omega
            clear hfy hix hln
            go_wp2_with (go_at_call 29; (with_reducible refine (HFY.out _ _ HR9b.out).mono ?_); rintro e w6 ⟨rfl, h6⟩; obtain rfl := h6.symm; clear h6)
            go_roundw
            case rel => exact ⟨j + 1, acc, A11, k11, by omega, by first | rfl | trivial, by go_num, HE2, HO, HW⟩
            case measure => simp [intOf]; omega
        · obtain rfl : j = (l ++ [p]).length := by omega
          have HEK : Hid (keepL r l = acc) := Lib.hid (by rw [← HLE.out, ← HLF.out]; exact HE.out)
          have HRK := Lib.hid (rowP_of_ownG HO.out)
          have HFK := Lib.hid (fresh_ownG HO.out)
          replace HMJ := Lib.hid (HMJ.out.later HW.out)
          replace HZ4 := Lib.hid (HZ4.out.later HW.out)
          replace HZ5 := Lib.hid (HZ5.out.later HW.out)
          have HBR := Lib.hid (HB.out.trans (HW.out.mono HB.out.size))
          have hws := HW.out.size
          go_wp2_with fail
          have HS : (fun V => Bx V g9 44 (cellsMg J) ∧ Below w.heap.size w V) wr.drew := ⟨HMJ.out.drew, below_drawn HBR.out⟩
          replace HZ4 := Lib.hid HZ4.out.drew
          replace HZ5 := Lib.hid HZ5.out.drew
          replace HRK : Hid (RowP wr.drew (.slice A11 acc.length k11) acc) := Lib.hid (HRK.out.below (below_drawn (Below.refl _ _)))
          refine wp_region_noPanic ?_
          refine wp_region_waits (S := (fun V => Bx V g9 44 (cellsMg J) ∧ Below w.heap.size w V)) [4] (by kernel_rfl) HS (fun hHeld => ?_)
          clear HS
          refine wpAnyW_take (i := 0) (v := ?_) (by simp only [List.getElem?_toArray, List.getElem?_cons_zero]; rfl) (by kernel_rfl) (by kernel_rfl) (by kernel_rfl) (by kernel_rfl) (by kernel_rfl) (fun _ _ _ h => h) (Or.inl ⟨by rfl, ?_⟩) (by assumption) ?_
          rotate_left 1
          · (intro w' hSw; go_simp; try with_reducible rfl)
          try simp only [Act.put, List.setIfInBounds_toArray, List.set_cons_zero, List.set_cons_succ]
          refine wpAnyW_take (i := 1) (v := ?_) (by simp only [List.getElem?_toArray, List.getElem?_cons_succ, List.getElem?_cons_zero]; rfl) (by kernel_rfl) (by kernel_rfl) (by kernel_rfl) (by kernel_rfl) (by kernel_rfl) (fun _ _ _ h => h) (Or.inl ⟨by rfl, ?_⟩) (by assumption) ?_
          rotate_left 1
          · (intro w' hSw; go_simp; try with_reducible rfl)
          try simp only [Act.put, List.setIfInBounds_toArray, List.set_cons_zero, List.set_cons_succ]
          refine wpAnyW_two (i := 2) (i2 := 3) (by kernel_rfl) (by simp only [List.getElem?_toArray, List.getElem?_cons_succ, List.getElem?_cons_zero]; rfl) (by simp only [List.getElem?_toArray, List.getElem?_cons_succ, List.getElem?_cons_zero]; rfl) (fun K hK => ?_) (fun K hK => ?_)
          · rw [if_pos (by rfl)]
            refine wpLB (ty := 44) (cs := cellsMg J) rfl rfl hHeld.1 Try.underlying44 rfl infoRM ?_
            have HS := hHeld
            clear hHeld
            refine hK.out _ _ HS (fun hHeld => ?_)
            clear hK K HS
            try simp only [Act.put, List.setIfInBounds_toArray, List.set_cons_zero, List.set_cons_succ]
            refine wpAnyW_held (i := 3) (by kernel_rfl) (by simp only [List.getElem?_toArray, List.getElem?_cons_succ, List.getElem?_cons_zero]; rfl) (fun K hK => ?_)
            rw [if_pos (by rfl)]
            refine wpB (ty := 35) #[.slice A11 acc.length k11] rfl rfl rfl HZ4.out infoRB rfl (cellsRB_one _ _ _) ?_
            intro w20 ht hg
            have HS : (fun V => Bx V g9 44 (cellsMg J) ∧ Below w.heap.size w V) _ := ⟨hHeld.1.kept hg (by omega), below_of_grown1 hHeld.2 hg hHeld.2.size (by omega)⟩
            replace HRK := Lib.hid (RowP.stays HRK.out HFK.out hg (by omega))
            replace HZ5 := Lib.hid (HZ5.out.kept hg (by omega))
            replace HZ4 := Lib.hid ht
            clear ht hg hHeld
            refine hK.out _ _ HS (fun hHeld => ?_)
            clear hK K HS
            try simp only [Act.put, List.setIfInBounds_toArray, List.set_cons_zero, List.set_cons_succ]
            refine wpAnyW_freed (i := 4) (by kernel_rfl) (by kernel_rfl) (by simp only [List.getElem?_toArray, List.getElem?_cons_succ, List.getElem?_cons_zero]; rfl) (fun K hK => ?_)
            rw [if_pos (by rfl)]
            refine wpB (ty := 44) (cellsMg J) rfl rfl rfl HZ5.out infoRM rfl (cellsMg_one _) ?_
            intro w21 ht hg
            have HBE := Lib.hid (below_of_grown1 hHeld.2 hg hHeld.2.size (by omega))
            replace HRK := Lib.hid (RowP.stays HRK.out HFK.out hg (by omega))
            replace HZ4 := Lib.hid (HZ4.out.kept hg (by omega))
            replace HZ5 := Lib.hid ht
            clear ht hg hHeld
            refine hK.out _ _ ?_
            clear hK K
            try simp only [Act.put, List.setIfInBounds_toArray, List.set_cons_zero, List.set_cons_succ]
            refine wpAnyW_freed (i := 5) (by kernel_rfl) (by kernel_rfl) (by simp only [List.getElem?_toArray, List.getElem?_cons_succ, List.getElem?_cons_zero]; rfl) (fun K hK => ?_)
            rw [if_pos (by rfl)]
            go_simp
            refine hK.out _ _ ?_
            clear hK K
            try simp only [Act.put, List.setIfInBounds_toArray, List.set_cons_zero, List.set_cons_succ]
            refine wpAnyW_done (by kernel_rfl) ?_ _
            refine NoPanic.normal ?_
            go_wp2_with fail
            have HEQ : Hid (Ending.returned (.tuple #[.agg #[.slice A11 acc.length k11], .agg (cellsMg J), .bool true]) = .returned (.tuple #[.agg #[.slice A11 (keepL r l).length k11], .agg (cellsMg ((some (joinM r)).getD zeroMg)), .bool (some (joinM r)).isSome])) := Lib.hid (by rw [HEK.out, HJQ.out]; rfl)
            exact bodyPost_ret (retRBMO (v := .bool true) rfl rfl rfl rfl rfl (by rfl) HZ4.out HZ5.out) rfl ⟨A11, k11, HEQ.out, by rw [HEK.out]; exact HRK.out, fun g hg _ => by rw [HEK.out]; exact Apart.fresh HFK.out (by omega), HBE.out⟩
          · rw [if_pos (by rfl)]
            refine wpB (ty := 35) #[.slice A11 acc.length k11] rfl rfl rfl HZ4.out infoRB rfl (cellsRB_one _ _ _) ?_
            intro w20 ht hg
            have HS : (fun V => Bx V g9 44 (cellsMg J) ∧ Below w.heap.size w V) _ := ⟨hHeld.1.kept hg (by omega), below_of_grown1 hHeld.2 hg hHeld.2.size (by omega)⟩
            replace HRK := Lib.hid (RowP.stays HRK.out HFK.out hg (by omega))
            replace HZ5 := Lib.hid (HZ5.out.kept hg (by omega))
            replace HZ4 := Lib.hid ht
            clear ht hg hHeld
            refine hK.out _ _ HS (fun hHeld => ?_)
            clear hK K HS
            try simp only [Act.put, List.setIfInBounds_toArray, List.set_cons_zero, List.set_cons_succ]
            refine wpAnyW_held (i := 2) (by kernel_rfl) (by simp only [List.getElem?_toArray, List.getElem?_cons_succ, List.getElem?_cons_zero]; rfl) (fun K hK => ?_)
            rw [if_pos (by rfl)]
            refine wpLB (ty := 44) (cs := cellsMg J) rfl rfl hHeld.1 Try.underlying44 rfl infoRM ?_
            have HS := hHeld
            clear hHeld
            refine hK.out _ _ HS (fun hHeld => ?_)
            clear hK K HS
            try simp only [Act.put, List.setIfInBounds_toArray, List.set_cons_zero, List.set_cons_succ]
            refine wpAnyW_freed (i := 4) (by kernel_rfl) (by kernel_rfl) (by simp only [List.getElem?_toArray, List.getElem?_cons_succ, List.getElem?_cons_zero]; rfl) (fun K hK => ?_)
            rw [if_pos (by rfl)]
            refine wpB (ty := 44) (cellsMg J) rfl rfl rfl HZ5.out infoRM rfl (cellsMg_one _) ?_
            intro w21 ht hg
            have HBE := Lib.hid (below_of_grown1 hHeld.2 hg hHeld.2.size (by omega))
            replace HRK := Lib.hid (RowP.stays HRK.out HFK.out hg (by omega))
            replace HZ4 := Lib.hid (HZ4.out.kept hg (by omega))
            replace HZ5 := Lib.hid ht
            clear ht hg hHeld
            refine hK.out _ _ ?_
            clear hK K
            try simp only [Act.put, List.setIfInBounds_toArray, List.set_cons_zero, List.set_cons_succ]
            refine wpAnyW_freed (i := 5) (by kernel_rfl) (by kernel_rfl) (by simp only [List.getElem?_toArray, List.getElem?_cons_succ, List.getElem?_cons_zero]; rfl) (fun K hK => ?_)
            rw [if_pos (by rfl)]
            go_simp
            refine hK.out _ _ ?_
            clear hK K
            try simp only [Act.put, List.setIfInBounds_toArray, List.set_cons_zero, List.set_cons_succ]
            refine wpAnyW_done (by kernel_rfl) ?_ _
            refine NoPanic.normal ?_
            go_wp2_with fail
            have HEQ : Hid (Ending.returned (.tuple #[.agg #[.slice A11 acc.length k11], .agg (cellsMg J), .bool true]) = .returned (.tuple #[.agg #[.slice A11 (keepL r l).length k11], .agg (cellsMg ((some (joinM r)).getD zeroMg)), .bool (some (joinM r)).isSome])) := Lib.hid (by rw [HEK.out, HJQ.out]; rfl)
            exact bodyPost_ret (retRBMO (v := .bool true) rfl rfl rfl rfl rfl (by rfl) HZ4.out HZ5.out) rfl ⟨A11, k11, HEQ.out, by rw [HEK.out]; exact HRK.out, fun g hg _ => by rw [HEK.out]; exact Apart.fresh HFK.out (by omega), HBE.out⟩
end Go.Proofs.Ytblepnbmjehikaa
