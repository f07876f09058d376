/-
  Package order: DeleteFunc of messages, with Skip's closure: contract.
-/
import Derived.Test.YtondgdacjbfihaaOj
namespace Go.Proofs.Ytondgdacjbfihaa
open Go.RowKit
set_option linter.unusedVariables false
set_option linter.unusedSimpArgs false
set_option maxRecDepth 100000

def keepF (r : Mg → Bool) (l : List Mg) : List Mg := l.filter fun x => !r x
theorem zeroM (w : World) : (zeroValue 40).run Try.prog w = .ok (.agg (cellsMg zeroMg)) w := by kernel_rfl
/-! ### A whole piece is stored in a row -/
theorem putA_size : ∀ (vs : List Value) (cs : Array Value) (o : Nat), (putA cs o vs).size = cs.size
  | [], _, _ => rfl
  | v :: r, cs, o => by rw [putA, putA_size r]; simp
theorem putA_get : ∀ (vs : List Value) (cs : Array Value) (o j : Nat), o + vs.length ≤ cs.size → (putA cs o vs)[j]? = if o ≤ j ∧ j < o + vs.length then vs[j - o]? else cs[j]?
  | [], cs, o, j, _ => by
    rw [if_neg (by simp)]
    rfl
  | v :: r, cs, o, j, h => by
    rw [List.length_cons] at h
    rw [putA, putA_get r _ _ _ (by simp; omega), List.length_cons]
    by_cases e : j = o
    · subst e
      rw [if_neg (by omega), if_pos (by omega), Nat.sub_self, Array.getElem?_setIfInBounds_self_of_lt (by omega)]
      rfl
    · by_cases e2 : o ≤ j ∧ j < o + (r.length + 1)
      · rw [if_pos (by omega), if_pos e2, show j - o = (j - (o + 1)) + 1 by omega, List.getElem?_cons_succ]
      · rw [if_neg (by omega), if_neg e2, Array.getElem?_setIfInBounds_ne (by omega)]
section
variable {W : World} {g cap n : Nat} {T : TypeId} {l : List Mg}
theorem OwnS.room (h : OwnS W g T cap n l) : ∃ cur, Bx W g T cur ∧ n * 6 ≤ cur.size ∧ ∀ j, j < n * 6 → cur[j]? = (flatM l)[j]? := by
  obtain ⟨cur, hb, h0, h1, h2, h3⟩ := h
  refine ⟨cur, hb, ?_, h3⟩
  rcases Nat.eq_zero_or_pos n with rfl | hp
  · omega
  · have h9 := h3 (n * 6 - 1) (by omega)
    rw [List.getElem?_eq_getElem (by rw [flatM_length]; omega)] at h9
    have := (Array.getElem?_eq_some_iff.1 h9).1
    omega
theorem OwnS.there (h : OwnS W g T cap n l) {o k : Nat} (hk : o + k ≤ n * 6) : W.there g o k := fun j hj => by
  obtain ⟨cur, hb, hz, _⟩ := h.room
  refine ⟨?_, hb.free _⟩
  rw [hb.at, Array.getElem?_eq_getElem (by omega)]
  rfl
theorem OwnS.put (h : OwnS W g T cap n l) {i : Nat} (hi : i < n) (x : Mg) : OwnS (W.setCells g (i * 6) (cellsMg x).toList) g T cap n (l.set i x) := by
  obtain ⟨cur, hb, hz, hc⟩ := h.room
  have hl := h.len
  obtain ⟨_, _, _, h1, h2, _⟩ := h
  refine ⟨_, Bx.setCells (W := W) _ _ _ _ hb, by rw [List.length_set]; exact hl, h1, h2, fun j hj => ?_⟩
  rw [putA_get _ _ _ _ (by rw [lenMg]; omega), lenMg]
  have hj2 : j / 6 < l.length := by omega
  have hjm : j % 6 < 6 := Nat.mod_lt _ (by omega)
  have e1 : j = j / 6 * 6 + j % 6 := by omega
  have e2 : (flatM (l.set i x))[j]? = (cellsMg (l.set i x)[j / 6]!).toList[j % 6]? := by
    rw [getElem!_pos _ _ (by rw [List.length_set]; exact hj2), ← flatM_at _ _ _ (by rw [List.length_set]; exact hj2) hjm, ← e1]
  rw [e2, getElem!_pos _ _ (by rw [List.length_set]; exact hj2), List.getElem_set]
  by_cases e : i = j / 6
  · rw [if_pos (by omega), if_pos e, show j - i * 6 = j % 6 by omega]
  · rw [if_neg (by omega), if_neg e, hc j hj, ← flatM_at l _ _ hj2 hjm, ← e1]
end
section
variable {P : Program} {ops : Array Oper} {rest : List Oper} {op : Oper} {a : Act} {w : World} {Q : Exit → Act → World → Prop} {g cap n : Nat} {T : TypeId} {l : List Mg}
theorem stW {ty : TypeId} {x y : Operand} (i : Nat) (z : Mg) (hgd : op.guard = none) (ho : op.op = .store ty x y) (hx : a.eval x = .pointer (some ⟨g, i * 6, none⟩)) (hy : a.eval y = .agg (cellsMg z)) (h : OwnS w g T cap n l) (hi : i < n) (hz : (P.info? ty).map (·.size) = some 6)
    (hK : ∀ W', OwnS W' g T cap n (l.set i z) → w.grownBy W' (some g) → wpList P ops Q rest (a.put op.dst undef) W') : wpList P ops Q (op :: rest) a w :=
  wpList_plain hgd fun K hL => wp_store_mid ty x y ho g (i * 6) (cellsMg z) hx hy (h.there (by show i * 6 + 6 ≤ n * 6; omega)) hz (cellsMg_one z) (hL _ _ (hK _ (h.put hi z) (grown_cells g _ _ w)))
end
theorem zeroCells_len (zs : Array Value) (n : Nat) : (Builtin.zeroCells zs n).toList.length = n * zs.size := by simp [Builtin.zeroCells]
theorem zeroCells_one (zs : Array Value) (n : Nat) (h1 : zs.all (·.oneCell') = true) : ∀ u ∈ (Builtin.zeroCells zs n).toList, u.oneCell' = true := by
  intro u hu
  unfold Builtin.zeroCells at hu
  simp only [Array.toList_map, List.mem_map] at hu
  obtain ⟨i, hi, rfl⟩ := hu
  have hi2 : i < n * zs.size := by simpa using hi
  have hz : 0 < zs.size := by
    rcases Nat.eq_zero_or_pos zs.size with e | e
    · rw [e] at hi2; omega
    · exact e
  have hm := Nat.mod_lt i hz
  rw [getElem!_pos zs _ hm]
  exact (Array.all_eq_true_iff_forall_mem.1 h1) _ (Array.getElem_mem hm)
/-- clear of the end of a row of pieces. -/
theorem run_clear_own {w : World} {g cap n : Nat} {l : List Mg} (h : OwnS w g 40 cap n l) {i : Nat} (hi : i < n) (ty : TypeId) (c : Nat) :
    (Builtin.clear_ #[25] ty #[.slice (some ⟨g, i * 6, none⟩) (n - i) c]).run Try.prog w = .ok (.tuple #[]) (w.setCells g (i * 6) (Builtin.zeroCells (cellsMg zeroMg) (n - i)).toList) := by
  have hlen := zeroCells_len (cellsMg zeroMg) (n - i)
  have hl2 : (Builtin.zeroCells (cellsMg zeroMg) (n - i)).toList.length = (n - i) * 6 := hlen
  have hth := h.there (o := i * 6) (k := (n - i) * 6) (by omega)
  have hst := run_storeCells_cells (P := Try.prog) g (i * 6) (Builtin.zeroCells (cellsMg zeroMg) (n - i)).toList 0 w (fun j hj => (hth j (by rw [hl2] at hj; exact hj)).1) (fun j hj => (hth j (by rw [hl2] at hj; exact hj)).2) (zeroCells_one _ _ (cellsMg_one _))
  simp only [Nat.add_zero] at hst
  obtain ⟨m, hm⟩ : ∃ m, n - i = m + 1 := ⟨n - i - 1, by omega⟩
  rw [hm] at hst ⊢
  have hu : Try.prog.underlying 25 = _ := Try.underlying25
  have hz : ∀ w, (zeroValue 40).run Try.prog w = .ok (.agg (cellsMg zeroMg)) w := zeroM
  simp only [Builtin.clear_, Sem.run_bind, Sem.run_pure, run_underlying hu, hz, Value.cells, hst, Result.andThen_ok, List.getElem?_toArray, List.getElem?_cons_zero]
theorem filter_take1 {α : Type} (f : α → Bool) (l : List α) (j : Nat) (h : j < l.length) : (l.take (j + 1)).filter f = (l.take j).filter f ++ (if f l[j] then [l[j]] else []) := by
  rw [List.take_succ_eq_append_getElem h, List.filter_append]
  congr 1
  by_cases hf : f l[j] = true
  · rw [if_pos hf, List.filter_cons_of_pos hf]; rfl
  · rw [if_neg hf, List.filter_cons_of_neg hf]; rfl
/-- Where DeleteFunc's loop stands. -/
structure DelI (r : Mg → Bool) (l m : List Mg) (i j : Nat) : Prop where
  len : m.length = l.length
  lt : i < j
  le : j ≤ l.length
  hd : m.take i = (l.take j).filter fun x => !r x
  tl : m.drop j = l.drop j
theorem DelI.start {r : Mg → Bool} {l : List Mg} {i : Nat} (hn : NoneP r l i) (hi : i < l.length) (hx : r l[i] = true) : DelI r l l i (i + 1) := by
  refine ⟨rfl, Nat.lt_succ_self _, hi, ?_, rfl⟩
  rw [filter_take1 _ l i hi, if_neg (by rw [hx]; decide), List.append_nil]
  symm
  rw [List.filter_eq_self]
  intro x hx
  obtain ⟨k, hk, rfl⟩ := List.getElem_of_mem hx
  rw [List.length_take] at hk
  rw [List.getElem_take, hn k (by omega) (by omega)]
  rfl
theorem DelI.at {r : Mg → Bool} {l m : List Mg} {i j : Nat} (h : DelI r l m i j) (hj : j < l.length) : m[j]'(by rw [h.len]; exact hj) = l[j] := by
  have := congrArg (fun z => z[0]?) h.tl
  simp only [List.getElem?_drop, Nat.add_zero] at this
  rw [List.getElem?_eq_getElem (by rw [h.len]; exact hj), List.getElem?_eq_getElem hj] at this
  exact Option.some.inj this
theorem DelI.gone {r : Mg → Bool} {l m : List Mg} {i j : Nat} (h : DelI r l m i j) (hj : j < l.length) (hx : r l[j] = true) : DelI r l m i (j + 1) := by
  refine ⟨h.len, by have := h.lt; omega, hj, ?_, ?_⟩
  · rw [filter_take1 _ l j hj, if_neg (by rw [hx]; decide), List.append_nil]; exact h.hd
  · rw [← List.drop_drop (i := 1) (j := j), h.tl, List.drop_drop]
theorem DelI.kept {r : Mg → Bool} {l m : List Mg} {i j : Nat} (h : DelI r l m i j) (hj : j < l.length) (hx : r l[j] = false) : DelI r l (m.set i l[j]) (i + 1) (j + 1) := by
  have h1 := h.len
  have h2 := h.lt
  refine ⟨by rw [List.length_set]; exact h1, by omega, hj, ?_, ?_⟩
  · rw [filter_take1 _ l j hj, if_pos (by rw [hx]; rfl), ← h.hd, List.take_succ_eq_append_getElem (by rw [List.length_set]; omega), List.getElem_set_self, List.take_set_of_le (Nat.le_refl _)]
  · rw [List.drop_set_of_lt (by omega), ← List.drop_drop (i := 1) (j := j), h.tl, List.drop_drop]
theorem OwnS.cleared {W : World} {g cap n : Nat} {T : TypeId} {m : List Mg} (h : OwnS W g T cap n m) {i : Nat} (hi : i < n) {zs : List Value} (hz : zs.length = (n - i) * 6) : RowM (W.setCells g (i * 6) zs) (.slice (some ⟨g, 0, none⟩) i cap) (m.take i) := by
  have hl := h.len
  obtain ⟨cur, hb, hs, hc⟩ := h.room
  have hb2 := Bx.setCells (W := W) zs (i * 6) W cur hb
  obtain ⟨_, _, _, h1, h2, _⟩ := h
  have hlen : (m.take i).length = i := by rw [List.length_take]; omega
  refine ⟨some ⟨g, 0, none⟩, cap, by rw [hlen], by omega, h2, fun _ => ⟨g, 0, rfl, hb2.lt, fun j hj t u hu => ?_⟩⟩
  have ht : t < 6 := by have := (List.getElem?_eq_some_iff.1 hu).1; rw [lenMg] at this; exact this
  have hj2 : j < i := by omega
  rw [Nat.zero_add, hb2.at, putA_get _ _ _ _ (by rw [hz]; omega), if_neg (by omega), hc _ (by omega), flatM_at m j t (by omega) ht, ← hu, List.getElem_take]
theorem keep_all {r : Mg → Bool} {l : List Mg} (h : findL r l = none) : keepF r l = l := by
  unfold keepF
  unfold findL at h
  rw [List.findIdx?_eq_none_iff] at h
  rw [List.filter_eq_self]
  intro x hx
  rw [h x hx]; rfl
theorem find_at {r : Mg → Bool} {l : List Mg} {i : Nat} (h : findL r l = some i) : ∃ hi : i < l.length, r l[i] = true ∧ NoneP r l i := by
  unfold findL at h
  rw [List.findIdx?_eq_some_iff_getElem] at h
  obtain ⟨h1, h2, h3⟩ := h
  exact ⟨h1, h2, fun k hk hki => by simpa using h3 k hki⟩
set_option maxHeartbeats 4000000 in
theorem delete_any (l : List Mg) (hl : l.length ≤ 100000) (s : Int) (to : UInt16) (gs gt : Nat) (r : Mg → Bool) (hrr : r = goneB s to) (B : Nat) (A : Option Addr) (cap : Nat) (w : World) (ho : OwnV w B 40 A cap l.length l)
    (hg : ∀ W', Ch (fun z => A = some ⟨z, 0, none⟩) w W' → Bx W' gs 3 #[.int .i64 s]) (hv : ∀ W', Ch (fun z => A = some ⟨z, 0, none⟩) w W' → Bx W' gt 38 #[.int .u16 (to.toNat : Int)]) :
    Calls Try.prog 30 #[.slice A l.length cap, .func (.func 31) #[] #[.pointer (some ⟨gs, 0, none⟩), .pointer (some ⟨gt, 0, none⟩)]] w fun e w' => ∃ A' k, e = .returned (.slice A' (keepF r l).length k) ∧ RowM w' (.slice A' (keepF r l).length k) (keepF r l) ∧ (∀ a, A' = some a → A = some a) ∧ Ch (fun z => A = some ⟨z, 0, none⟩) w w' := by
  have HIX := Lib.hid (index2_any l hl s to gs gt (.slice A l.length cap) w ho.row (hg _ (Ch.refl _ _)) (hv _ (Ch.refl _ _)))
  have HHT := Lib.hid (fun x W (h : Ch (fun z => A = some ⟨z, 0, none⟩) w W) => hit2_any x s to gs gt W (hg W h) (hv W h))
  rw [← hrr] at HIX HHT
  clear hrr
  have hmx := ho.max
  have hle := ho.le
  obtain ⟨K, hK⟩ : ∃ K, keepF r l = K := ⟨_, rfl⟩
  rw [hK]
  have HKE := Lib.hid hK
  unfold idxP at HIX
  cases hf : findL r l with
  | none =>
    rw [hf] at HIX
    have HE : Hid (K = l) := Lib.hid (by rw [← hK]; exact keep_all hf)
    have HO := Lib.hid ho
    clear hK hf ho hg hv
    go_enter Try.func30, Try.ntmps30
    go_wp2_with fail
    refine HIX.out.mono ?_
    rintro e w1 ⟨rfl, hb⟩
    have HB := Lib.hid (ch_of_below (S := (fun z => A = some ⟨z, 0, none⟩)) hb)
    replace HO := Lib.hid (HO.out.later hb)
    clear hb HIX
    go_wp2_with fail
    go_ret
    exact ⟨A, cap, by rw [HE.out]; rfl, by rw [HE.out]; exact HO.out.row, fun a e => e, HB.out⟩
  | some i =>
    rw [hf] at HIX
    obtain ⟨hi, hin, hnn⟩ := find_at hf
    obtain ⟨g, rfl, hBg, hgl, hos⟩ := ho.low (show 0 < l.length by omega)
    have HOS := Lib.hid hos
    have HDS := Lib.hid (DelI.start hnn hi hin)
    have hiI : (i : Int) < (l.length : Int) := by omega
    have hi0 : (0 : Int) ≤ (i : Int) := by omega
    have hlI : (l.length : Int) ≤ 100000 := by omega
    have qi : ((i : Int) == -1) = false := by rw [beq_eq_false_iff_ne]; omega
    clear hK hf ho hg hv hin hnn hos hgl
    go_enter Try.func30, Try.ntmps30
    go_wp2_with fail
    refine HIX.out.mono ?_
    rintro e w1 ⟨rfl, hb⟩
    have HB := Lib.hid (ch_of_below (S := (fun z => some (⟨g, 0, none⟩ : Addr) = some ⟨z, 0, none⟩)) hb)
    replace HOS := Lib.hid (HOS.out.later hb)
    clear hb HIX
    go_wp2_with fail
    go_loopw [5, 6] (fun v5 v6 wr => ∃ (i j : Nat) (m : List Mg), v5 = .int .i64 i ∧ v6 = .int .i64 j ∧ Hid (DelI r l m i j) ∧ Hid (OwnS wr g 40 cap l.length m) ∧ Hid (Ch (fun z => some (⟨g, 0, none⟩ : Addr) = some ⟨z, 0, none⟩) w wr))
      (fun _ v6 _ => l.length - (intOf v6).toNat)
    case atStart => exact ⟨i, i + 1, l, rfl, by go_num, HDS, HOS, HB⟩
    case round =>
      clear HDS HOS HB hiI hi0 qi hi
      obtain ⟨i, j, m, rfl, rfl, HD, HO, HB⟩ := hrel
      have hij := HD.out.lt
      have hjl := HD.out.le
      have hgl := HO.out.lt
      have hml := HO.out.len
      have q0 : (0 : Int) ≤ (j : Int) := by omega
      have p0 : (0 : Int) ≤ (i : Int) := by omega
      have p1 : (i : Int) < (l.length : Int) := by omega
      by_cases hlt : j < l.length
      · have HRG := Lib.hid (HO.out.range hlt)
        have HAT := Lib.hid (HD.out.at hlt)
        have q1 : (j : Int) < (l.length : Int) := by omega
        have HGO := Lib.hid (HD.out.gone hlt)
        have HKP := Lib.hid (HD.out.kept hlt)
        rw [HAT.out] at HRG
        generalize l[j] = x at *
        obtain ⟨W3, hW3, HT, HB3, hs3⟩ := one_open wr 40 #[.int .u32 0, .bool false, .int .u16 0, .int .u16 0, .int .u32 0, .string ⟨#[]⟩]
        have HOR := HO
        replace HO := Lib.hid (HO.out.later HB3.out)
        clear hml
        cases hx : r x with
        | true =>
          have HX := Lib.hid hx
          have HDN := Lib.hid (HGO.out hx)
          clear hx
          go_wp2_with (first
            | ((with_reducible refine gate9 ?_); refine ldMg (ty := 40) rfl rfl rfl HRG.out Try.underlying40 rfl infoM ?_)
            | ((with_reducible refine gate9 ?_); refine stB (ty := 40) (cellsMg x) rfl rfl rfl rfl HT.out infoM rfl (cellsMg_one _) ?_; intro w4 ht hg; replace HB3 := Lib.hid (below_of_grown1 HB3.out hg HB3.out.size (Nat.le_refl _)); replace HO := Lib.hid (HOR.out.later HB3.out); replace HT := Lib.hid ht; clear ht hg)
            | ((with_reducible refine gate9 ?_); refine ldB (ty := 40) rfl rfl rfl HT.out Try.underlying40 rfl infoM ?_)
            | (go_at_call 31; (with_reducible refine (HHT.out _ _ (HB.out.below HB3.out)).mono ?_); rintro e w6 ⟨rfl, hb5⟩; (try rw [HX.out]); replace HT := Lib.hid (HT.out.later hb5); replace HB3 := Lib.hid (HB3.out.trans (hb5.mono HB3.out.size)); replace HO := Lib.hid (HO.out.later hb5); clear hb5))
          go_roundw
          case rel => exact ⟨i, j + 1, m, rfl, by go_num, HDN, HO, Lib.hid (HB.out.below HB3.out)⟩
          case measure => simp [intOf]; omega
        | false =>
          have HX := Lib.hid hx
          have HDN := Lib.hid (HKP.out hx)
          clear hx
          go_wp2_with (first
            | ((with_reducible refine gate9 ?_); refine ldMg (ty := 40) rfl rfl rfl HRG.out Try.underlying40 rfl infoM ?_)
            | ((with_reducible refine gate9 ?_); refine stB (ty := 40) (cellsMg x) rfl rfl rfl rfl HT.out infoM rfl (cellsMg_one _) ?_; intro w4 ht hg; replace HB3 := Lib.hid (below_of_grown1 HB3.out hg HB3.out.size (Nat.le_refl _)); replace HO := Lib.hid (HOR.out.later HB3.out); replace HT := Lib.hid ht; clear ht hg)
            | ((with_reducible refine gate9 ?_); refine ldB (ty := 40) rfl rfl rfl HT.out Try.underlying40 rfl infoM ?_)
            | (go_at_call 31; (with_reducible refine (HHT.out _ _ (HB.out.below HB3.out)).mono ?_); rintro e w6 ⟨rfl, hb5⟩; (try rw [HX.out]); replace HT := Lib.hid (HT.out.later hb5); replace HB3 := Lib.hid (HB3.out.trans (hb5.mono HB3.out.size)); replace HO := Lib.hid (HO.out.later hb5); clear hb5)
            | ((with_reducible refine gate9 ?_); refine stW (ty := 40) i x rfl rfl rfl rfl HO.out (by omega) infoM ?_; intro w8 ho8 hg8; replace HB := Lib.hid ((HB.out.below HB3.out).grown hg8 (fun z e _ => by cases e; rfl)); have HO8 := Lib.hid ho8; clear ho8 hg8))
          go_roundw
          case rel => exact ⟨i + 1, j + 1, m.set i x, by go_num, by go_num, HDN, HO8, HB⟩
          case measure => simp [intOf]; omega
      · obtain rfl : j = l.length := by omega
        obtain ⟨W9, hW9⟩ : ∃ W, wr.setCells g (i * 6) (Builtin.zeroCells (cellsMg zeroMg) (l.length - i)).toList = W := ⟨_, rfl⟩
        have hcl := fun ty c => run_clear_own HO.out (i := i) (by omega) ty c
        rw [hW9] at hcl
        have HR9 : Hid (RowM W9 (.slice (some ⟨g, 0, none⟩) i cap) (m.take i)) := Lib.hid (by rw [← hW9]; exact HO.out.cleared (by omega) (by rw [zeroCells_len]; rfl))
        have HB9 : Hid (Ch (fun z => some (⟨g, 0, none⟩ : Addr) = some ⟨z, 0, none⟩) w W9) := Lib.hid (by rw [← hW9]; exact HB.out.grown (grown_cells g _ _ wr) (fun z e _ => by cases e; rfl))
        have HE : Hid (K = m.take i) := Lib.hid (by rw [← HKE.out, HD.out.hd, List.take_length]; rfl)
        have HL : Hid ((m.take i).length = i) := Lib.hid (by rw [List.length_take]; omega)
        have p2 : (l.length : Int) ≤ (cap : Int) := by omega
        have p3 : (i : Int) < (cap : Int) := by omega
        have p4 : (i : Int) ≤ (cap : Int) := by omega
        have p5 : (i : Int) ≤ (l.length : Int) := by omega
        have p6 : ((i : Int) == (cap : Int)) = false := by rw [beq_eq_false_iff_ne]; omega
        have p7 : i ≠ cap := by omega
        have p8 : (cap : Int) ≤ 9223372036854775807 := by unfold maxLen at hmx; omega
        have e1 : ((l.length : Int) - (i : Int)).toNat = l.length - i := by omega
        have e2 : ((cap : Int) - (i : Int)).toNat = cap - i := by omega
        clear hW9 hml hgl
        go_wp2_with fail
        go_ret
        exact ⟨some ⟨g, 0, none⟩, cap, by rw [HE.out, HL.out]; rfl, by rw [HE.out, HL.out]; exact HR9.out, fun a e => e, HB9.out⟩
end Go.Proofs.Ytondgdacjbfihaa
