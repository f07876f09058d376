/-
  Package frag: what is left of a bag when a row is taken out: DeleteFunc, without: contracts.
-/
import Derived.Test.YtgngdgiipifacaaSd
namespace Go.Proofs.Ytgngdgiipifacaa
open Go.RowKit
set_option linter.unusedVariables false
set_option linter.unusedSimpArgs false
set_option maxRecDepth 100000

theorem OwnS.cleared {W : World} {g cap n : Nat} {T : TypeId} {m : List Pc} (h : OwnS W g T cap n m) {i : Nat} (hi : i < n) {zs : List Value} (hz : zs.length = (n - i) * 8) : RowP (W.setCells g (i * 8) zs) (.slice (some ⟨g, 0, none⟩) i cap) (m.take i) := by
  have hl := h.len
  obtain ⟨cur, hb, hs, hc⟩ := h.room
  have hb2 := Bx.setCells (W := W) zs (i * 8) W cur hb
  obtain ⟨_, _, _, h1, h2, _⟩ := h
  have hlen : (m.take i).length = i := by rw [List.length_take]; omega
  refine ⟨some ⟨g, 0, none⟩, cap, by rw [hlen], by omega, h2, fun _ => ⟨g, 0, rfl, hb2.lt, fun j hj t u hu => ?_⟩⟩
  have ht : t < 8 := by have := (List.getElem?_eq_some_iff.1 hu).1; rw [lenPc] at this; exact this
  have hj2 : j < i := by omega
  rw [Nat.zero_add, hb2.at, putA_get _ _ _ _ (by rw [hz]; omega), if_neg (by omega), hc _ (by omega), flatP_at m j t (by omega) ht, ← hu, List.getElem_take]
theorem keep_all {r l : List Pc} (h : findL (inRow r) l = none) : keepL r l = l := by
  unfold keepL
  unfold findL at h
  rw [List.findIdx?_eq_none_iff] at h
  rw [List.filter_eq_self]
  intro x hx
  rw [h x hx]; rfl
theorem find_at {r l : List Pc} {i : Nat} (h : findL (inRow r) l = some i) : ∃ hi : i < l.length, inRow r l[i] = true ∧ NoneP (inRow r) l i := by
  unfold findL at h
  rw [List.findIdx?_eq_some_iff_getElem] at h
  obtain ⟨h1, h2, h3⟩ := h
  exact ⟨h1, h2, fun k hk hki => by simpa using h3 k hki⟩
set_option maxHeartbeats 4000000 in
theorem delete_any (l r : List Pc) (hl : l.length ≤ 1000) (hr : 0 < r.length) (hr2 : r.length ≤ 1000) (B : Nat) (A : Option Addr) (cap gc : Nat) (V : Value) (w : World) (hB : B ≤ w.heap.size) (ho : OwnV w B 43 A cap l.length l)
    (hg : ∀ W', Below B w W' → Bx W' gc 29 #[V]) (hv : ∀ W', Below B w W' → RowP W' V r) :
    Calls Try.prog 33 #[.slice A l.length cap, .func (.func 32) #[] #[.pointer (some ⟨gc, 0, none⟩)]] w fun e w' => ∃ A' k, e = .returned (.slice A' (keepL r l).length k) ∧ RowP w' (.slice A' (keepL r l).length k) (keepL r l) ∧ Fresh B (.slice A' (keepL r l).length k) ∧ Below B w w' := by
  have HIX := Lib.hid (index_any l hl r hr hr2 gc V (.slice A l.length cap) w ho.row (hg _ (Below.refl _ _)) (hv _ (Below.refl _ _)))
  have HHT := Lib.hid (fun x W (h : Below B w W) => hit_any x r hr hr2 gc V W (hg W h) (hv W h))
  have hmx := ho.max
  have hle := ho.le
  obtain ⟨K, hK⟩ : ∃ K, keepL r l = K := ⟨_, rfl⟩
  rw [hK]
  have HKE := Lib.hid hK
  unfold idxP at HIX
  cases hf : findL (inRow r) l with
  | none =>
    rw [hf] at HIX
    have HE : Hid (K = l) := Lib.hid (by rw [← hK]; exact keep_all hf)
    have HO := Lib.hid ho
    clear hK hf ho hg hv
    go_enter Try.func33, Try.ntmps33
    go_wp2_with fail
    refine HIX.out.mono ?_
    rintro e w1 ⟨rfl, hb⟩
    have HB := Lib.hid (hb.mono hB)
    replace HO := Lib.hid (HO.out.later hb)
    clear hb HIX
    go_wp2_with fail
    go_ret
    exact ⟨A, cap, by rw [HE.out]; rfl, by rw [HE.out]; exact HO.out.row, by rw [HE.out]; exact HO.out.fresh, HB.out⟩
  | some i =>
    rw [hf] at HIX
    obtain ⟨hi, hin, hnn⟩ := find_at hf
    obtain ⟨g, rfl, hBg, hgl, hos⟩ := ho.low (show 0 < l.length by omega)
    have HOS := Lib.hid hos
    have HDS := Lib.hid (DelI.start hnn hi hin)
    have hiI : (i : Int) < (l.length : Int) := by omega
    have hi0 : (0 : Int) ≤ (i : Int) := by omega
    have hlI : (l.length : Int) ≤ 1000 := by omega
    have qi : ((i : Int) == -1) = false := by rw [beq_eq_false_iff_ne]; omega
    clear hK hf ho hg hv hin hnn hos hgl
    go_enter Try.func33, Try.ntmps33
    go_wp2_with fail
    refine HIX.out.mono ?_
    rintro e w1 ⟨rfl, hb⟩
    have HB := Lib.hid (hb.mono hB)
    replace HOS := Lib.hid (HOS.out.later hb)
    clear hb HIX
    go_wp2_with fail
    go_loopw [5, 6] (fun v5 v6 wr => ∃ (i j : Nat) (m : List Pc), v5 = .int .i64 i ∧ v6 = .int .i64 j ∧ Hid (DelI r l m i j) ∧ Hid (OwnS wr g 43 cap l.length m) ∧ Hid (Below B w wr))
      (fun _ v6 _ => l.length - (intOf v6).toNat)
    case atStart => exact ⟨i, i + 1, l, rfl, by go_num, HDS, HOS, HB⟩
    case round =>
      clear HDS HOS HB hiI hi0 qi hi
      obtain ⟨i, j, m, rfl, rfl, HD, HO, HB⟩ := hrel
      have hij := HD.out.lt
      have hjl := HD.out.le
      have hgl := HO.out.lt
      have hml := HO.out.len
      have q0 : (0 : Int) ≤ (j : Int) := by omega
      have p0 : (0 : Int) ≤ (i : Int) := by omega
      have p1 : (i : Int) < (l.length : Int) := by omega
      by_cases hlt : j < l.length
      · have HRG := Lib.hid (HO.out.range hlt)
        have HAT := Lib.hid (HD.out.at hlt)
        have q1 : (j : Int) < (l.length : Int) := by omega
        have HGO := Lib.hid (HD.out.gone hlt)
        have HKP := Lib.hid (HD.out.kept hlt)
        rw [HAT.out] at HRG
        generalize l[j] = x at *
        obtain ⟨W3, hW3, HT, HB3, hs3⟩ := one_open wr 43 #[.int .u32 0, .bool false, .bool false, .bool false, .int .u16 0, .int .u16 0, .int .u32 0, .string ⟨#[]⟩]
        have HOR := HO
        replace HO := Lib.hid (HO.out.later HB3.out)
        clear hml
        cases hx : inRow r x with
        | true =>
          have HX := Lib.hid hx
          have HDN := Lib.hid (HGO.out hx)
          clear hx
          go_wp2_with (first
            | ((with_reducible refine gate9 ?_); refine ldPc (ty := 43) rfl rfl rfl HRG.out Try.underlying43 rfl infoP ?_)
            | ((with_reducible refine gate9 ?_); refine stB (ty := 43) (cellsPc x) rfl rfl rfl rfl HT.out infoP rfl (cellsPc_one _) ?_; intro w4 ht hg; replace HB3 := Lib.hid (below_of_grown1 HB3.out hg HB3.out.size (Nat.le_refl _)); replace HO := Lib.hid (HOR.out.later HB3.out); replace HT := Lib.hid ht; clear ht hg)
            | ((with_reducible refine gate9 ?_); refine ldB (ty := 43) rfl rfl rfl HT.out Try.underlying43 rfl infoP ?_)
            | (go_at_call 32; (with_reducible refine (HHT.out _ _ (HB.out.trans (HB3.out.mono (show B ≤ wr.heap.size by omega)))).mono ?_); rintro e w6 ⟨rfl, hb5⟩; (try rw [HX.out]); replace HT := Lib.hid (HT.out.later hb5); replace HB3 := Lib.hid (HB3.out.trans (hb5.mono HB3.out.size)); replace HO := Lib.hid (HO.out.later hb5); clear hb5))
          go_roundw
          case rel => exact ⟨i, j + 1, m, rfl, by go_num, HDN, HO, Lib.hid (HB.out.trans (HB3.out.mono (by omega)))⟩
          case measure => simp [intOf]; omega
        | false =>
          have HX := Lib.hid hx
          have HDN := Lib.hid (HKP.out hx)
          clear hx
          go_wp2_with (first
            | ((with_reducible refine gate9 ?_); refine ldPc (ty := 43) rfl rfl rfl HRG.out Try.underlying43 rfl infoP ?_)
            | ((with_reducible refine gate9 ?_); refine stB (ty := 43) (cellsPc x) rfl rfl rfl rfl HT.out infoP rfl (cellsPc_one _) ?_; intro w4 ht hg; replace HB3 := Lib.hid (below_of_grown1 HB3.out hg HB3.out.size (Nat.le_refl _)); replace HO := Lib.hid (HOR.out.later HB3.out); replace HT := Lib.hid ht; clear ht hg)
            | ((with_reducible refine gate9 ?_); refine ldB (ty := 43) rfl rfl rfl HT.out Try.underlying43 rfl infoP ?_)
            | (go_at_call 32; (with_reducible refine (HHT.out _ _ (HB.out.trans (HB3.out.mono (show B ≤ wr.heap.size by omega)))).mono ?_); rintro e w6 ⟨rfl, hb5⟩; (try rw [HX.out]); replace HT := Lib.hid (HT.out.later hb5); replace HB3 := Lib.hid (HB3.out.trans (hb5.mono HB3.out.size)); replace HO := Lib.hid (HO.out.later hb5); clear hb5)
            | ((with_reducible refine gate9 ?_); refine stW (ty := 43) i x rfl rfl rfl rfl HO.out (by omega) infoP ?_; intro w8 ho8 hg8; replace HB := Lib.hid (below_of_grown1 (HB.out.trans (HB3.out.mono (show B ≤ wr.heap.size by omega))) hg8 (by have := HB3.out.size; omega) hBg); have HO8 := Lib.hid ho8; clear ho8 hg8))
          go_roundw
          case rel => exact ⟨i + 1, j + 1, m.set i x, by go_num, by go_num, HDN, HO8, HB⟩
          case measure => simp [intOf]; omega
      · obtain rfl : j = l.length := by omega
        obtain ⟨W9, hW9⟩ : ∃ W, wr.setCells g (i * 8) (Builtin.zeroCells (cellsPc zeroPc) (l.length - i)).toList = W := ⟨_, rfl⟩
        have hcl := fun ty c => run_clear_own HO.out (i := i) (by omega) ty c
        rw [hW9] at hcl
        have HR9 : Hid (RowP W9 (.slice (some ⟨g, 0, none⟩) i cap) (m.take i)) := Lib.hid (by rw [← hW9]; exact HO.out.cleared (by omega) (by rw [zeroCells_len]; rfl))
        have HB9 : Hid (Below B w W9) := Lib.hid (by rw [← hW9]; exact below_of_grown1 HB.out (grown_cells g _ _ wr) (by omega) hBg)
        have HE : Hid (K = m.take i) := Lib.hid (by rw [← HKE.out, HD.out.hd, List.take_length]; rfl)
        have HL : Hid ((m.take i).length = i) := Lib.hid (by rw [List.length_take]; omega)
        have p2 : (l.length : Int) ≤ (cap : Int) := by omega
        have p3 : (i : Int) < (cap : Int) := by omega
        have p4 : (i : Int) ≤ (cap : Int) := by omega
        have p5 : (i : Int) ≤ (l.length : Int) := by omega
        have p6 : ((i : Int) == (cap : Int)) = false := by rw [beq_eq_false_iff_ne]; omega
        have p7 : i ≠ cap := by omega
        have p8 : (cap : Int) ≤ 9223372036854775807 := by unfold maxLen at hmx; omega
        have e1 : ((l.length : Int) - (i : Int)).toNat = l.length - i := by omega
        have e2 : ((cap : Int) - (i : Int)).toNat = cap - i := by omega
        clear hW9 hml hgl
        go_wp2_with fail
        go_ret
        exact ⟨some ⟨g, 0, none⟩, cap, by rw [HE.out, HL.out]; rfl, by rw [HE.out, HL.out]; exact HR9.out, fresh_some hBg, HB9.out⟩
end Go.Proofs.Ytgngdgiipifacaa
