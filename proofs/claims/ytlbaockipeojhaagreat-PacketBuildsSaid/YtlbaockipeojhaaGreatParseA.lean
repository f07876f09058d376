/-
  What is read of bytes: a contract.
-/
import Derived.Test.YtlbaockipeojhaaGreatPc
import Derived.Test.YtlbaockipeojhaaGreatPkBuild
import Derived.Test.YtlbaockipeojhaaGreatNum8
import Derived.BigRegion
namespace Go.Proofs.YtlbaockipeojhaaGreat
open Go.RowKit
set_option linter.unusedVariables false
set_option linter.unusedSimpArgs false
set_option maxRecDepth 100000

theorem fit_ok {c : Ck} (hw : WfC c) (h : (buildC c).2 = 0) : FitC c := by
  obtain ⟨b1, b2, b3, b4, b5⟩ := ok_bounds h
  exact ⟨hw, by omega, by omega, by omega, fun x hx => by have := b4 x hx; omega, by omega⟩
theorem parseP_1 {s : ByteArray} (h : 1500 < s.size) : parseP s = (zeroP, 4) := by unfold parseP; rw [if_pos h]
theorem parseP_2 {s : ByteArray} (h : s.size ≤ 1500) (h2 : checked s ≠ 0) : parseP s = (zeroP, (checked s).toNat) := by unfold parseP; rw [if_neg (by omega), if_pos h2]
theorem parseP_3 {s : ByteArray} (h : s.size ≤ 1500) (h2 : checked s = 0) (h3 : (walkC s.size [] (cutB s 12)).2 ≠ 0) : parseP s = (zeroP, (walkC s.size [] (cutB s 12)).2) := by
  unfold parseP; rw [if_neg (by omega), if_neg (by rw [h2]; simp), if_pos h3]
theorem parseP_4 {s : ByteArray} (h : s.size ≤ 1500) (h2 : checked s = 0) (h3 : (walkC s.size [] (cutB s 12)).2 = 0) : parseP s = if (buildP (readP s)).2 = 0 then (readP s, 0) else (zeroP, 2) := by
  unfold parseP; rw [if_neg (by omega), if_neg (by rw [h2]; simp), if_neg (by omega)]
theorem walkC_fuel : ∀ (n m : Nat) (acc : List Ck) (s : ByteArray), s.size ≤ n → s.size ≤ m → walkC n acc s = walkC m acc s
  | 0, m, acc, s, hn, hm => by
    rw [walkC_end _ _ (by omega), walkC_end _ _ (by omega)]
  | n + 1, 0, acc, s, hn, hm => by
    rw [walkC_end _ _ (by omega), walkC_end _ _ (by omega)]
  | n + 1, m + 1, acc, s, hn, hm => by
    unfold walkC
    split
    · rfl
    · split
      · rfl
      · rename_i h1 h2
        have he : (parseC s).2.2 = 0 := by omega
        obtain ⟨_, _, a3, _, _, a6, a7⟩ := chunk_again he
        have := cut_size s (parseC s).2.1
        exact walkC_fuel n m _ _ (by omega) (by omega)
theorem walkC_len : ∀ (n : Nat) (acc : List Ck) (s : ByteArray), (walkC n acc s).1.length ≤ acc.length + s.size
  | 0, acc, s => by unfold walkC; exact Nat.le_add_right _ _
  | n + 1, acc, s => by
    unfold walkC
    split
    · exact Nat.le_add_right _ _
    · split
      · exact Nat.zero_le _
      · rename_i h1 h2
        have he : (parseC s).2.2 = 0 := by omega
        obtain ⟨_, _, a3, _, _, a6, a7⟩ := chunk_again he
        have h3 := cut_size s (parseC s).2.1
        have h4 := walkC_len n (acc ++ [(parseC s).1]) (cutB s (parseC s).2.1)
        rw [List.length_append, List.length_singleton] at h4
        omega
theorem cut_take (s : ByteArray) (a b : Nat) (i : Nat) (h : a + i < b) (hb : b ≤ s.size) : byteAt (s.extract a b).data.toList i = byteAt s.data.toList (a + i) := by
  rw [cut_list]
  unfold byteAt
  rw [getD_take _ _ (by omega), List.getD_eq_getElem?_getD, List.getD_eq_getElem?_getD, List.getElem?_drop]
theorem cut_num (s : ByteArray) (a b : Nat) (h : a + 2 = b) (hb : b ≤ s.size) : num (s.extract a b).data.toList 0 = num s.data.toList a := by
  unfold num
  rw [cut_take s a b 0 (by omega) hb, cut_take s a b (0 + 1) (by omega) hb]
  rfl
theorem cut_num4 (s : ByteArray) (a b : Nat) (h : a + 4 = b) (hb : b ≤ s.size) : num4 (s.extract a b).data.toList 0 = num4 s.data.toList a := by
  unfold num4 num
  rw [cut_take s a b 0 (by omega) hb, cut_take s a b (0 + 1) (by omega) hb, cut_take s a b (0 + 2) (by omega) hb, cut_take s a b (0 + 2 + 1) (by omega) hb]
  rfl
/-- The packet to be handed back, and the chunks that were read. -/
structure PrS (w : World) (V : Value) (lv : List Cv) (W : World) : Prop where
  own : W.heap[w.heap.size]? = some (.cells #[.int .u16 0, .int .u16 0, .int .u32 0, .slice none 0 0] 26 (0, 0))
  rk : RkB (w.heap.size + 1) W V lv
  below : Below w.heap.size w W
theorem PrS.later {w W W' : World} {V : Value} {lv : List Cv} (h : PrS w V lv W) (hb : Below W.heap.size W W') : PrS w V lv W' :=
  ⟨(hb.block _ (Array.getElem?_eq_some_iff.1 h.own).1).trans h.own, h.rk.later hb, h.below.trans (hb.mono h.below.size)⟩
theorem PrS.gone {w W : World} {V : Value} {lv : List Cv} (h : PrS w V lv W) (cs : Array Value) : Rk (W.setRow w.heap.size cs) V lv :=
  h.rk _ (by simp) fun j hj _ => setRow_other _ _ _ _ (by omega)
end Go.Proofs.YtlbaockipeojhaaGreat
