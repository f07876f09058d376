/-
  Bytes and messages that wait, or are told: plain; rows of numbers that a store leaves alone.
-/
import Derived.Test.YtondgdacjbfihaaOz
namespace Go.Proofs.Ytondgdacjbfihaa
open Go.RowKit
set_option linter.unusedVariables false
set_option linter.unusedSimpArgs false

theorem bytes_split (f : Mg → Bool) : ∀ l : List Mg, bytesN (l.filter f) + bytesN (l.filter fun x => !f x) = bytesN l
  | [] => rfl
  | x :: l => by
    have ih := bytes_split f l
    unfold bytesN at *
    cases hf : f x with
    | true => rw [List.filter_cons_of_pos hf, List.filter_cons_of_neg (by simp [hf])]; simp only [List.map_cons, List.sum_cons]; omega
    | false => rw [List.filter_cons_of_neg (by simp [hf]), List.filter_cons_of_pos (by simp [hf])]; simp only [List.map_cons, List.sum_cons]; omega
theorem bytes_append (a b : List Mg) : bytesN (a ++ b) = bytesN a + bytesN b := by unfold bytesN; rw [List.map_append, List.sum_append]
theorem bytes_told (wt : List Mg) (s : Int) (n : UInt16) : ∀ k, k ≤ 65536 → bytesN (toldL wt s n k) + bytesN (leftL wt s n k) = bytesN wt
  | 0, _ => by rw [told_zero, left_zero]; show 0 + _ = _; omega
  | k + 1, hk => by
    have ih := bytes_told wt s n k (by omega)
    rw [told_next, bytes_append, ← left_next wt s n (by omega), ← left_mt wt s n (by omega)]
    have := bytes_split (mtB s (up n k)) (leftL wt s n k)
    omega
theorem bytes_tell {wt : List Mg} (hl : wt.length ≤ 60000) (s : Int) (n : UInt16) : bytesN (tellK wt s n) + bytesN (leftK wt s n) = bytesN wt := by
  have := (runK_spec s n hl).2.1
  exact bytes_told wt s n _ (by omega)
theorem put_bytes {nx : List UInt16} {wt : List Mg} (hl : wt.length ≤ 1000) (m : Mg) (he : putE nx wt m = 0) : bytesN (putT nx wt m) + bytesN (putW nx wt m) = bytesN wt + m.tx.size := by
  have h1 : bytesN [m] = m.tx.size := by simp [bytesN]
  unfold putE at he
  unfold putT putW
  by_cases c1 : nx.length ≤ m.st.toNat
  · rw [if_pos c1] at he; cases he
  · rw [if_neg c1] at he
    rw [if_neg c1, if_neg c1]
    by_cases c2 : m.fr = true
    · rw [if_pos c2, if_pos c2]; omega
    · rw [if_neg c2] at he
      rw [if_neg c2, if_neg c2]
      by_cases c3 : (pastB m.ss (atN nx m.st.toNat) || wt.any (sameB m)) = true
      · rw [if_pos c3] at he; cases he
      · rw [if_neg c3, if_neg c3, bytes_tell (by simp; omega), bytes_append, h1]
theorem waits_cons (x : Mg) (l : List Mg) (s : Int) : waitsN (x :: l) s = waitsN l s + (ofB s x).toNat := by
  unfold waitsN
  cases hb : ofB s x with
  | true => rw [List.filter_cons_of_pos hb]; rfl
  | false => rw [List.filter_cons_of_neg (by rw [hb]; decide)]; rfl
theorem waits_three : ∀ {l : List Mg}, (∀ x ∈ l, x.st.toNat < 3) → waitsN l 0 + waitsN l 1 + waitsN l 2 = l.length
  | [], _ => rfl
  | x :: l, h => by
    have ih := waits_three (l := l) fun y hy => h y (List.mem_cons_of_mem _ hy)
    have hx := h x (List.mem_cons_self ..)
    rw [waits_cons, waits_cons, waits_cons, List.length_cons]
    unfold ofB
    obtain e | e | e : x.st.toNat = 0 ∨ x.st.toNat = 1 ∨ x.st.toNat = 2 := by omega
    all_goals
      rw [e]
      simp
      omega
theorem RowE.move {α : Type} [Inhabited α] {enc : α → Value} {w w' : World} {v : Value} {l : List α} (h : RowE enc w v l) (hs : w.heap.size ≤ w'.heap.size) (hk : ∀ a n c, v = .slice (some a) n c → a.block < w.heap.size → w'.heap[a.block]? = w.heap[a.block]?) : RowE enc w' v l := by
  obtain ⟨A, cap, rfl, h1, h2, h3⟩ := h
  refine ⟨A, cap, rfl, h1, h2, fun hl => ?_⟩
  obtain ⟨b, off, rfl, hlt, hc⟩ := h3 hl
  have hb := hk ⟨b, off, none⟩ _ _ rfl hlt
  refine ⟨b, off, rfl, Nat.lt_of_lt_of_le hlt hs, fun j hj => ?_⟩
  rw [← hc j hj]
  exact World.cell?_of_block (w := w) (a := ⟨b, off + j, none⟩) hb
theorem RowE.kept {α : Type} [Inhabited α] {enc : α → Value} {w w' : World} {v : Value} {l : List α} {k : Nat} (h : RowE enc w v l) (hf : NotIn k v) (hg : w.grownBy w' (some k)) : RowE enc w' v l :=
  h.move hg.size fun a n c e hl => hg.block _ hl (by have := hf a n c e; simp; omega)
theorem put_told_le {nx : List UInt16} {wt : List Mg} (h : OkQ nx wt) (hl : wt.length ≤ 1000) (m : Mg) : (putT nx wt m).length ≤ wt.length + 1 := by
  unfold putT
  split
  · simp
  · split
    · simp
    · split
      · simp
      · rename_i h1 h2 h3
        rw [Bool.or_eq_true, not_or, Bool.not_eq_true, Bool.not_eq_true] at h3
        have := (tell_len (wt := wt ++ [m]) (by simp; omega) (dis_append h.dis m h3.2) m.st.toNat (atN nx m.st.toNat)).2
        rw [List.length_append] at this
        exact this
end Go.Proofs.Ytondgdacjbfihaa
