/-
  Pieces, plain: what a Put does to bytes; cuts of texts.
-/
import Derived.Test.YtgngdgiipifacaaSf
namespace Go.Proofs.Ytgngdgiipifacaa
open Go.RowKit
set_option linter.unusedVariables false
set_option linter.unusedSimpArgs false
set_option maxRecDepth 100000

theorem sum_part {α : Type} (f : α → Bool) (g : α → Nat) : ∀ l : List α, (l.map g).sum = ((l.filter f).map g).sum + ((l.filter fun x => !f x).map g).sum
  | [] => rfl
  | x :: l => by
    have ih := sum_part f g l
    rw [List.map_cons, List.sum_cons, ih]
    cases hf : f x with
    | true => rw [List.filter_cons_of_pos hf, List.filter_cons_of_neg (by rw [hf]; decide), List.map_cons, List.sum_cons]; omega
    | false => rw [List.filter_cons_of_neg (by rw [hf]; decide), List.filter_cons_of_pos (by rw [hf]; rfl), List.map_cons, List.sum_cons]; omega
theorem inRow_iff {l r : List Pc} (hl : (l.map (·.ts)).Nodup) (hlen : l.length ≤ 100000) (h : IsRow l r) {x : Pc} (hx : x ∈ l) : inRow r x = true ↔ x ∈ r := by
  have hle := (Seg.of_row h).le hl
  have hne := h.ne
  unfold inRow
  rw [decide_eq_true_iff, getElem!_pos r 0 hne]
  constructor
  · intro hd
    have e : r[(x.ts - r[0].ts).toNat].ts = x.ts := by
      rw [h.ts _ hd, UInt32.ofNat_toNat, UInt32.add_comm, UInt32.sub_add_cancel]
    rw [← same_ts hl (h.mem _ (List.getElem_mem hd)) hx e]
    exact List.getElem_mem hd
  · intro hm
    obtain ⟨i, hi, rfl⟩ := List.getElem_of_mem hm
    rw [h.ts i hi]
    have : (r[0].ts + UInt32.ofNat i - r[0].ts).toNat = i := by
      simp only [UInt32.toNat_sub, UInt32.toNat_add, UInt32.toNat_ofNat']
      have := r[0].ts.toNat_lt
      omega
    omega
theorem nodup_of_ts {l : List Pc} (hl : (l.map (·.ts)).Nodup) : l.Nodup := by
  rw [List.nodup_iff_pairwise_ne, List.pairwise_iff_getElem] at *
  intro i j hi hj hij e
  exact hl i j (by rw [List.length_map]; exact hi) (by rw [List.length_map]; exact hj) hij (by rw [List.getElem_map, List.getElem_map, e])
theorem row_perm {l r : List Pc} (hl : (l.map (·.ts)).Nodup) (hlen : l.length ≤ 100000) (h : IsRow l r) : List.Perm (l.filter (inRow r)) r := by
  rw [List.perm_ext_iff_of_nodup (List.Nodup.sublist List.filter_sublist (nodup_of_ts hl)) ((Seg.of_row h).nodup hl)]
  intro x
  rw [List.mem_filter]
  constructor
  · rintro ⟨h1, h2⟩; exact (inRow_iff hl hlen h h1).1 h2
  · intro hx; exact ⟨h.mem x hx, (inRow_iff hl hlen h (h.mem x hx)).2 hx⟩
theorem bytes_split {l r : List Pc} (hl : (l.map (·.ts)).Nodup) (hlen : l.length ≤ 100000) (h : IsRow l r) : bytesL l = bytesL (keepL r l) + bytesL r := by
  have h1 := sum_part (inRow r) (fun x : Pc => x.tx.size) l
  have h2 := ((row_perm hl hlen h).map (fun x : Pc => x.tx.size)).sum_nat
  unfold bytesL keepL
  omega
theorem len_part {α : Type} (f : α → Bool) : ∀ l : List α, l.length = (l.filter f).length + (l.filter fun x => !f x).length
  | [] => rfl
  | x :: l => by
    have ih := len_part f l
    cases hf : f x with
    | true => rw [List.filter_cons_of_pos hf, List.filter_cons_of_neg (by rw [hf]; decide), List.length_cons, List.length_cons]; omega
    | false => rw [List.filter_cons_of_neg (by rw [hf]; decide), List.filter_cons_of_pos (by rw [hf]; rfl), List.length_cons, List.length_cons]; omega
theorem len_split {l r : List Pc} (hl : (l.map (·.ts)).Nodup) (hlen : l.length ≤ 100000) (h : IsRow l r) : l.length = (keepL r l).length + r.length := by
  have h1 := (row_perm hl hlen h).length_eq
  have h2 := len_part (inRow r) l
  unfold keepL
  omega
theorem keep_put {l r : List Pc} {p : Pc} (hl : ((l ++ [p]).map (·.ts)).Nodup) (hlen : (l ++ [p]).length ≤ 100000) (h : IsRow (l ++ [p]) r) (hp : p ∈ r) : keepL r (l ++ [p]) = keepL r l := by
  unfold keepL
  rw [List.filter_append, List.filter_cons_of_neg (by rw [(inRow_iff hl hlen h (by simp)).2 hp]; decide)]
  simp
theorem bytes_add (l : List Pc) (p : Pc) : bytesL (l ++ [p]) = bytesL l + p.tx.size := by unfold bytesL; rw [List.map_append, List.sum_append]; simp
theorem join_size (r : List Pc) : (joinB r).size = bytesL r := by
  unfold joinB bytesL
  show (r.flatMap fun x => x.tx.data.toList).toArray.size = _
  rw [List.size_toArray, List.length_flatMap]
  rfl
theorem bytes_pos {l : List Pc} (h : ∀ x ∈ l, 0 < x.tx.size) (hl : 0 < l.length) : 0 < bytesL l := by
  cases l with
  | nil => simp at hl
  | cons x l =>
    have := h x (List.mem_cons_self ..)
    unfold bytesL
    rw [List.map_cons, List.sum_cons]
    omega
/-- What Put does, in words. -/
theorem putP_cases {l : List Pc} {p : Pc} (hok : OkB l) (hlen : l.length < 999) :
    (((findT l p.ts).isSome = true ∨ p.tx.size = 0) ∧ putP l p = (l, none)) ∨ (findT l p.ts = none ∧ 0 < p.tx.size ∧ rowC (l ++ [p]) p = none ∧ putP l p = (l ++ [p], none)) ∨
    ∃ r, findT l p.ts = none ∧ 0 < p.tx.size ∧ rowC (l ++ [p]) p = some r ∧ IsRow (l ++ [p]) r ∧ p ∈ r ∧ putP l p = (keepL r l, some (joinM r)) := by
  unfold putP
  cases hf : findT l p.ts with
  | some x => exact .inl ⟨.inl rfl, by simp⟩
  | none =>
    by_cases hp : p.tx.size = 0
    · exact .inl ⟨.inr hp, by simp [hp]⟩
    · have hp' : 0 < p.tx.size := by omega
      rw [if_neg (by simp [hp])]
      cases hr : rowC (l ++ [p]) p with
      | none => exact .inr (.inl ⟨rfl, hp', rfl, rfl⟩)
      | some r =>
        obtain ⟨h1, h2⟩ := row_sound (okB_put hok hf hp').nd (by simp) hr
        exact .inr (.inr ⟨r, rfl, hp', rfl, h1, h2, rfl⟩)
theorem putP_ok {l : List Pc} (p : Pc) (hok : OkB l) (hlen : l.length < 999) : OkB (putP l p).1 ∧ (putP l p).1.length ≤ l.length + 1 := by
  rcases putP_cases (p := p) hok hlen with ⟨-, e⟩ | ⟨h1, h2, -, e⟩ | ⟨r, h1, h2, -, h3, h4, e⟩
  · rw [e]; exact ⟨hok, Nat.le_succ _⟩
  · rw [e]; exact ⟨okB_put hok h1 h2, by simp⟩
  · rw [e]; exact ⟨okB_filter hok _, by have := keep_le r l; show (keepL r l).length ≤ _; omega⟩
/-- What Put does to bytes. -/
theorem putP_bytes {l : List Pc} (p : Pc) (hok : OkB l) (hlen : l.length < 999) :
    ((putP l p).2.isSome = true ∨ l.length < (putP l p).1.length → bytesL l + p.tx.size = bytesL (putP l p).1 + ((putP l p).2.getD zeroMg).tx.size) ∧ (¬ ((putP l p).2.isSome = true ∨ l.length < (putP l p).1.length) → bytesL (putP l p).1 = bytesL l) ∧ ((putP l p).2.isSome = decide (0 < ((putP l p).2.getD zeroMg).tx.size)) := by
  rcases putP_cases (p := p) hok hlen with ⟨-, e⟩ | ⟨h1, h2, -, e⟩ | ⟨r, h1, h2, -, h3, h4, e⟩
  · rw [e]; exact ⟨fun h => by rcases h with h | h; cases h; exact absurd h (Nat.lt_irrefl _), fun _ => rfl, rfl⟩
  · rw [e]; exact ⟨fun _ => by show _ = bytesL (l ++ [p]) + 0; rw [bytes_add]; rfl, fun h => absurd (.inr (by simp)) h, rfl⟩
  · rw [e]
    have hok2 := okB_put hok h1 h2
    have hl2 : (l ++ [p]).length ≤ 100000 := by rw [List.length_append, List.length_singleton]; omega
    have hb := bytes_split hok2.nd hl2 h3
    rw [keep_put hok2.nd hl2 h3 h4, bytes_add] at hb
    have hj : (joinM r).tx.size = bytesL r := join_size r
    refine ⟨fun _ => ?_, fun h => absurd (.inl rfl) h, ?_⟩
    · show _ = bytesL (keepL r l) + (joinM r).tx.size
      rw [hj]; exact hb
    · show true = decide (0 < (joinM r).tx.size)
      rw [hj]
      exact (decide_eq_true (bytes_pos (fun x hx => hok2.tx x (h3.mem x hx)) h3.ne)).symm

/-! ### Cuts -/
def cutR (m : Nat) : Nat → ByteArray → List ByteArray
  | 0, x => [x]
  | n + 1, x => if m < x.size then x.extract 0 m :: cutR m n (x.extract m x.size) else [x]
def cutL (s : ByteArray) (m : Nat) : List ByteArray := cutR m s.size s
def catB (l : List ByteArray) : ByteArray := ⟨(l.flatMap fun x => x.data.toList).toArray⟩
theorem ext_back (x : ByteArray) (m : Nat) : (x.extract m x.size).size = x.size - m := by rw [ByteArray.size_extract, Nat.min_self]
theorem cutR_step {m n : Nat} {x : ByteArray} (hm : 0 < m) (hn : x.size ≤ n) (hx : m < x.size) : cutR m n x = x.extract 0 m :: cutR m (x.extract m x.size).size (x.extract m x.size) := by
  have fuel : ∀ (n k : Nat) (y : ByteArray), y.size ≤ n → y.size ≤ k → cutR m n y = cutR m k y := by
    intro n
    induction n with
    | zero =>
      intro k y h1 h2
      cases k with
      | zero => rfl
      | succ k => unfold cutR; rw [if_neg (by omega)]
    | succ n ih =>
      intro k y h1 h2
      cases k with
      | zero => unfold cutR; rw [if_neg (by omega)]
      | succ k =>
        unfold cutR
        by_cases h : m < y.size
        · rw [if_pos h, if_pos h, ih k _ (by rw [ext_back]; omega) (by rw [ext_back]; omega)]
        · rw [if_neg h, if_neg h]
  obtain ⟨n, rfl⟩ : ∃ k, n = k + 1 := ⟨n - 1, by omega⟩
  conv => lhs; unfold cutR
  rw [if_pos hx, fuel n (x.extract m x.size).size _ (by rw [ext_back]; omega) (Nat.le_refl _)]
theorem cutL_step {m : Nat} {x : ByteArray} (hm : 0 < m) (hx : m < x.size) : cutL x m = x.extract 0 m :: cutL (x.extract m x.size) m := cutR_step hm (Nat.le_refl _) hx
theorem cutL_last {m : Nat} {x : ByteArray} (hx : ¬ m < x.size) : cutL x m = [x] := by
  unfold cutL
  cases h : x.size with
  | zero => rfl
  | succ n => unfold cutR; rw [if_neg (by omega)]
theorem cutL_ind {m : Nat} (hm : 0 < m) (P : ByteArray → Prop) (h1 : ∀ x, ¬ m < x.size → P x) (h2 : ∀ x, m < x.size → P (x.extract m x.size) → P x) : ∀ x, P x := by
  have : ∀ n (x : ByteArray), x.size ≤ n → P x := by
    intro n
    induction n with
    | zero => intro x hx; exact h1 x (by omega)
    | succ n ih =>
      intro x hx
      by_cases h : m < x.size
      · exact h2 x h (ih _ (by rw [ext_back]; omega))
      · exact h1 x h
  exact fun x => this x.size x (Nat.le_refl _)
theorem catB_cons (x : ByteArray) (l : List ByteArray) : catB (x :: l) = x ++ catB l := by
  apply ByteArray.ext
  rw [ByteArray.data_append]
  unfold catB
  simp
theorem catB_one (x : ByteArray) : catB [x] = x := by
  apply ByteArray.ext
  unfold catB
  simp
theorem ext_cat {x : ByteArray} {m : Nat} (hm : m ≤ x.size) : x.extract 0 m ++ x.extract m x.size = x := by
  have h := ByteArray.extract_eq_extract_append_extract (a := x) (i := 0) (k := x.size) m (Nat.zero_le _) hm
  rw [← h, ByteArray.extract_zero_size]
theorem cut_cat {m : Nat} (hm : 0 < m) : ∀ x, catB (cutL x m) = x := cutL_ind hm _ (fun x hx => by rw [cutL_last hx, catB_one]) (fun x hx ih => by rw [cutL_step hm hx, catB_cons, ih, ext_cat (by omega)])
theorem cut_len {m : Nat} (hm : 0 < m) : ∀ x, (cutL x m).length ≤ x.size / m + 1 := cutL_ind hm _ (fun x hx => by rw [cutL_last hx]; simp) (fun x hx ih => by
  rw [cutL_step hm hx, List.length_cons]
  rw [ext_back] at ih
  have : x.size / m = (x.size - m) / m + 1 := by rw [← Nat.add_div_right _ hm]; congr 1; omega
  omega)
theorem cut_pos {m : Nat} (hm : 0 < m) : ∀ x, 0 < (cutL x m).length := cutL_ind hm _ (fun x hx => by rw [cutL_last hx]; simp) (fun x hx _ => by rw [cutL_step hm hx]; simp)
theorem cut_each {m : Nat} (hm : 0 < m) : ∀ x : ByteArray, 0 < x.size → ∀ y ∈ cutL x m, 0 < y.size ∧ y.size ≤ m := cutL_ind hm _ (fun x hx h y hy => by rw [cutL_last hx] at hy; rw [List.mem_singleton.1 hy]; omega) (fun x hx ih h y hy => by
  rw [cutL_step hm hx] at hy
  rcases List.mem_cons.1 hy with rfl | hy
  · rw [ByteArray.size_extract]; omega
  · exact ih (by rw [ext_back]; omega) y hy)
end Go.Proofs.Ytgngdgiipifacaa
