/-
  Pieces of one message, taken out of a row one by one and put into a bag: plain.
-/
import Derived.Test.YtgngdgiipifacaaSx
import Derived.Test.YtgngdgiipifacaaSk
import Derived.Test.YtgngdgiipifacaaSn
namespace Go.Proofs.Ytgngdgiipifacaa
open Go.RowKit
set_option linter.unusedVariables false
set_option linter.unusedSimpArgs false
set_option maxRecDepth 100000

theorem bytes_le {l : List Pc} (h : ∀ x ∈ l, x.tx.size ≤ 1000) : bytesL l ≤ 1000 * l.length := by
  induction l with
  | nil => exact Nat.le_refl _
  | cons x l ih =>
    have h1 := ih fun y hy => h y (List.mem_cons_of_mem _ hy)
    have h2 := h x (List.mem_cons_self ..)
    unfold bytesL at *
    rw [List.map_cons, List.sum_cons, List.length_cons]
    omega
theorem mem_erase {l : List Nat} (h : l.Nodup) {k : Nat} (hk : k < l.length) (x : Nat) : x ∈ l.take k ++ l.drop (k + 1) ↔ x ∈ l ∧ x ≠ l[k] := by
  have e : l = l.take k ++ l[k] :: l.drop (k + 1) := by rw [← List.drop_eq_getElem_cons hk, List.take_append_drop]
  have h' := h
  rw [e] at h'
  rw [List.nodup_append] at h'
  obtain ⟨h1, h2, h3⟩ := h'
  rw [List.nodup_cons] at h2
  constructor
  · intro hx
    refine ⟨?_, ?_⟩
    · rcases List.mem_append.1 hx with hx | hx
      · exact List.mem_of_mem_take hx
      · exact List.mem_of_mem_drop hx
    · intro he
      rcases List.mem_append.1 hx with hx | hx
      · exact h3 x hx _ (List.mem_cons_self ..) he
      · exact h2.1 (he ▸ hx)
  · rintro ⟨hx, hne⟩
    rw [e] at hx
    rcases List.mem_append.1 hx with hx | hx
    · exact List.mem_append.2 (.inl hx)
    · rcases List.mem_cons.1 hx with hx | hx
      · exact absurd hx hne
      · exact List.mem_append.2 (.inr hx)
theorem nodup_erase {α : Type} {l : List α} (h : l.Nodup) (k : Nat) : (l.take k ++ l.drop (k + 1)).Nodup := by
  rw [← List.eraseIdx_eq_take_drop_succ]
  exact List.Nodup.sublist (List.eraseIdx_sublist ..) h
theorem len_erase {α : Type} {l : List α} {k : Nat} (hk : k < l.length) : (l.take k ++ l.drop (k + 1)).length = l.length - 1 := by
  rw [List.length_append, List.length_take, List.length_drop]
  omega
/-- What is left of the numbers, and what was put in. -/
structure BkI (pc : Nat → Pc) (m : Nat) (O : List Pc) (left d : List Nat) : Prop where
  nd : left.Nodup
  lt : ∀ i ∈ left, i < m
  dl : ∀ i ∈ d, i < m ∧ i ∉ left
  all : ∀ i, i < m → i ∈ left ∨ i ∈ d
  len : left.length + d.length = m
  ok : OkB (O ++ d.map pc)
section
variable {pc : Nat → Pc} {m : Nat} {f : UInt32} {O : List Pc} {left d : List Nat}
theorem BkI.mix (hf : Fam pc m f) (hO : ∀ x ∈ O, Frn pc m f x) (h : BkI pc m O left d) : Mix pc m f (O ++ d.map pc) := by
  intro x hx
  rcases List.mem_append.1 hx with hx | hx
  · exact .inr (hO x hx)
  · obtain ⟨i, hi, rfl⟩ := List.mem_map.1 hx
    exact .inl ⟨i, (h.dl i hi).1, rfl⟩
theorem BkI.new (hf : Fam pc m f) (hO : ∀ x ∈ O, Frn pc m f x) (h : BkI pc m O left d) {n : Nat} (hn : n ∈ left) : pc n ∉ O ++ d.map pc := by
  intro hx
  have hn1 := h.lt n hn
  rcases List.mem_append.1 hx with hx | hx
  · exact (hO _ hx).2 n hn1 (hf.ts n hn1)
  · obtain ⟨i, hi, e⟩ := List.mem_map.1 hx
    have := hf.inj (h.dl i hi).1 hn1 e
    subst this
    exact (h.dl _ hi).2 hn
theorem BkI.wait (hf : Fam pc m f) (hO : ∀ x ∈ O, Frn pc m f x) (ht : ∀ i, i < m → 0 < (pc i).tx.size) (h : BkI pc m O left d) {k : Nat} (hk : k < left.length) (h2 : 1 < left.length) :
    putP (O ++ d.map pc) (pc left[k]) = (O ++ (d ++ [left[k]]).map pc, none) ∧ BkI pc m O (left.take k ++ left.drop (k + 1)) (d ++ [left[k]]) ∧ putP (O ++ (d ++ [left[k]]).map pc) (pc left[k]) = (O ++ (d ++ [left[k]]).map pc, none) := by
  have hn : left[k] ∈ left := List.getElem_mem hk
  have hn1 := h.lt _ hn
  have hx := h.new hf hO hn
  obtain ⟨i, hi⟩ : ∃ i, i ∈ left.take k ++ left.drop (k + 1) := List.exists_mem_of_length_pos (by rw [len_erase hk]; omega)
  obtain ⟨hi1, hi2⟩ := (mem_erase h.nd hk i).1 hi
  have e : O ++ (d ++ [left[k]]).map pc = (O ++ d.map pc) ++ [pc left[k]] := by simp
  have hfn := hf.new (h.mix hf hO) hn1 hx
  have hok := okB_put h.ok hfn (ht _ hn1)
  refine ⟨?_, ⟨nodup_erase h.nd k, fun j hj => h.lt j ((mem_erase h.nd hk j).1 hj).1, ?_, ?_, ?_, by rw [e]; exact hok⟩, ?_⟩
  · rw [e]
    exact hf.put_wait h.ok (h.mix hf hO) hn1 hx (ht _ hn1) (h.lt i hi1) hi2 (h.new hf hO hi1)
  · intro j hj
    rcases List.mem_append.1 hj with hj | hj
    · exact ⟨(h.dl j hj).1, fun hq => (h.dl j hj).2 ((mem_erase h.nd hk j).1 hq).1⟩
    · rw [List.mem_singleton.1 hj]
      exact ⟨hn1, fun hq => ((mem_erase h.nd hk _).1 hq).2 rfl⟩
  · intro j hj
    by_cases e : j = left[k]
    · exact .inr (List.mem_append.2 (.inr (by rw [e]; exact List.mem_singleton.2 rfl)))
    · rcases h.all j hj with hq | hq
      · exact .inl ((mem_erase h.nd hk j).2 ⟨hq, e⟩)
      · exact .inr (List.mem_append.2 (.inl hq))
  · have := h.len
    rw [len_erase hk, List.length_append, List.length_singleton]
    omega
  · rw [e]
    unfold putP
    rw [find_append, hfn, find_one, if_pos rfl]
    rfl
theorem BkI.last (hf : Fam pc m f) (hO : ∀ x ∈ O, Frn pc m f x) (ht : ∀ i, i < m → 0 < (pc i).tx.size) (h : BkI pc m O left d) {k : Nat} (hk : k < left.length) (h2 : left.length = 1) :
    putP (O ++ d.map pc) (pc left[k]) = (O, some (joinM ((List.range m).map pc))) := by
  obtain rfl : k = 0 := by omega
  have hn : left[0] ∈ left := List.getElem_mem hk
  have hn1 := h.lt _ hn
  refine hf.put_done hO (fun i hi => (h.dl i hi).1) h.ok hn1 (fun hq => (h.dl _ hq).2 hn) (ht _ hn1) fun i hi => ?_
  rcases h.all i hi with hq | hq
  · obtain ⟨x, hx⟩ := List.length_eq_one_iff.1 h2
    subst hx
    exact .inl (List.mem_singleton.1 hq)
  · exact .inr hq
theorem BkI.start (hO : OkB O) : BkI pc m O (List.range m) [] :=
  ⟨List.nodup_range, fun i hi => List.mem_range.1 hi, (by simp), fun i hi => .inl (List.mem_range.2 hi), (by simp), by simpa using hO⟩
theorem BkI.bytes (hO : ∀ x ∈ O, x.tx.size ≤ 1000) (ht : ∀ i, i < m → (pc i).tx.size ≤ 1000) (h : BkI pc m O left d) : bytesL (O ++ d.map pc) ≤ 1000 * (O.length + d.length) ∧ (O ++ d.map pc).length = O.length + d.length := by
  have hl : (O ++ d.map pc).length = O.length + d.length := by rw [List.length_append, List.length_map]
  refine ⟨?_, hl⟩
  rw [← hl]
  refine bytes_le fun x hx => ?_
  rcases List.mem_append.1 hx with hx | hx
  · exact hO x hx
  · obtain ⟨i, hi, rfl⟩ := List.mem_map.1 hx
    exact ht i (h.dl i hi).1
end
/-- The pieces that the law makes of the cuts of a text. -/
def pcOf (L : List ByteArray) (f : UInt32) (fr : Bool) (st ss : UInt16) (pp : UInt32) (i : Nat) : Pc := ⟨f + UInt32.ofNat i, decide (i = 0), decide (i + 1 = L.length), fr, st, ss, pp, L[i]!⟩
theorem fam_of (L : List ByteArray) (f : UInt32) (fr : Bool) (st ss : UInt16) (pp : UInt32) (h0 : 0 < L.length) (h1 : L.length ≤ 1000) : Fam (pcOf L f fr st ss pp) L.length f :=
  ⟨h0, h1, fun _ _ => rfl, fun _ _ => rfl, fun _ _ => rfl, fun i _ => by simp [kinB, pcOf]⟩
theorem pcOf_tx (L : List ByteArray) (f : UInt32) (fr : Bool) (st ss : UInt16) (pp : UInt32) {m : Nat} (h : ∀ y ∈ L, 0 < y.size ∧ y.size ≤ m) (hm : m ≤ 1000) : ∀ i, i < L.length → 0 < (pcOf L f fr st ss pp i).tx.size ∧ (pcOf L f fr st ss pp i).tx.size ≤ 1000 := by
  intro i hi
  have e : (pcOf L f fr st ss pp i).tx = L[i] := getElem!_pos L i hi
  rw [e]
  have := h _ (List.getElem_mem hi)
  omega
theorem msg_of (L : List ByteArray) (f : UInt32) (fr : Bool) (st ss : UInt16) (pp : UInt32) (h0 : 0 < L.length) (h1 : L.length ≤ 1000) : joinM ((List.range L.length).map (pcOf L f fr st ss pp)) = ⟨f, fr, st, ss, pp, catB L⟩ := by
  rw [(fam_of L f fr st ss pp h0 h1).msg, Fam.text (L := L) (fun i hi => getElem!_pos L i hi)]
  rfl
def oTx : ByteArray := ⟨#[111, 116, 104, 101, 114]⟩
def otherP (f : UInt32) (fr : Bool) (st : UInt16) : Pc := ⟨f - 1, true, false, !fr, st, 0, 0, oTx⟩
theorem other_frn (L : List ByteArray) (f : UInt32) (fr : Bool) (st ss : UInt16) (pp : UInt32) (h1 : L.length ≤ 1000) : ∀ x ∈ [otherP f fr st], Frn (pcOf L f fr st ss pp) L.length f x := by
  intro x hx
  rw [List.mem_singleton.1 hx]
  refine ⟨?_, fun i hi e => ?_⟩
  · cases fr <;> simp [kinB, pcOf, otherP]
  · have h2 : (f - 1 - f).toNat = (f + UInt32.ofNat i - f).toNat := by rw [← e]; rfl
    rw [fwd_ts (by omega)] at h2
    simp only [UInt32.toNat_sub, UInt32.toNat_ofNat'] at h2
    have := f.toNat_lt
    have h3 : (1 : UInt32).toNat = 1 := rfl
    omega
theorem other_put (f : UInt32) (fr : Bool) (st : UInt16) : putP [] (otherP f fr st) = ([otherP f fr st], none) := by
  unfold putP
  have h0 : (findT [] (otherP f fr st).ts).isSome = false := rfl
  have h1 : decide ((otherP f fr st).tx.size = 0) = false := rfl
  rw [if_neg (by rw [h0, h1]; decide), List.nil_append]
  have hr : rowC [otherP f fr st] (otherP f fr st) = none := by
    unfold rowC
    have hb : backC [otherP f fr st] [otherP f fr st].length (otherP f fr st) = some (otherP f fr st) := by
      unfold backC; exact if_pos rfl
    rw [hb]
    simp only
    have e : findT [otherP f fr st] ((otherP f fr st).ts + 1) = none := by
      rw [find_none]
      intro x hx
      rw [List.mem_singleton.1 hx]
      intro e
      have h2 := congrArg UInt32.toNat e
      have h3 : (1 : UInt32).toNat = 1 := rfl
      rw [UInt32.toNat_add] at h2
      have := (otherP f fr st).ts.toNat_lt
      omega
    unfold fwdC
    rw [if_neg (by show ¬ (false = true); decide)]
    show (match findT [otherP f fr st] ((otherP f fr st).ts + 1) with | none => none | some b => _) = none
    rw [e]
  rw [hr]
theorem oTx_size : oTx.size = 5 := rfl
theorem other_ok (f : UInt32) (fr : Bool) (st : UInt16) : OkB [otherP f fr st] := ⟨by simp, fun x hx => by rw [List.mem_singleton.1 hx]; show 0 < oTx.size; rw [oTx_size]; decide⟩
theorem other_len (f : UInt32) (fr : Bool) (st : UInt16) : ∀ x ∈ [otherP f fr st], x.tx.size ≤ 1000 := fun x hx => by rw [List.mem_singleton.1 hx]; show oTx.size ≤ 1000; rw [oTx_size]; decide
theorem other_bytes (f : UInt32) (fr : Bool) (st : UInt16) : bytesL [otherP f fr st] = 5 := rfl
end Go.Proofs.Ytgngdgiipifacaa
