/-
  Pieces of two messages, taken out of a row one by one and put into a bag: plain.
-/
import Derived.Test.YtgngdgiipifacaaSz
namespace Go.Proofs.Ytgngdgiipifacaa
open Go.RowKit
set_option linter.unusedVariables false
set_option linter.unusedSimpArgs false
set_option maxRecDepth 100000

/-- What is in a row but at one place. -/
theorem mem_eraseA {α : Type} {l : List α} (h : l.Nodup) {k : Nat} (hk : k < l.length) (x : α) : x ∈ l.take k ++ l.drop (k + 1) ↔ x ∈ l ∧ x ≠ l[k] := by
  have e : l = l.take k ++ l[k] :: l.drop (k + 1) := by rw [← List.drop_eq_getElem_cons hk, List.take_append_drop]
  have h' := h
  rw [e] at h'
  rw [List.nodup_append] at h'
  obtain ⟨h1, h2, h3⟩ := h'
  rw [List.nodup_cons] at h2
  constructor
  · intro hx
    refine ⟨?_, ?_⟩
    · rcases List.mem_append.1 hx with hx | hx
      · exact List.mem_of_mem_take hx
      · exact List.mem_of_mem_drop hx
    · intro he
      rcases List.mem_append.1 hx with hx | hx
      · exact h3 x hx _ (List.mem_cons_self ..) he
      · exact h2.1 (he ▸ hx)
  · rintro ⟨hx, hne⟩
    rw [e] at hx
    rcases List.mem_append.1 hx with hx | hx
    · exact List.mem_append.2 (.inl hx)
    · rcases List.mem_cons.1 hx with hx | hx
      · exact absurd hx hne
      · exact List.mem_append.2 (.inr hx)
section
variable {pc : Nat → Pc} {m : Nat} {f : UInt32} {l : List Pc}
theorem Fam.put_full (h : Fam pc m f) (hok : OkB l) (hm : Mix pc m f l) {n : Nat} (hn : n < m) (hx : pc n ∉ l) (ht : 0 < (pc n).tx.size) (hall : ∀ i, i < m → i = n ∨ pc i ∈ l) :
    putP l (pc n) = (keepL ((List.range m).map pc) l, some (joinM ((List.range m).map pc))) := by
  have hf := h.new hm hn hx
  have hok2 := okB_put hok hf ht
  rw [putP_new hf ht, h.hasRow hok2.nd (fun i hi => by
    rcases hall i hi with rfl | hi
    · simp
    · exact List.mem_append.2 (.inl hi)) hn]
theorem Fam.mem_keep (h : Fam pc m f) (hm : Mix pc m f l) (x : Pc) : x ∈ keepL ((List.range m).map pc) l ↔ x ∈ l ∧ ∀ i, i < m → x ≠ pc i := by
  unfold keepL
  rw [List.mem_filter]
  constructor
  · rintro ⟨h1, h2⟩
    refine ⟨h1, fun i hi e => ?_⟩
    subst e
    rw [(h.inRow (pc i)).2 ⟨i, hi, h.ts i hi⟩] at h2
    cases h2
  · rintro ⟨h1, h2⟩
    refine ⟨h1, ?_⟩
    cases hi : Go.Proofs.Ytgngdgiipifacaa.inRow ((List.range m).map pc) x with
    | false => rfl
    | true =>
      obtain ⟨i, hi1, hi2⟩ := (h.inRow x).1 hi
      rcases hm x h1 with ⟨j, hj, e⟩ | hf
      · exact absurd e (h2 j hj)
      · exact absurd hi2 (hf.2 i hi1)
end
/-- Two messages, of one another's pieces none is. -/
structure Two (pa : Nat → Pc) (a : Nat) (fa : UInt32) (pb : Nat → Pc) (b : Nat) (fb : UInt32) : Prop where
  A : Fam pa a fa
  B : Fam pb b fb
  AB : ∀ j, j < b → Frn pa a fa (pb j)
  BA : ∀ i, i < a → Frn pb b fb (pa i)
  ta : ∀ i, i < a → 0 < (pa i).tx.size ∧ (pa i).tx.size ≤ 1000
  tb : ∀ j, j < b → 0 < (pb j).tx.size ∧ (pb j).tx.size ≤ 1000
theorem Two.symm {pa pb : Nat → Pc} {a b : Nat} {fa fb : UInt32} (h : Two pa a fa pb b fb) : Two pb b fb pa a fa := ⟨h.B, h.A, h.BA, h.AB, h.tb, h.ta⟩
theorem Two.ne {pa pb : Nat → Pc} {a b : Nat} {fa fb : UInt32} (h : Two pa a fa pb b fb) {i j : Nat} (hi : i < a) (hj : j < b) : pa i ≠ pb j := fun e => (h.AB j hj).2 i hi (by rw [← e]; exact h.A.ts i hi)
/-- How one of the two stands: told, or a piece of it is still to come. -/
structure Half (pc : Nat → Pc) (m : Nat) (rest bag : List Pc) (told : Bool) : Prop where
  no : told = false → (∃ i, i < m ∧ pc i ∈ rest) ∧ ∀ i, i < m → pc i ∈ rest ∨ pc i ∈ bag
  yes : told = true → ∀ i, i < m → pc i ∉ rest ∧ pc i ∉ bag
structure MxI (pa : Nat → Pc) (a : Nat) (pb : Nat → Pc) (b : Nat) (rest bag : List Pc) (ta tb : Bool) : Prop where
  nd : rest.Nodup
  mem : ∀ x ∈ rest, (∃ i, i < a ∧ x = pa i) ∨ ∃ j, j < b ∧ x = pb j
  ok : OkB bag
  bm : ∀ x ∈ bag, x ∉ rest ∧ ((∃ i, i < a ∧ x = pa i) ∨ ∃ j, j < b ∧ x = pb j)
  A : Half pa a rest bag ta
  B : Half pb b rest bag tb
  len : bag.length + rest.length ≤ a + b
section
variable {pa pb : Nat → Pc} {a b : Nat} {fa fb : UInt32} {rest bag : List Pc} {ta tb : Bool}
theorem MxI.symm (h : MxI pa a pb b rest bag ta tb) : MxI pb b pa a rest bag tb ta := ⟨h.nd, fun x hx => (h.mem x hx).symm, h.ok, fun x hx => ⟨(h.bm x hx).1, (h.bm x hx).2.symm⟩, h.B, h.A, by have := h.len; omega⟩
theorem MxI.mix (ht : Two pa a fa pb b fb) (h : MxI pa a pb b rest bag ta tb) : Mix pa a fa bag := fun x hx => by
  rcases (h.bm x hx).2 with h1 | ⟨j, hj, rfl⟩
  · exact .inl h1
  · exact .inr (ht.AB j hj)
/-- A piece of the first one is put in. -/
theorem MxI.stepA (ht : Two pa a fa pb b fb) (h : MxI pa a pb b rest bag ta tb) {k : Nat} (hk : k < rest.length) {n : Nat} (hn : n < a) (e : rest[k] = pa n) :
    ∃ bag' o ta', putP bag (pa n) = (bag', o) ∧ MxI pa a pb b (rest.take k ++ rest.drop (k + 1)) bag' ta' tb ∧ ((o = none ∧ ta' = ta) ∨ (o = some (joinM ((List.range a).map pa)) ∧ ta = false ∧ ta' = true)) := by
  have hr : pa n ∈ rest := e ▸ List.getElem_mem hk
  have hta : ta = false := by
    cases hq : ta with
    | false => rfl
    | true => exact absurd hr (h.A.yes hq n hn).1
  obtain ⟨-, hall⟩ := h.A.no hta
  have hx : pa n ∉ bag := fun hq => (h.bm _ hq).1 hr
  have hmem := mem_eraseA h.nd hk
  rw [e] at hmem
  have hmx := h.mix ht
  have hnew := ht.A.new hmx hn hx
  have hmemR : ∀ x ∈ rest.take k ++ rest.drop (k + 1), (∃ i, i < a ∧ x = pa i) ∨ ∃ j, j < b ∧ x = pb j := fun x hq => h.mem x ((hmem x).1 hq).1
  have hlen := len_erase hk
  by_cases hex : ∃ i, i < a ∧ pa i ∈ rest.take k ++ rest.drop (k + 1)
  · obtain ⟨i, hi, hie⟩ := hex
    obtain ⟨hi1, hi2⟩ := (hmem _).1 hie
    have hib : pa i ∉ bag := fun hq => (h.bm _ hq).1 hi1
    refine ⟨bag ++ [pa n], none, ta, ht.A.put_wait h.ok hmx hn hx (ht.ta n hn).1 hi (fun e => hi2 (by rw [e])) hib, ⟨nodup_erase h.nd k, hmemR, okB_put h.ok hnew (ht.ta n hn).1, fun x hq => ?_, ⟨fun _ => ⟨⟨i, hi, hie⟩, fun j hj => ?_⟩, fun hq => absurd hq (by rw [hta]; decide)⟩, ⟨fun hq => ?_, fun hq j hj => ?_⟩, ?_⟩, .inl ⟨rfl, rfl⟩⟩
    · rcases List.mem_append.1 hq with hq | hq
      · exact ⟨fun hz => (h.bm x hq).1 ((hmem x).1 hz).1, (h.bm x hq).2⟩
      · rw [List.mem_singleton.1 hq]
        exact ⟨fun hz => ((hmem _).1 hz).2 rfl, .inl ⟨n, hn, rfl⟩⟩
    · by_cases hjn : pa j = pa n
      · exact .inr (List.mem_append.2 (.inr (List.mem_singleton.2 hjn)))
      · rcases hall j hj with hz | hz
        · exact .inl ((hmem _).2 ⟨hz, hjn⟩)
        · exact .inr (List.mem_append.2 (.inl hz))
    · obtain ⟨⟨j, hj, hj2⟩, h4⟩ := h.B.no hq
      refine ⟨⟨j, hj, (hmem _).2 ⟨hj2, (ht.ne hn hj).symm⟩⟩, fun j hj => ?_⟩
      rcases h4 j hj with hz | hz
      · exact .inl ((hmem _).2 ⟨hz, (ht.ne hn hj).symm⟩)
      · exact .inr (List.mem_append.2 (.inl hz))
    · obtain ⟨h5, h6⟩ := h.B.yes hq j hj
      refine ⟨fun hz => h5 ((hmem _).1 hz).1, fun hz => ?_⟩
      rcases List.mem_append.1 hz with hz | hz
      · exact h6 hz
      · exact (ht.ne hn hj).symm (List.mem_singleton.1 hz)
    · rw [hlen, List.length_append, List.length_singleton]
      have := h.len
      omega
  · have hin : ∀ i, i < a → i = n ∨ pa i ∈ bag := fun i hi => by
      by_cases hq : i = n
      · exact .inl hq
      · right
        rcases hall i hi with hz | hz
        · exact absurd ⟨i, hi, (hmem _).2 ⟨hz, fun e => hq (ht.A.inj hi hn e)⟩⟩ hex
        · exact hz
    have hkeep := ht.A.mem_keep hmx
    refine ⟨_, _, true, ht.A.put_full h.ok hmx hn hx (ht.ta n hn).1 hin, ⟨nodup_erase h.nd k, hmemR, okB_filter h.ok _, fun x hq => ?_, ⟨fun hq => (by cases hq), fun _ i hi => ⟨fun hz => hex ⟨i, hi, hz⟩, fun hz => ((hkeep _).1 hz).2 i hi rfl⟩⟩, ⟨fun hq => ?_, fun hq j hj => ?_⟩, ?_⟩, .inr ⟨rfl, hta, rfl⟩⟩
    · have hq' := ((hkeep x).1 hq).1
      exact ⟨fun hz => (h.bm x hq').1 ((hmem x).1 hz).1, (h.bm x hq').2⟩
    · obtain ⟨⟨j, hj, hj2⟩, h4⟩ := h.B.no hq
      refine ⟨⟨j, hj, (hmem _).2 ⟨hj2, (ht.ne hn hj).symm⟩⟩, fun j hj => ?_⟩
      rcases h4 j hj with hz | hz
      · exact .inl ((hmem _).2 ⟨hz, (ht.ne hn hj).symm⟩)
      · exact .inr ((hkeep _).2 ⟨hz, fun i hi => (ht.ne hi hj).symm⟩)
    · obtain ⟨h5, h6⟩ := h.B.yes hq j hj
      exact ⟨fun hz => h5 ((hmem _).1 hz).1, fun hz => h6 ((hkeep _).1 hz).1⟩
    · rw [hlen]
      have := h.len
      have := keep_le ((List.range a).map pa) bag
      omega
theorem MxI.step (ht : Two pa a fa pb b fb) (h : MxI pa a pb b rest bag ta tb) {k : Nat} (hk : k < rest.length) :
    ∃ bag' o ta' tb', putP bag rest[k] = (bag', o) ∧ MxI pa a pb b (rest.take k ++ rest.drop (k + 1)) bag' ta' tb' ∧
      ((o = none ∧ ta'.toNat + tb'.toNat = ta.toNat + tb.toNat) ∨ ((o = some (joinM ((List.range a).map pa)) ∨ o = some (joinM ((List.range b).map pb))) ∧ ta'.toNat + tb'.toNat = ta.toNat + tb.toNat + 1)) := by
  rcases h.mem _ (List.getElem_mem hk) with ⟨n, hn, e⟩ | ⟨n, hn, e⟩
  · obtain ⟨bag', o, ta', h1, h2, h3⟩ := h.stepA ht hk hn e
    refine ⟨bag', o, ta', tb, by rw [e]; exact h1, h2, ?_⟩
    rcases h3 with ⟨h3, rfl⟩ | ⟨h3, rfl, rfl⟩
    · exact .inl ⟨h3, rfl⟩
    · exact .inr ⟨.inl h3, by simp; omega⟩
  · obtain ⟨bag', o, tb', h1, h2, h3⟩ := h.symm.stepA ht.symm hk hn e
    refine ⟨bag', o, ta, tb', by rw [e]; exact h1, h2.symm, ?_⟩
    rcases h3 with ⟨h3, rfl⟩ | ⟨h3, rfl, rfl⟩
    · exact .inl ⟨h3, rfl⟩
    · exact .inr ⟨.inr h3, by simp⟩
theorem MxI.done (ht : Two pa a fa pb b fb) (h : MxI pa a pb b [] bag ta tb) : ta.toNat + tb.toNat = 2 ∧ bag = [] := by
  have h1 : ta = true := by
    cases hq : ta with
    | true => rfl
    | false => obtain ⟨⟨i, _, hi⟩, _⟩ := h.A.no hq; cases hi
  have h2 : tb = true := by
    cases hq : tb with
    | true => rfl
    | false => obtain ⟨⟨i, _, hi⟩, _⟩ := h.B.no hq; cases hi
  refine ⟨by rw [h1, h2]; rfl, ?_⟩
  cases bag with
  | nil => rfl
  | cons x bag =>
    rcases (h.bm x (List.mem_cons_self ..)).2 with ⟨i, hi, rfl⟩ | ⟨j, hj, rfl⟩
    · exact absurd (List.mem_cons_self ..) (h.A.yes h1 i hi).2
    · exact absurd (List.mem_cons_self ..) (h.B.yes h2 j hj).2
theorem MxI.start (ht : Two pa a fa pb b fb) : MxI pa a pb b ((List.range a).map pa ++ (List.range b).map pb) [] false false := by
  have hA : ∀ i, i < a → pa i ∈ (List.range a).map pa ++ (List.range b).map pb := fun i hi => List.mem_append.2 (.inl (List.mem_map.2 ⟨i, List.mem_range.2 hi, rfl⟩))
  have hB : ∀ i, i < b → pb i ∈ (List.range a).map pa ++ (List.range b).map pb := fun i hi => List.mem_append.2 (.inr (List.mem_map.2 ⟨i, List.mem_range.2 hi, rfl⟩))
  refine ⟨?_, fun x hx => ?_, okB_nil, fun x hx => (by cases hx), ⟨fun _ => ⟨⟨0, ht.A.m0, hA 0 ht.A.m0⟩, fun i hi => .inl (hA i hi)⟩, fun hq => (by cases hq)⟩, ⟨fun _ => ⟨⟨0, ht.B.m0, hB 0 ht.B.m0⟩, fun i hi => .inl (hB i hi)⟩, fun hq => (by cases hq)⟩, by simp⟩
  · rw [List.nodup_append]
    refine ⟨?_, ?_, fun x hx y hy e => ?_⟩
    · rw [List.nodup_iff_pairwise_ne, List.pairwise_map]
      exact List.Pairwise.imp_of_mem (fun {i j} hi hj hne e => hne (ht.A.inj (List.mem_range.1 hi) (List.mem_range.1 hj) e)) List.nodup_range
    · rw [List.nodup_iff_pairwise_ne, List.pairwise_map]
      exact List.Pairwise.imp_of_mem (fun {i j} hi hj hne e => hne (ht.B.inj (List.mem_range.1 hi) (List.mem_range.1 hj) e)) List.nodup_range
    · obtain ⟨i, hi, rfl⟩ := List.mem_map.1 hx
      obtain ⟨j, hj, rfl⟩ := List.mem_map.1 hy
      exact ht.ne (List.mem_range.1 hi) (List.mem_range.1 hj) e
  · rcases List.mem_append.1 hx with hx | hx
    · obtain ⟨i, hi, rfl⟩ := List.mem_map.1 hx
      exact .inl ⟨i, List.mem_range.1 hi, rfl⟩
    · obtain ⟨i, hi, rfl⟩ := List.mem_map.1 hx
      exact .inr ⟨i, List.mem_range.1 hi, rfl⟩
theorem MxI.bytes (ht : Two pa a fa pb b fb) (h : MxI pa a pb b rest bag ta tb) : bytesL bag ≤ 1000 * bag.length := by
  refine bytes_le fun x hx => ?_
  rcases (h.bm x hx).2 with ⟨i, hi, rfl⟩ | ⟨j, hj, rfl⟩
  · exact (ht.ta i hi).2
  · exact (ht.tb j hj).2
theorem MxI.size (ht : Two pa a fa pb b fb) (h : MxI pa a pb b rest bag ta tb) {x : Pc} (hx : x ∈ rest) : x.tx.size ≤ 1000 := by
  rcases h.mem x hx with ⟨i, hi, rfl⟩ | ⟨j, hj, rfl⟩
  · exact (ht.ta i hi).2
  · exact (ht.tb j hj).2
end
/-- The pieces of two texts. -/
theorem two_of (LA LB : List ByteArray) (f : UInt32) {m : Nat} (hm : m ≤ 1000) (ha : 0 < LA.length) (hb : 0 < LB.length) (hab : LA.length + LB.length ≤ 1000) (h1 : ∀ y ∈ LA, 0 < y.size ∧ y.size ≤ m) (h2 : ∀ y ∈ LB, 0 < y.size ∧ y.size ≤ m) :
    Two (pcOf LA f false 1 0 0) LA.length f (pcOf LB (f + UInt32.ofNat LA.length) false 1 1 0) LB.length (f + UInt32.ofNat LA.length) := by
  have hne : ∀ i j, i < LA.length → j < LB.length → f + UInt32.ofNat i ≠ f + UInt32.ofNat LA.length + UInt32.ofNat j := fun i j hi hj e => by
    rw [UInt32.add_assoc, ← UInt32.ofNat_add] at e
    have := ofNat_inj (by omega) (by omega) e
    omega
  refine ⟨fam_of LA f false 1 0 0 ha (by omega), fam_of LB _ false 1 1 0 hb (by omega), fun j hj => ⟨rfl, fun i hi e => hne i j hi hj e.symm⟩, fun i hi => ⟨rfl, fun j hj e => hne i j hi hj e⟩, pcOf_tx LA f false 1 0 0 h1 hm, pcOf_tx LB _ false 1 1 0 h2 hm⟩
end Go.Proofs.Ytgngdgiipifacaa
