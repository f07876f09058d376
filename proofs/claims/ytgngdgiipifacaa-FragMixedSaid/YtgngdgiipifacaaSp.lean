/-
  Package frag, plain: pieces, bags, rows of them, and what becomes of a bag. No program is named here.
-/
import Derived.Test.YtgngdgiipifacaaMem
namespace Go.Proofs.Ytgngdgiipifacaa
open Go.RowKit
set_option linter.unusedVariables false
set_option linter.unusedSimpArgs false

/-- A piece: number, begin, end, free, stream, number in its stream, ppid, text. -/
structure Pc where
  ts : UInt32
  bg : Bool
  en : Bool
  fr : Bool
  st : UInt16
  ss : UInt16
  pp : UInt32
  tx : ByteArray
instance : Inhabited Pc := ⟨⟨0, false, false, false, 0, 0, 0, ByteArray.empty⟩⟩
def zeroPc : Pc := ⟨0, false, false, false, 0, 0, 0, ByteArray.empty⟩
def cellsPc (x : Pc) : Array Value := #[.int .u32 (x.ts.toNat : Int), .bool x.bg, .bool x.en, .bool x.fr, .int .u16 (x.st.toNat : Int), .int .u16 (x.ss.toNat : Int), .int .u32 (x.pp.toNat : Int), .string x.tx]
theorem cellsPc_one (x : Pc) : (cellsPc x).all (·.oneCell') = true := by simp [cellsPc, Value.oneCell']
theorem lenPc (x : Pc) : (cellsPc x).toList.length = 8 := rfl
/-- A message that is whole. -/
structure Mg where
  fi : UInt32
  fr : Bool
  st : UInt16
  ss : UInt16
  pp : UInt32
  tx : ByteArray
instance : Inhabited Mg := ⟨⟨0, false, 0, 0, 0, ByteArray.empty⟩⟩
def zeroMg : Mg := ⟨0, false, 0, 0, 0, ByteArray.empty⟩
def cellsMg (x : Mg) : Array Value := #[.int .u32 (x.fi.toNat : Int), .bool x.fr, .int .u16 (x.st.toNat : Int), .int .u16 (x.ss.toNat : Int), .int .u32 (x.pp.toNat : Int), .string x.tx]
theorem cellsMg_one (x : Mg) : (cellsMg x).all (·.oneCell') = true := by simp [cellsMg, Value.oneCell']
theorem lenMg (x : Mg) : (cellsMg x).toList.length = 6 := rfl

def findT (l : List Pc) (t : UInt32) : Option Pc := l.find? fun x => decide (x.ts = t)
def kinB (a b : Pc) : Bool := decide (a.fr = b.fr) && decide (a.st = b.st) && (a.fr || decide (a.ss = b.ss))
def goesB (p q : Pc) : Bool := !p.en && !q.bg && kinB p q
/-- Back to where a row begins. -/
def backC (l : List Pc) : Nat → Pc → Option Pc
  | n, p => if p.bg then some p else match n with
    | 0 => none
    | n + 1 => match findT l (p.ts - 1) with
      | none => none
      | some a => if goesB a p then backC l n a else none
/-- On to where it ends. -/
def fwdC (l : List Pc) : Nat → Pc → List Pc → Option (List Pc)
  | n, p, acc => if p.en then some acc else match n with
    | 0 => none
    | n + 1 => match findT l (p.ts + 1) with
      | none => none
      | some b => if goesB p b then fwdC l n b (acc ++ [b]) else none
def rowC (l : List Pc) (p : Pc) : Option (List Pc) := match backC l l.length p with
  | none => none
  | some q => fwdC l l.length q [q]
def inRow (r : List Pc) (x : Pc) : Bool := decide ((x.ts - r[0]!.ts).toNat < r.length)
def keepL (r l : List Pc) : List Pc := l.filter fun x => !inRow r x
def joinB (r : List Pc) : ByteArray := ⟨(r.flatMap fun x => x.tx.data.toList).toArray⟩
def joinM (r : List Pc) : Mg := ⟨r[0]!.ts, r[0]!.fr, r[0]!.st, r[0]!.ss, r[0]!.pp, joinB r⟩
def putP (l : List Pc) (p : Pc) : List Pc × Option Mg :=
  if (findT l p.ts).isSome || decide (p.tx.size = 0) then (l, none) else match rowC (l ++ [p]) p with
    | none => (l ++ [p], none)
    | some r => (keepL r l, some (joinM r))
def bytesL (l : List Pc) : Nat := (l.map (·.tx.size)).sum
def openL (l : List Pc) : List UInt32 := (l.filter (·.bg)).map (·.ts)
/-- A bag that is right. -/
structure OkB (l : List Pc) : Prop where
  nd : (l.map (·.ts)).Nodup
  tx : ∀ x ∈ l, 0 < x.tx.size

/-! ### Pieces by their numbers -/
theorem find_none {l : List Pc} {t : UInt32} : findT l t = none ↔ ∀ x ∈ l, x.ts ≠ t := by
  unfold findT
  rw [List.find?_eq_none]
  simp
theorem find_mem {l : List Pc} {t : UInt32} {x : Pc} (h : findT l t = some x) : x ∈ l ∧ x.ts = t := by
  unfold findT at h
  exact ⟨List.mem_of_find?_eq_some h, by simpa using List.find?_some h⟩
theorem same_ts {l : List Pc} (h : (l.map (·.ts)).Nodup) {x y : Pc} (hx : x ∈ l) (hy : y ∈ l) (e : x.ts = y.ts) : x = y := by
  induction l with
  | nil => cases hx
  | cons z l ih =>
    rw [List.map_cons, List.nodup_cons] at h
    rcases List.mem_cons.1 hx with e1 | h1
    · rcases List.mem_cons.1 hy with e2 | h2
      · rw [e1, e2]
      · exact absurd (List.mem_map.2 ⟨y, h2, by rw [← e, e1]⟩) h.1
    · rcases List.mem_cons.1 hy with e2 | h2
      · exact absurd (List.mem_map.2 ⟨x, h1, by rw [e, e2]⟩) h.1
      · exact ih h.2 h1 h2
theorem find_some {l : List Pc} (h : (l.map (·.ts)).Nodup) {x : Pc} (hx : x ∈ l) {t : UInt32} (e : x.ts = t) : findT l t = some x := by
  cases hf : findT l t with
  | none => exact absurd e (find_none.1 hf x hx)
  | some y =>
    obtain ⟨h1, h2⟩ := find_mem hf
    rw [same_ts h h1 hx (h2.trans e.symm)]
theorem find_append (l m : List Pc) (t : UInt32) : findT (l ++ m) t = (findT l t).or (findT m t) := by unfold findT; rw [List.find?_append]
theorem find_one (x : Pc) (t : UInt32) : findT [x] t = if x.ts = t then some x else none := by
  unfold findT
  by_cases h : x.ts = t
  · simp [h]
  · simp [h]
theorem okB_nil : OkB [] := ⟨by simp, by simp⟩
theorem okB_put {l : List Pc} {p : Pc} (h : OkB l) (hf : findT l p.ts = none) (hp : 0 < p.tx.size) : OkB (l ++ [p]) := by
  refine ⟨?_, fun x hx => ?_⟩
  · rw [List.map_append, List.nodup_append]
    refine ⟨h.nd, by simp, fun a ha b hb => ?_⟩
    simp only [List.map_cons, List.map_nil, List.mem_singleton] at hb
    obtain ⟨x, hx, rfl⟩ := List.mem_map.1 ha
    rw [hb]
    exact find_none.1 hf x hx
  · rcases List.mem_append.1 hx with hx | hx
    · exact h.tx x hx
    · rw [List.mem_singleton.1 hx]; exact hp
theorem okB_filter {l : List Pc} (h : OkB l) (f : Pc → Bool) : OkB (l.filter f) :=
  ⟨List.Nodup.sublist (List.Sublist.map _ List.filter_sublist) h.nd, fun x hx => h.tx x (List.mem_filter.1 hx).1⟩

/-! ### Kin -/
theorem kin_refl (a : Pc) : kinB a a = true := by simp [kinB]
theorem kin_iff {a b : Pc} : kinB a b = true ↔ a.fr = b.fr ∧ a.st = b.st ∧ (a.fr = true ∨ a.ss = b.ss) := by simp [kinB, and_assoc]
theorem kin_symm {a b : Pc} (h : kinB a b = true) : kinB b a = true := by
  rw [kin_iff] at *
  obtain ⟨h1, h2, h3⟩ := h
  exact ⟨h1.symm, h2.symm, by rcases h3 with h | h; exact .inl (h1 ▸ h); exact .inr h.symm⟩
theorem kin_trans {a b c : Pc} (h : kinB a b = true) (h' : kinB b c = true) : kinB a c = true := by
  rw [kin_iff] at *
  obtain ⟨h1, h2, h3⟩ := h
  obtain ⟨g1, g2, g3⟩ := h'
  refine ⟨h1.trans g1, h2.trans g2, ?_⟩
  rcases h3 with h | h
  · exact .inl h
  · rcases g3 with g | g
    · exact .inl (h1.trans g)
    · exact .inr (h.trans g)
theorem kin_same {a b c : Pc} (h : kinB a b = true) : kinB c a = kinB c b := by
  cases h1 : kinB c a with
  | true => rw [kin_trans h1 h]
  | false =>
    cases h2 : kinB c b with
    | false => rfl
    | true => rw [kin_trans h2 (kin_symm h)] at h1; cases h1
theorem kin_same' {a b c : Pc} (h : kinB a b = true) : kinB a c = kinB b c := by
  cases h1 : kinB a c with
  | true => rw [kin_trans (kin_symm h) h1]
  | false =>
    cases h2 : kinB b c with
    | false => rfl
    | true => rw [kin_trans h h2] at h1; cases h1
theorem goes_iff {p q : Pc} : goesB p q = true ↔ p.en = false ∧ q.bg = false ∧ kinB p q = true := by simp [goesB, and_assoc]

/-! ### Rows -/
/-- A row of a bag. -/
structure IsRow (l r : List Pc) : Prop where
  ne : 0 < r.length
  mem : ∀ x ∈ r, x ∈ l
  ts : ∀ i (h : i < r.length), r[i].ts = r[0].ts + UInt32.ofNat i
  bg : ∀ i (h : i < r.length), r[i].bg = decide (i = 0)
  en : ∀ i (h : i < r.length), r[i].en = decide (i + 1 = r.length)
  kin : ∀ i (h : i < r.length), kinB r[0] r[i] = true
/-- The beginning of one. -/
structure Seg (l r : List Pc) : Prop where
  ne : 0 < r.length
  mem : ∀ x ∈ r, x ∈ l
  ts : ∀ i (h : i < r.length), r[i].ts = r[0].ts + UInt32.ofNat i
  bg : ∀ i (h : i < r.length), r[i].bg = decide (i = 0)
  en : ∀ i (h : i < r.length), i + 1 < r.length → r[i].en = false
  kin : ∀ i (h : i < r.length), kinB r[0] r[i] = true
theorem Seg.one {l : List Pc} {q : Pc} (hq : q ∈ l) (hb : q.bg = true) : Seg l [q] :=
  ⟨by simp, fun x hx => by rw [List.mem_singleton.1 hx]; exact hq, fun i h => by
    have : i = 0 := by simpa using h
    subst this
    show q.ts = q.ts + UInt32.ofNat 0
    rw [show UInt32.ofNat 0 = (0 : UInt32) from rfl, UInt32.add_zero], fun i h => by
    have : i = 0 := by simpa using h
    subst this
    exact hb, fun i h h' => by simp at h', fun i h => by
    have : i = 0 := by simpa using h
    subst this
    exact kin_refl q⟩
theorem Seg.row {l r : List Pc} (h : Seg l r) (he : (r[r.length - 1]'(by have := h.ne; omega)).en = true) : IsRow l r :=
  ⟨h.ne, h.mem, h.ts, h.bg, fun i hi => by
    by_cases e : i + 1 = r.length
    · have e1 : i = r.length - 1 := by omega
      subst e1
      rw [he]; simp [e]
    · rw [h.en i hi (by omega)]; symm; simpa using e, h.kin⟩
theorem Seg.of_row {l r : List Pc} (h : IsRow l r) : Seg l r := ⟨h.ne, h.mem, h.ts, h.bg, fun i hi h' => by rw [h.en i hi]; simp; omega, h.kin⟩
theorem ofNat_succ (i : Nat) : UInt32.ofNat (i + 1) = UInt32.ofNat i + 1 := by
  apply UInt32.toNat_inj.1
  have h1 : (1 : UInt32).toNat = 1 := rfl
  simp only [UInt32.toNat_add, UInt32.toNat_ofNat', h1]
  omega
theorem Seg.next {l r : List Pc} {b : Pc} (h : Seg l r) (hb : b ∈ l) (ht : b.ts = (r[r.length - 1]'(by have := h.ne; omega)).ts + 1) (hg : goesB (r[r.length - 1]'(by have := h.ne; omega)) b = true) : Seg l (r ++ [b]) := by
  have hne := h.ne
  obtain ⟨g1, g2, g3⟩ := goes_iff.1 hg
  have e0 : (r ++ [b])[0]'(by simp) = r[0] := List.getElem_append_left hne
  have elast : ∀ i (h : i < (r ++ [b]).length), ¬ i < r.length → i = r.length ∧ (r ++ [b])[i] = b := fun i hi hn => by
    have : i = r.length := by rw [List.length_append, List.length_singleton] at hi; omega
    subst this
    exact ⟨rfl, by simp⟩
  have eold : ∀ i (h : i < (r ++ [b]).length) (hr : i < r.length), (r ++ [b])[i] = r[i] := fun i _ hr => List.getElem_append_left hr
  refine ⟨by simp, fun x hx => ?_, fun i hi => ?_, fun i hi => ?_, fun i hi h' => ?_, fun i hi => ?_⟩
  · rcases List.mem_append.1 hx with hx | hx
    · exact h.mem x hx
    · rw [List.mem_singleton.1 hx]; exact hb
  · by_cases hr : i < r.length
    · rw [eold i hi hr, e0]; exact h.ts i hr
    · obtain ⟨rfl, e⟩ := elast i hi hr
      rw [e, e0, ht, h.ts (r.length - 1) (by omega)]
      have e1 : r.length = (r.length - 1) + 1 := by omega
      conv => rhs; rw [e1, ofNat_succ]
      rw [UInt32.add_assoc]
  · by_cases hr : i < r.length
    · rw [eold i hi hr]; exact h.bg i hr
    · obtain ⟨rfl, e⟩ := elast i hi hr
      rw [e, g2]; exact (decide_eq_false (by omega)).symm
  · have hr : i < r.length := by rw [List.length_append, List.length_singleton] at h'; omega
    rw [eold i hi hr]
    by_cases e : i + 1 < r.length
    · exact h.en i hr e
    · have e1 : i = r.length - 1 := by omega
      subst e1
      exact g1
  · rw [e0]
    by_cases hr : i < r.length
    · rw [eold i hi hr]; exact h.kin i hr
    · obtain ⟨rfl, e⟩ := elast i hi hr
      rw [e]
      exact kin_trans (h.kin _ (by omega)) g3
theorem Seg.nodup {l r : List Pc} (hl : (l.map (·.ts)).Nodup) (h : Seg l r) : r.Nodup := by
  rw [List.nodup_iff_pairwise_ne, List.pairwise_iff_getElem]
  intro i j hi hj hij e
  have hne := h.ne
  have h1 := h.ts i hi
  have h2 := h.ts j hj
  have h3 := h.ts (j - i) (by omega)
  rw [e, h2] at h1
  have e2 : r[j - i].ts = r[0].ts := by
    rw [h3]
    have h4 : UInt32.ofNat j = UInt32.ofNat i := by
      have := congrArg (fun z => z - r[0].ts) h1
      simp only [UInt32.add_comm r[0].ts, UInt32.add_sub_cancel] at this
      exact this
    apply UInt32.toNat_inj.1
    have h5 := congrArg UInt32.toNat h4
    simp only [UInt32.toNat_add, UInt32.toNat_ofNat'] at *
    have := r[0].ts.toNat_lt
    omega
  have e3 := same_ts hl (h.mem _ (List.getElem_mem (show j - i < r.length by omega))) (h.mem _ (List.getElem_mem hne)) e2
  have b1 := h.bg (j - i) (by omega)
  have b0 := h.bg 0 hne
  rw [e3, b0] at b1
  have : j - i ≠ 0 := by omega
  simp [this] at b1
theorem Seg.le {l r : List Pc} (hl : (l.map (·.ts)).Nodup) (h : Seg l r) : r.length ≤ l.length := (h.nodup hl).length_le_of_subset fun x hx => h.mem x hx
/-- How a piece is come to from where its row begins. -/
inductive Reach (l : List Pc) (q : Pc) : Pc → Prop
  | refl : Reach l q q
  | step {a p : Pc} : Reach l q a → a ∈ l → p ∈ l → p.ts = a.ts + 1 → goesB a p = true → Reach l q p
theorem Reach.trans {l : List Pc} {q a p : Pc} (h : Reach l q a) (h' : Reach l a p) : Reach l q p := by
  induction h' with
  | refl => exact h
  | step _ h1 h2 h3 h4 ih => exact .step ih h1 h2 h3 h4
theorem sub_add1 (t : UInt32) : t - 1 + 1 = t := UInt32.sub_add_cancel _ _
theorem back_sound {l : List Pc} {q : Pc} : ∀ n (p : Pc), p ∈ l → backC l n p = some q → q ∈ l ∧ q.bg = true ∧ Reach l q p
  | 0, p, hp, h => by
    unfold backC at h
    by_cases hb : p.bg = true
    · rw [if_pos hb] at h; cases h; exact ⟨hp, hb, .refl⟩
    · rw [if_neg hb] at h; cases h
  | n + 1, p, hp, h => by
    unfold backC at h
    by_cases hb : p.bg = true
    · rw [if_pos hb] at h; cases h; exact ⟨hp, hb, .refl⟩
    · rw [if_neg hb] at h
      simp only at h
      cases hf : findT l (p.ts - 1) with
      | none => rw [hf] at h; cases h
      | some a =>
        rw [hf] at h
        simp only at h
        obtain ⟨ha, hat⟩ := find_mem hf
        by_cases hg : goesB a p = true
        · rw [if_pos hg] at h
          obtain ⟨h1, h2, h3⟩ := back_sound n a ha h
          exact ⟨h1, h2, .step h3 ha hp (by rw [hat, sub_add1]) hg⟩
        · rw [if_neg hg] at h; cases h
theorem fwd_sound {l r : List Pc} : ∀ n (p : Pc) (acc : List Pc) (hs : Seg l acc), acc[acc.length - 1]'(by have := hs.ne; omega) = p → fwdC l n p acc = some r → IsRow l r ∧ ∃ s, r = acc ++ s
  | n, p, acc, hs, hl, h => by
    unfold fwdC at h
    by_cases he : p.en = true
    · rw [if_pos he] at h
      cases h
      exact ⟨hs.row (by rw [hl]; exact he), [], by simp⟩
    · rw [if_neg he] at h
      cases n with
      | zero => cases h
      | succ n =>
        simp only at h
        cases hf : findT l (p.ts + 1) with
        | none => rw [hf] at h; cases h
        | some b =>
          rw [hf] at h
          simp only at h
          obtain ⟨hb, hbt⟩ := find_mem hf
          by_cases hg : goesB p b = true
          · rw [if_pos hg] at h
            have hs2 := hs.next hb (by rw [hl]; exact hbt) (by rw [hl]; exact hg)
            obtain ⟨h1, s, h2⟩ := fwd_sound n b (acc ++ [b]) hs2 (by simp) h
            exact ⟨h1, b :: s, by rw [h2, List.append_assoc]; rfl⟩
          · rw [if_neg hg] at h; cases h
theorem reach_in {l r : List Pc} (hl : (l.map (·.ts)).Nodup) (h : IsRow l r) {p : Pc} (hr : Reach l (r[0]'h.ne) p) : p ∈ r := by
  induction hr with
  | refl => exact List.getElem_mem h.ne
  | @step a p _ ha hp ht hg ih =>
    obtain ⟨i, hi, rfl⟩ := List.getElem_of_mem ih
    have he := h.en i hi
    rw [(goes_iff.1 hg).1] at he
    have hi2 : i + 1 < r.length := by
      rcases Nat.lt_or_ge (i + 1) r.length with h' | h'
      · exact h'
      · have : i + 1 = r.length := by omega
        simp [this] at he
    have e : r[i + 1].ts = p.ts := by rw [h.ts (i + 1) hi2, ht, h.ts i hi, ofNat_succ, UInt32.add_assoc]
    rw [← same_ts hl (h.mem _ (List.getElem_mem hi2)) hp e]
    exact List.getElem_mem hi2
theorem row_sound {l r : List Pc} (hl : (l.map (·.ts)).Nodup) {p : Pc} (hp : p ∈ l) (h : rowC l p = some r) : IsRow l r ∧ p ∈ r := by
  unfold rowC at h
  cases hb : backC l l.length p with
  | none => rw [hb] at h; cases h
  | some q =>
    rw [hb] at h
    simp only at h
    obtain ⟨h1, h2, h3⟩ := back_sound _ p hp hb
    obtain ⟨h4, s, h5⟩ := fwd_sound _ q [q] (Seg.one h1 h2) rfl h
    refine ⟨h4, reach_in hl h4 ?_⟩
    have : r[0]'h4.ne = q := by subst h5; rfl
    rw [this]
    exact h3
theorem back_full {l r : List Pc} (hl : (l.map (·.ts)).Nodup) (h : IsRow l r) : ∀ m (hm : m < r.length) n, m ≤ n → backC l n r[m] = some (r[0]'h.ne)
  | 0, hm, n, _ => by
    unfold backC
    rw [if_pos (by rw [h.bg 0 hm]; rfl)]
  | m + 1, hm, n, hn => by
    obtain ⟨n, rfl⟩ : ∃ k, n = k + 1 := ⟨n - 1, by omega⟩
    have hb : r[m + 1].bg = false := by rw [h.bg (m + 1) hm]; simp
    have e : r[m].ts = r[m + 1].ts - 1 := by rw [h.ts (m + 1) hm, h.ts m (by omega), ofNat_succ, ← UInt32.add_assoc, UInt32.add_sub_cancel]
    unfold backC
    rw [if_neg (by rw [hb]; decide)]
    simp only
    rw [find_some hl (h.mem _ (List.getElem_mem (show m < r.length by omega))) e]
    simp only
    rw [if_pos (goes_iff.2 ⟨by rw [h.en m (by omega)]; simp; omega, hb, kin_trans (kin_symm (h.kin m (by omega))) (h.kin (m + 1) hm)⟩)]
    exact back_full hl h m (by omega) n (by omega)
theorem fwd_full {l r : List Pc} (hl : (l.map (·.ts)).Nodup) (h : IsRow l r) : ∀ k m (hm : m < r.length) n, r.length = m + 1 + k → k ≤ n → fwdC l n r[m] (r.take (m + 1)) = some r
  | 0, m, hm, n, e, _ => by
    unfold fwdC
    rw [if_pos (by rw [h.en m hm]; simp; omega), List.take_of_length_le (by omega)]
  | k + 1, m, hm, n, e, hn => by
    obtain ⟨n, rfl⟩ : ∃ j, n = j + 1 := ⟨n - 1, by omega⟩
    have hm2 : m + 1 < r.length := by omega
    have e2 : r[m + 1].ts = r[m].ts + 1 := by rw [h.ts (m + 1) hm2, h.ts m hm, ofNat_succ, UInt32.add_assoc]
    unfold fwdC
    rw [if_neg (by rw [h.en m hm]; simp; omega)]
    simp only
    rw [find_some hl (h.mem _ (List.getElem_mem hm2)) e2]
    simp only
    rw [if_pos (goes_iff.2 ⟨by rw [h.en m hm]; simp; omega, by rw [h.bg (m + 1) hm2]; simp, kin_trans (kin_symm (h.kin m hm)) (h.kin (m + 1) hm2)⟩), ← List.take_succ_eq_append_getElem hm2]
    exact fwd_full hl h k (m + 1) hm2 n (by omega) (by omega)
theorem row_full {l r : List Pc} (hl : (l.map (·.ts)).Nodup) (h : IsRow l r) {p : Pc} (hp : p ∈ r) : rowC l p = some r := by
  obtain ⟨m, hm, rfl⟩ := List.getElem_of_mem hp
  have hle := (Seg.of_row h).le hl
  unfold rowC
  rw [back_full hl h m hm l.length (by omega)]
  simp only
  have h9 := fwd_full hl h (r.length - 1) 0 h.ne l.length (by have := h.ne; omega) (by omega)
  have e : r.take (0 + 1) = [r[0]'h.ne] := by rw [List.take_succ_eq_append_getElem h.ne]; rfl
  rw [e] at h9
  exact h9
end Go.Proofs.Ytgngdgiipifacaa
