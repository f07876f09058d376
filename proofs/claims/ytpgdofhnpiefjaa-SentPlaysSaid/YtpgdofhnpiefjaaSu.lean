/-
  What becomes of right pieces: plain.
-/
import Derived.Test.YtpgdofhnpiefjaaSl
namespace Go.Proofs.Ytpgdofhnpiefjaa
open Go.RowKit
set_option linter.unusedVariables false
set_option linter.unusedSimpArgs false
set_option maxRecDepth 100000

theorem okL_nil (c : UInt32) : OkL c [] := ⟨by simp, by simp, fun i h => absurd h (by simp)⟩
theorem okL_put {c : UInt32} {l : List Pc} (h : OkL c l) (hl : l.length < 64) {size path now : Int} (h1 : 1 ≤ size) (h2 : size ≤ 1500) : OkL c (l ++ [⟨nextL c l, size, 1, 0, 1, path, now⟩]) := by
  refine ⟨by simp; omega, fun x hx => ?_, fun i hi => ?_⟩
  · rcases List.mem_append.1 hx with hx | hx
    · exact h.ok x hx
    · rw [List.mem_singleton.1 hx]; exact ⟨by show (1 : Int) ≤ 1; decide, by show (1 : Int) ≤ 3; decide, h1, h2⟩
  · by_cases e : i < l.length
    · rw [List.getElem_append_left e]; exact h.ts i e
    · have : i = l.length := by simp at hi; omega
      subst this
      rw [List.getElem_append_right (Nat.le_refl _)]
      simp only [Nat.sub_self, List.getElem_cons_zero]
      unfold nextL
      rw [UInt32.add_assoc, UInt32.add_comm (UInt32.ofNat _) 1, ← UInt32.add_assoc]
theorem okL_map {c : UInt32} {l : List Pc} (h : OkL c l) (f : Pc → Pc) (hf : ∀ x, OkPc x → OkPc (f x) ∧ (f x).ts = x.ts) : OkL c (l.map f) := by
  refine ⟨by simpa using h.len, fun x hx => ?_, fun i hi => ?_⟩
  · obtain ⟨y, hy, rfl⟩ := List.mem_map.1 hx
    exact (hf y (h.ok y hy)).1
  · have hi' : i < l.length := by simpa using hi
    rw [List.getElem_map, (hf _ (h.ok _ (List.getElem_mem hi'))).2]
    exact h.ts i hi'
theorem okPc_lost {x : Pc} (h : OkPc x) : OkPc (lostX x) := ⟨by show (1 : Int) ≤ 3; decide, by show (3 : Int) ≤ 3; decide, h.z1, h.z2⟩
theorem okL_drop {c : UInt32} {l : List Pc} (h : OkL c l) (p : Int) : OkL c (dropL p l) := okL_map h _ fun x hx => by
  unfold dropX
  split
  · exact ⟨okPc_lost hx, rfl⟩
  · exact ⟨hx, rfl⟩
theorem okL_set {c : UInt32} {l : List Pc} (h : OkL c l) (i : Nat) (hi : i < l.length) (y : Pc) (hy : OkPc y) (ht : y.ts = l[i].ts) : OkL c (l.set i y) := by
  refine ⟨by simpa using h.len, fun x hx => ?_, fun j hj => ?_⟩
  · rcases List.mem_or_eq_of_mem_set hx with hx | rfl
    · exact h.ok x hx
    · exact hy
  · have hj' : j < l.length := by simpa using hj
    by_cases e : i = j
    · subst e; rw [List.getElem_set_self, ht]; exact h.ts i hi
    · rw [List.getElem_set_ne e]; exact h.ts j hj'
theorem okL_again {c : UInt32} {l : List Pc} (h : OkL c l) (t : UInt32) (p now : Int) : OkL c (againL t p now l).1 := by
  unfold againL
  split
  · rename_i i hi
    have hi' : i < l.length := by unfold findL at hi; rw [List.findIdx?_eq_some_iff_getElem] at hi; exact hi.1
    have e : l[i]! = l[i] := getElem!_pos l i hi'
    have hx := h.ok _ (List.getElem_mem hi')
    exact okL_set h i hi' _ ⟨by show (1 : Int) ≤ 1; decide, by show (1 : Int) ≤ 3; decide, by show 1 ≤ (l[i]!).sz; rw [e]; exact hx.z1, by show (l[i]!).sz ≤ 1500; rw [e]; exact hx.z2⟩ (by show (l[i]!).ts = _; rw [e])
  · exact h

/-! ### Ack, piece by piece -/
theorem okPc_mark {x : Pc} (h : OkPc x) (b : Bool) : OkPc (markX b x) ∧ (markX b x).ts = x.ts ∧ (markX b x).sz = x.sz ∧ (markX b x).pa = x.pa := by
  unfold markX
  have h1 := h.s1; have h2 := h.s3; have h3 := h.z1; have h4 := h.z2
  split <;> split
  · exact ⟨h, rfl, rfl, rfl⟩
  · exact ⟨⟨by show (1 : Int) ≤ 2; decide, by show (2 : Int) ≤ 3; decide, h3, h4⟩, rfl, rfl, rfl⟩
  · exact ⟨⟨by show (1 : Int) ≤ 1; decide, by show (1 : Int) ≤ 3; decide, h3, h4⟩, rfl, rfl, rfl⟩
  · exact ⟨h, rfl, rfl, rfl⟩
theorem okPc_miss {x : Pc} (h : OkPc x) : OkPc (missX x) ∧ (missX x).ts = x.ts ∧ (missX x).sz = x.sz ∧ (missX x).pa = x.pa := by
  unfold missX
  split
  · split
    · exact ⟨okPc_lost h, rfl, rfl, rfl⟩
    · exact ⟨⟨h.s1, h.s3, h.z1, h.z2⟩, rfl, rfl, rfl⟩
  · exact ⟨h, rfl, rfl, rfl⟩
theorem mark_two {x : Pc} (b : Bool) (h : OkPc x) : (markX b x).st = 2 ↔ b = true := by
  unfold markX
  cases b
  · simp only [Bool.false_eq_true, if_false]
    split
    · simp
    · rename_i h2; simp [h2]
  · simp only [if_true]
    split
    · rename_i h2; simp [h2]
    · simp
theorem miss_two (x : Pc) : (missX x).st = 2 ↔ x.st = 2 := by
  unfold missX
  split
  · rename_i h1
    split
    · simp [lostX, h1]
    · simp [h1]
  · exact Iff.rfl
theorem mkTo_at (gs : List (Nat × Nat)) (now : Int) (r : Rs) {l : List Pc} (hok : ∀ x ∈ l, OkPc x) : ∀ j, j ≤ l.length → ∀ i (h : i < l.length), i < j → (mkTo gs now r l j).l[i]? = some (markX (hitG gs (i + 1)) l[i])
  | 0, _, i, _, h0 => absurd h0 (by omega)
  | j + 1, hj, i, hi, hij => by
    have hl := (mkTo_I gs now r hok j (by omega)).len
    rw [mkTo_succ gs now r l j (by omega), stepM_l, hl]
    by_cases e : i = j
    · subst e
      rw [List.getElem?_append_right (by omega), hl, Nat.sub_self]
      rfl
    · rw [List.getElem?_append_left (by omega)]
      exact mkTo_at gs now r hok j (by omega) i hi (by omega)
/-- A piece that is left, behind Ack. -/
def ackX (gs : List (Nat × Nat)) (a i : Nat) (x : Pc) : Pc := if i < a then missX (markX (hitG gs (i + 1)) x) else markX (hitG gs (i + 1)) x
theorem ackX_ok (gs : List (Nat × Nat)) (a i : Nat) {x : Pc} (h : OkPc x) : OkPc (ackX gs a i x) ∧ (ackX gs a i x).ts = x.ts ∧ (ackX gs a i x).sz = x.sz ∧ (ackX gs a i x).pa = x.pa ∧ ((ackX gs a i x).st = 2 ↔ hitG gs (i + 1) = true) := by
  obtain ⟨m1, m2, m3, m4⟩ := okPc_mark h (hitG gs (i + 1))
  unfold ackX
  split
  · obtain ⟨n1, n2, n3, n4⟩ := okPc_miss m1
    exact ⟨n1, n2.trans m2, n3.trans m3, n4.trans m4, (miss_two _).trans (mark_two _ h)⟩
  · exact ⟨m1, m2, m3, m4, mark_two _ h⟩
theorem ackL2_at {now : Int} {l : List Pc} {gs : List (Nat × Nat)} {k : Nat} (hok : ∀ x ∈ l, OkPc x) (hk : k ≤ l.length) : (ackL2 now l gs k).length = l.length - k ∧ ∀ i (h : k + i < l.length), (ackL2 now l gs k)[i]? = some (ackX gs (ackM now l gs k).a i l[k + i]) := by
  have hokd : ∀ x ∈ l.drop k, OkPc x := fun x hx => hok x (List.mem_of_mem_drop hx)
  have hld : (l.drop k).length = l.length - k := by simp
  have hI := mkTo_I gs now (goneTo now l k k) hokd (l.length - k) (by omega)
  have hlen : (ackM now l gs k).l.length = l.length - k := hI.len
  have hah : (ackM now l gs k).a ≤ l.length - k := hI.ah
  refine ⟨by unfold ackL2; rw [mix_len _ _ _ (by omega), hlen], fun i hi => ?_⟩
  have hat := mkTo_at gs now (goneTo now l k k) hokd (l.length - k) (by omega) i (by omega) (by omega)
  rw [List.getElem_drop] at hat
  have hat' : (ackM now l gs k).l[i]? = some (markX (hitG gs (i + 1)) l[k + i]) := hat
  unfold ackL2 mixL ackX
  by_cases e : i < (ackM now l gs k).a
  · rw [if_pos e, List.getElem?_append_left (by simp; omega), List.getElem?_map, List.getElem?_take, if_pos e, hat']
    rfl
  · rw [if_neg e, List.getElem?_append_right (by simp; omega), List.getElem?_drop]
    rw [List.length_map, List.length_take, Nat.min_eq_left (by omega), show (ackM now l gs k).a + (i - (ackM now l gs k).a) = i by omega, hat']
theorem ackL2_get {now : Int} {l : List Pc} {gs : List (Nat × Nat)} {k : Nat} (hok : ∀ x ∈ l, OkPc x) (hk : k ≤ l.length) (i : Nat) (h : i < (ackL2 now l gs k).length) : ∃ h' : k + i < l.length, (ackL2 now l gs k)[i] = ackX gs (ackM now l gs k).a i l[k + i] := by
  obtain ⟨h1, h2⟩ := ackL2_at (now := now) (gs := gs) hok hk
  have h' : k + i < l.length := by omega
  refine ⟨h', ?_⟩
  have := h2 i h'
  rw [List.getElem?_eq_getElem h] at this
  exact Option.some.inj this
theorem dist_step (c cum : UInt32) (i : Nat) : c + 1 + UInt32.ofNat (dist c cum + i) = cum + 1 + UInt32.ofNat i := by
  apply UInt32.toNat_inj.1
  simp only [UInt32.toNat_add, UInt32.toNat_ofNat', dist_nat]
  have := c.toNat_lt; have := cum.toNat_lt
  show ((c.toNat + 1) % 4294967296 + _) % 4294967296 = ((cum.toNat + 1) % 4294967296 + _) % 4294967296
  omega
theorem okL_ack {c cum : UInt32} {l : List Pc} (h : OkL c l) (gs : List (Nat × Nat)) (now : Int) (hk : dist c cum ≤ l.length) : OkL cum (ackL2 now l gs (dist c cum)) := by
  obtain ⟨h1, h2⟩ := ackL2_at (now := now) (gs := gs) h.ok hk
  have hl := h.len
  refine ⟨by omega, fun x hx => ?_, fun i hi => ?_⟩
  · obtain ⟨i, hi, rfl⟩ := List.mem_iff_getElem.1 hx
    obtain ⟨h', e⟩ := ackL2_get h.ok hk i hi
    rw [e]
    exact (ackX_ok gs _ i (h.ok _ (List.getElem_mem h'))).1
  · obtain ⟨h', e⟩ := ackL2_get h.ok hk i hi
    rw [e, (ackX_ok gs _ i (h.ok _ (List.getElem_mem h'))).2.1, h.ts _ h']
    exact dist_step c cum i
end Go.Proofs.Ytpgdofhnpiefjaa
