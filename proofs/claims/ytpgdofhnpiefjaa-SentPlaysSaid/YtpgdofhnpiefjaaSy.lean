/-
  What is given up and sent again: plain.
-/
import Derived.Test.YtpgdofhnpiefjaaSu
namespace Go.Proofs.Ytpgdofhnpiefjaa
open Go.RowKit
set_option linter.unusedVariables false
set_option linter.unusedSimpArgs false
set_option maxRecDepth 100000

def wtZ (f : Pc → Bool) (x : Pc) : Int := if f x then x.sz else 0
def ctN (f : Pc → Bool) (x : Pc) : Nat := if f x then 1 else 0
def cntL (f : Pc → Bool) (l : List Pc) : Nat := (l.filter f).length
theorem wtZ_yes {f : Pc → Bool} {x : Pc} (h : f x = true) : wtZ f x = x.sz := if_pos h
theorem wtZ_no {f : Pc → Bool} {x : Pc} (h : f x = false) : wtZ f x = 0 := if_neg (by rw [h]; decide)
theorem ctN_yes {f : Pc → Bool} {x : Pc} (h : f x = true) : ctN f x = 1 := if_pos h
theorem ctN_no {f : Pc → Bool} {x : Pc} (h : f x = false) : ctN f x = 0 := if_neg (by rw [h]; decide)
theorem sumZ_one (f : Pc → Bool) (x : Pc) (l : List Pc) : sumZ f (x :: l) = wtZ f x + sumZ f l := sumZ_cons f x l
theorem cntL_one (f : Pc → Bool) (x : Pc) (l : List Pc) : cntL f (x :: l) = ctN f x + cntL f l := by
  unfold cntL ctN
  by_cases h : f x = true
  · rw [List.filter_cons_of_pos h, if_pos h, List.length_cons]; omega
  · rw [List.filter_cons_of_neg h, if_neg h]; omega
theorem sumZ_set (f : Pc → Bool) (y : Pc) : ∀ (s : List Pc) (k : Nat) (h : k < s.length), sumZ f (s.set k y) = sumZ f s - wtZ f s[k] + wtZ f y
  | [], _, h => absurd h (by simp)
  | x :: s, 0, _ => by
    rw [List.set_cons_zero, sumZ_one, sumZ_one]
    simp only [List.getElem_cons_zero]
    omega
  | x :: s, k + 1, h => by
    have ih := sumZ_set f y s k (by simpa using h)
    rw [List.set_cons_succ, sumZ_one, sumZ_one, ih]
    simp only [List.getElem_cons_succ]
    omega
theorem cntL_set (f : Pc → Bool) (y : Pc) : ∀ (s : List Pc) (k : Nat) (h : k < s.length), cntL f (s.set k y) + ctN f s[k] = cntL f s + ctN f y
  | [], _, h => absurd h (by simp)
  | x :: s, 0, _ => by
    rw [List.set_cons_zero, cntL_one, cntL_one]
    simp only [List.getElem_cons_zero]
    omega
  | x :: s, k + 1, h => by
    have ih := cntL_set f y s k (by simpa using h)
    rw [List.set_cons_succ, cntL_one, cntL_one]
    simp only [List.getElem_cons_succ]
    omega
def lostB (x : Pc) : Bool := decide (x.st = 3)
theorem loss_cnt (l : List Pc) : (lossL l).length = cntL lostB l := by unfold lossL cntL; rw [List.length_map]; rfl
theorem outB_lost (p : Int) (x : Pc) : outB p (lostX x) = false := by simp [outB, lostX]
theorem outB_st {p : Int} {x : Pc} (h : outB p x = true) : x.st = 1 := by
  unfold outB at h
  rw [Bool.and_eq_true] at h
  exact of_decide_eq_true h.1
theorem outB_all {x : Pc} (h : x.st = 1) : outB (-1) x = true := by simp [outB, h]
theorem drop_zero (p : Int) : ∀ l : List Pc, underL p (dropL p l) = 0
  | [] => rfl
  | x :: l => by
    have ih := drop_zero p l
    show sumZ (outB p) (dropX p x :: dropL p l) = 0
    have ih' : sumZ (outB p) (dropL p l) = 0 := ih
    rw [sumZ_one, ih']
    by_cases h : outB p x = true
    · rw [show dropX p x = lostX x from if_pos h, wtZ_no (outB_lost p x)]; rfl
    · rw [show dropX p x = x from if_neg h, wtZ_no (by simpa using h)]; rfl
theorem drop_all (p : Int) : ∀ l : List Pc, underL (-1) (dropL p l) = underL (-1) l - underL p l
  | [] => rfl
  | x :: l => by
    have ih : sumZ (outB (-1)) (dropL p l) = sumZ (outB (-1)) l - sumZ (outB p) l := drop_all p l
    show sumZ (outB (-1)) (dropX p x :: dropL p l) = sumZ (outB (-1)) (x :: l) - sumZ (outB p) (x :: l)
    rw [sumZ_one, sumZ_one, sumZ_one, ih]
    by_cases h : outB p x = true
    · rw [show dropX p x = lostX x from if_pos h, wtZ_no (outB_lost (-1) x), wtZ_yes h, wtZ_yes (outB_all (outB_st h))]; omega
    · rw [show dropX p x = x from if_neg h, wtZ_no (f := outB p) (by simpa using h)]; omega
theorem drop_loss (p : Int) : ∀ l : List Pc, cntL lostB (dropL p l) = cntL lostB l + (dropN p l).length
  | [] => rfl
  | x :: l => by
    have ih := drop_loss p l
    have e : (dropN p (x :: l)).length = ctN (outB p) x + (dropN p l).length := by
      unfold dropN
      rw [List.length_map, List.length_map]
      exact cntL_one (outB p) x l
    show cntL lostB (dropX p x :: dropL p l) = _
    rw [e, cntL_one, cntL_one, ih]
    by_cases h : outB p x = true
    · rw [show dropX p x = lostX x from if_pos h, ctN_yes (f := outB p) h, ctN_yes (f := lostB) (x := lostX x) rfl, ctN_no (f := lostB) (x := x) (by unfold lostB; rw [outB_st h]; rfl)]; omega
    · rw [show dropX p x = x from if_neg h, ctN_no (f := outB p) (by simpa using h)]; omega
theorem okL_inj {c : UInt32} {s : List Pc} (h : OkL c s) {a b : Nat} (ha : a < s.length) (hb : b < s.length) (e : s[a].ts = s[b].ts) : a = b := by
  rw [h.ts a ha, h.ts b hb] at e
  have hl := h.len
  have e2 := congrArg UInt32.toNat e
  simp only [UInt32.toNat_add, UInt32.toNat_ofNat'] at e2
  have := c.toNat_lt
  omega
theorem again_hit {c : UInt32} {s : List Pc} (h : OkL c s) {k : Nat} (hk : k < s.length) {t : UInt32} (h1 : s[k].ts = t) (h2 : s[k].st = 3) (q now : Int) : againL t q now s = (s.set k (againX q now s[k]), true) := by
  have hf : findL (hitA t) s = some k := by
    unfold findL
    rw [List.findIdx?_eq_some_iff_getElem]
    refine ⟨hk, by simp [hitA, h1, h2], fun j hj hh => ?_⟩
    unfold hitA at hh
    rw [Bool.and_eq_true] at hh
    have e := of_decide_eq_true hh.1
    have := okL_inj h (by omega) hk (e.trans h1.symm)
    omega
  unfold againL
  rw [hf]
  show (s.set k (againX q now s[k]!), true) = _
  rw [getElem!_pos s k hk]
theorem again_miss {s : List Pc} {t : UInt32} (h : ∀ k (hk : k < s.length), s[k].ts = t → s[k].st ≠ 3) (q now : Int) : againL t q now s = (s, false) := by
  have hf : findL (hitA t) s = none := by
    unfold findL
    rw [List.findIdx?_eq_none_iff]
    intro x hx
    obtain ⟨k, hk, rfl⟩ := List.getElem_of_mem hx
    unfold hitA
    rw [Bool.and_eq_false_iff]
    by_cases e : s[k].ts = t
    · exact .inr (decide_eq_false (h k hk e))
    · exact .inl (decide_eq_false e)
  unfold againL
  rw [hf]
def zTo (p : Int) (l : List Pc) (i : Nat) : Int := (((l.filter (outB p)).take i).map (·.sz)).sum
theorem zTo_next (p : Int) (l : List Pc) {i : Nat} (h : i < (l.filter (outB p)).length) : zTo p l (i + 1) = zTo p l i + (l.filter (outB p))[i].sz := by
  unfold zTo
  rw [List.take_succ_eq_append_getElem h, List.map_append, List.sum_append]
  simp
theorem zTo_all (p : Int) (l : List Pc) : zTo p l (l.filter (outB p)).length = underL p l := by
  unfold zTo underL sumZ
  rw [List.take_length]
/-- What stands behind i pieces that were sent again. -/
structure AgI (c : UInt32) (l : List Pc) (p q : Int) (i : Nat) (s : List Pc) : Prop where
  ok : OkL c s
  len : s.length = l.length
  uq : underL q s = underL q (dropL p l) + zTo p l i
  ua : underL (-1) s = underL (-1) (dropL p l) + zTo p l i
  ls : (lossL s).length + i = (lossL (dropL p l)).length
  at' : ∀ j (h : j < (l.filter (outB p)).length), i ≤ j → ∃ k, ∃ hk : k < s.length, s[k].ts = (l.filter (outB p))[j].ts ∧ s[k].st = 3 ∧ s[k].sz = (l.filter (outB p))[j].sz
theorem AgI.start {c : UInt32} {l : List Pc} (h : OkL c l) (p q : Int) : AgI c l p q 0 (dropL p l) := by
  refine ⟨okL_drop h p, by unfold dropL; rw [List.length_map], ?_, ?_, rfl, fun j hj _ => ?_⟩
  · show _ = _ + 0; omega
  · show _ = _ + 0; omega
  · have hm := List.getElem_mem hj
    rw [List.mem_filter] at hm
    obtain ⟨k, hk, e⟩ := List.getElem_of_mem hm.1
    refine ⟨k, by unfold dropL; rw [List.length_map]; exact hk, ?_⟩
    have e2 : (dropL p l)[k]'(by unfold dropL; rw [List.length_map]; exact hk) = lostX (l.filter (outB p))[j] := by
      unfold dropL
      rw [List.getElem_map, e]
      exact if_pos hm.2
    rw [e2]
    exact ⟨rfl, rfl, rfl⟩
theorem AgI.step {c : UInt32} {l : List Pc} (hl : OkL c l) {p q : Int} (hq : 0 ≤ q) {i : Nat} {s : List Pc} (h : AgI c l p q i s) (hi : i < (l.filter (outB p)).length) (now : Int) :
    ∃ s', againL (l.filter (outB p))[i].ts q now s = (s', true) ∧ AgI c l p q (i + 1) s' ∧ againL (l.filter (outB p))[i].ts q now s' = (s', false) := by
  obtain ⟨k, hk, e1, e2, e3⟩ := h.at' i hi (Nat.le_refl _)
  have ho1 : outB q (againX q now s[k]) = true := by simp [outB, againX]
  have ho2 : outB (-1) (againX q now s[k]) = true := outB_all rfl
  have hn (r : Int) : outB r s[k] = false := by simp [outB, e2]
  have hsz : (againX q now s[k]).sz = s[k].sz := rfl
  have hpw : (l.filter (outB p)).Pairwise (fun x y => x.ts ≠ y.ts) := by
    refine List.Pairwise.filter _ ?_
    rw [List.pairwise_iff_getElem]
    intro a b ha hb hab e
    have := okL_inj hl ha hb e
    omega
  have hset : againL (l.filter (outB p))[i].ts q now s = (s.set k (againX q now s[k]), true) := again_hit h.ok hk e1 e2 q now
  have hok : OkL c (s.set k (againX q now s[k])) := by
    have := okL_again h.ok (l.filter (outB p))[i].ts q now
    rw [hset] at this
    exact this
  refine ⟨_, hset, ⟨hok, by rw [List.length_set]; exact h.len, ?_, ?_, ?_, fun j hj hij => ?_⟩, again_miss (fun m hm hts => ?_) q now⟩
  · have h9 := sumZ_set (outB q) (againX q now s[k]) s k hk
    have h8 : sumZ (outB q) s = _ := h.uq
    show sumZ (outB q) (s.set k (againX q now s[k])) = _
    rw [h9, h8, wtZ_no (hn q), wtZ_yes ho1, zTo_next p l hi, hsz, e3]
    omega
  · have h9 := sumZ_set (outB (-1)) (againX q now s[k]) s k hk
    have h8 : sumZ (outB (-1)) s = _ := h.ua
    show sumZ (outB (-1)) (s.set k (againX q now s[k])) = _
    rw [h9, h8, wtZ_no (hn (-1)), wtZ_yes ho2, zTo_next p l hi, hsz, e3]
    omega
  · have h9 := cntL_set lostB (againX q now s[k]) s k hk
    rw [ctN_yes (f := lostB) (x := s[k]) (by unfold lostB; rw [e2]; rfl), ctN_no (f := lostB) (x := againX q now s[k]) rfl] at h9
    have h8 := h.ls
    rw [loss_cnt] at h8 ⊢
    omega
  · obtain ⟨m, hm, f1, f2, f3⟩ := h.at' j hj (by omega)
    have hne : (l.filter (outB p))[i].ts ≠ (l.filter (outB p))[j].ts := List.pairwise_iff_getElem.1 hpw i j hi hj (by omega)
    have hkm : k ≠ m := fun e => by subst e; exact hne (e1.symm.trans f1)
    refine ⟨m, by rw [List.length_set]; exact hm, ?_⟩
    rw [List.getElem_set_ne hkm]
    exact ⟨f1, f2, f3⟩
  · have hm' : m < s.length := by rw [List.length_set] at hm; exact hm
    by_cases e : k = m
    · subst e
      rw [List.getElem_set_self]
      show (1 : Int) ≠ 3
      decide
    · rw [List.getElem_set_ne e] at hts
      exact absurd (okL_inj h.ok hk hm' (e1.trans hts.symm)) e
theorem AgI.done {c : UInt32} {l : List Pc} {p q : Int} {s : List Pc} (h : AgI c l p q (dropN p l).length s) :
    underL q s = underL q (dropL p l) + underL p l ∧ underL (-1) s = underL (-1) l ∧ (lossL s).length = (lossL l).length := by
  have hn : (dropN p l).length = (l.filter (outB p)).length := by unfold dropN; rw [List.length_map]
  have h1 := h.uq
  have h2 := h.ua
  have h3 := h.ls
  rw [hn, zTo_all] at h1 h2
  have h4 := drop_all p l
  have h5 := drop_loss p l
  rw [loss_cnt, loss_cnt] at h3
  rw [loss_cnt, loss_cnt]
  exact ⟨h1, by omega, by omega⟩
theorem dropN_at (p : Int) (l : List Pc) {i : Nat} (h : i < (dropN p l).length) : ∃ h' : i < (l.filter (outB p)).length, (dropN p l)[i]! = (l.filter (outB p))[i].ts := by
  have hn : (dropN p l).length = (l.filter (outB p)).length := by unfold dropN; rw [List.length_map]
  refine ⟨by omega, ?_⟩
  rw [getElem!_pos _ i h]
  exact List.getElem_map (fun x : Pc => x.ts)
theorem under_fit {c : UInt32} {l : List Pc} (h : OkL c l) (p : Int) : 0 ≤ underL p l ∧ underL p l ≤ 96000 := by
  have h1 := sumZ_lo (outB p) l h.ok
  have h2 := h.len
  unfold underL
  omega
end Go.Proofs.Ytpgdofhnpiefjaa
