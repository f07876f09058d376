/-
  Acts, one after another: what stays: plain.
-/
import Derived.Test.YtpgdofhnpiefjaaSz
import Derived.Test.YtpgdofhnpiefjaaSy
namespace Go.Proofs.Ytpgdofhnpiefjaa
open Go.RowKit
set_option linter.unusedVariables false
set_option linter.unusedSimpArgs false
set_option maxRecDepth 100000

def allZ (l : List Pc) : Int := sumZ (fun _ => true) l
theorem allZ_map (l : List Pc) : allZ l = (l.map (·.sz)).sum := by
  unfold allZ sumZ
  rw [List.filter_eq_self.2 (fun _ _ => rfl)]
theorem allZ_same {l m : List Pc} (h : l.map (·.sz) = m.map (·.sz)) : allZ l = allZ m := by rw [allZ_map, allZ_map, h]
theorem allZ_lo {l : List Pc} (h : ∀ x ∈ l, OkPc x) : 0 ≤ allZ l := (sumZ_lo _ l h).1
theorem allZ_drop {l : List Pc} (h : ∀ x ∈ l, OkPc x) (k : Nat) : allZ (l.drop k) ≤ allZ l := by
  have e : allZ l = allZ (l.take k) + allZ (l.drop k) := by
    conv => lhs; rw [← List.take_append_drop k l]
    exact sumZ_append _ _ _
  have := allZ_lo (l := l.take k) (fun x hx => h x (List.mem_of_mem_take hx))
  omega
/-- What stands behind i acts. -/
structure PlI (c : UInt32) (l : List Pc) (i : Nat) (all : Int) : Prop where
  ok : OkL c l
  len : l.length ≤ i
  pa : ∀ x ∈ l, x.pa = 0 ∨ x.pa = 1
  sz : allZ l ≤ all
  hi : all ≤ 1500 * (i : Int)
theorem PlI.start (c : UInt32) : PlI c [] 0 0 := ⟨okL_nil c, Nat.le_refl _, by simp, by simp [allZ, sumZ], by simp⟩
theorem PlI.skip {c : UInt32} {l : List Pc} {i : Nat} {all : Int} (h : PlI c l i all) : PlI c l (i + 1) all := ⟨h.ok, by have := h.len; omega, h.pa, h.sz, by have := h.hi; omega⟩
theorem PlI.lo {c : UInt32} {l : List Pc} {i : Nat} {all : Int} (h : PlI c l i all) : 0 ≤ all := Int.le_trans (allZ_lo h.ok.ok) h.sz
theorem PlI.put {c : UInt32} {l : List Pc} {i : Nat} {all : Int} (h : PlI c l i all) (hi : i < 60) {n p now : Int} (h1 : 1 ≤ n) (h2 : n ≤ 1500) (hp : p = 0 ∨ p = 1) : PlI c (l ++ [newPc (nextL c l) n p now]) (i + 1) (all + n) := by
  have hl := h.len
  refine ⟨okL_put h.ok (by omega) h1 h2, by rw [List.length_append, List.length_singleton]; omega, fun x hx => ?_, ?_, by have := h.hi; omega⟩
  · rcases List.mem_append.1 hx with hx | hx
    · exact h.pa x hx
    · rw [List.mem_singleton.1 hx]; exact hp
  · have e : allZ (l ++ [newPc (nextL c l) n p now]) = allZ l + (n + 0) := sumZ_append _ _ _
    have := h.sz
    omega
theorem next_put (c : UInt32) (l : List Pc) (y : Pc) : nextL c (l ++ [y]) = nextL c l + 1 := by
  unfold nextL
  rw [List.length_append, List.length_singleton]
  apply UInt32.toNat_inj.1
  have h1 : (1 : UInt32).toNat = 1 := rfl
  simp only [UInt32.toNat_add, UInt32.toNat_ofNat', h1]
  omega
theorem PlI.map {c : UInt32} {l : List Pc} {i : Nat} {all : Int} (h : PlI c l i all) {m : List Pc} (ho : OkL c m) (hl : m.length = l.length) (hz : m.map (·.sz) = l.map (·.sz)) (hp : ∀ x ∈ m, x.pa = 0 ∨ x.pa = 1) : PlI c m (i + 1) all :=
  ⟨ho, by have := h.len; omega, hp, by rw [allZ_same hz]; exact h.sz, by have := h.hi; omega⟩
theorem PlI.drop {c : UInt32} {l : List Pc} {i : Nat} {all : Int} (h : PlI c l i all) (p : Int) : PlI c (dropL p l) (i + 1) all := by
  refine h.map (okL_drop h.ok p) (by unfold dropL; rw [List.length_map]) ?_ (fun x hx => ?_)
  · unfold dropL
    rw [List.map_map]
    refine List.map_congr_left fun x _ => ?_
    show (dropX p x).sz = x.sz
    unfold dropX
    split <;> rfl
  · unfold dropL at hx
    obtain ⟨y, hy, rfl⟩ := List.mem_map.1 hx
    have := h.pa y hy
    unfold dropX
    split
    · exact this
    · exact this
theorem PlI.again {c : UInt32} {l : List Pc} {i : Nat} {all : Int} (h : PlI c l i all) (t : UInt32) {q : Int} (hq : q = 0 ∨ q = 1) (now : Int) : PlI c (againL t q now l).1 (i + 1) all ∧ (againL t q now l).1.length = l.length := by
  have ho := okL_again h.ok t q now
  unfold againL at *
  cases hf : findL (hitA t) l with
  | none => exact ⟨h.skip, rfl⟩
  | some k =>
    rw [hf] at ho
    have hk : k < l.length := by unfold findL at hf; rw [List.findIdx?_eq_some_iff_getElem] at hf; exact hf.1
    refine ⟨h.map ho (by show (l.set k _).length = _; rw [List.length_set]) ?_ (fun x hx => ?_), by show (l.set k _).length = _; rw [List.length_set]⟩
    · show (l.set k (againX q now l[k]!)).map (·.sz) = _
      rw [List.map_set, show (againX q now l[k]!).sz = l[k].sz from by rw [getElem!_pos l k hk]; rfl]
      have e : l[k].sz = (l.map (·.sz))[k]'(by rw [List.length_map]; exact hk) := by rw [List.getElem_map]
      rw [e, List.set_getElem_self]
    · rcases List.mem_or_eq_of_mem_set (show x ∈ l.set k (againX q now l[k]!) from hx) with hx | rfl
      · exact h.pa x hx
      · exact hq
theorem goneTo_dn (now : Int) (l : List Pc) (k : Nat) : ∀ j, j ≤ l.length → (goneTo now l k j).dn = (l.take j).map (·.ts)
  | 0, _ => rfl
  | j + 1, h => by
    have ih := goneTo_dn now l k j (by omega)
    rw [goneTo_succ now l k j (by omega), List.take_succ_eq_append_getElem (show j < l.length by omega), List.map_append, ← ih]
    unfold stepD
    split
    · rfl
    · rw [(tellR_frame now _ _).2.2.1]; rfl
theorem btTo_lo {l t : List Pc} {k : Nat} (ht : ∀ x ∈ t, OkPc x) : ∀ j, j ≤ t.length → 0 ≤ btTo l t k j
  | 0, _ => Int.le_refl _
  | j + 1, h => by
    have ih := btTo_lo (l := l) (k := k) ht j (by omega)
    have e : t[j]! = t[j] := getElem!_pos t j (by omega)
    have hx := ht _ (List.getElem_mem (show j < t.length by omega))
    have h1 := hx.z1
    show 0 ≤ btTo l t k j + btOf l[k + j]! t[j]!
    rw [e]
    unfold btOf
    split
    · omega
    · split <;> omega
theorem PlI.ack {c cum : UInt32} {l : List Pc} {i : Nat} {all : Int} (h : PlI c l i all) (gs : List (Nat × Nat)) (now : Int) (hk : dist c cum ≤ l.length) :
    PlI cum (ackL2 now l gs (dist c cum)) (i + 1) all ∧ (ackL2 now l gs (dist c cum)).length = l.length - dist c cum ∧ (ackM now l gs (dist c cum)).r.by' ≤ all ∧ (ackM now l gs (dist c cum)).r.dn = (l.take (dist c cum)).map (·.ts) ∧ (ackM now l gs (dist c cum)).r.out = underL (-1) l ∧ (ackM now l gs (dist c cum)).r.mo = decide (0 < dist c cum) := by
  have ho := okL_ack h.ok gs now hk
  have hln := (ackL2_at (now := now) (gs := gs) h.ok.ok hk).1
  have hM := mkTo_I gs now (goneTo now l (dist c cum) (dist c cum)) (l := l.drop (dist c cum)) (fun x hx => h.ok.ok x (List.mem_of_mem_drop hx)) (l.length - dist c cum) (by rw [List.length_drop]; exact Nat.le_refl _)
  have hG := goneTo_I now h.ok.ok (dist c cum) (dist c cum) hk
  have hsz : (ackL2 now l gs (dist c cum)).map (·.sz) = (l.drop (dist c cum)).map (·.sz) := by
    refine List.ext_getElem (by rw [List.length_map, List.length_map, List.length_drop]; exact hln) fun j h1 h2 => ?_
    rw [List.getElem_map, List.getElem_map, List.getElem_drop]
    obtain ⟨h', e⟩ := ackL2_get (now := now) (gs := gs) h.ok.ok hk j (by rw [List.length_map] at h1; exact h1)
    rw [e, (ackX_ok gs _ j (h.ok.ok _ (List.getElem_mem h'))).2.2.1]
  refine ⟨⟨ho, by have := h.len; omega, fun x hx => ?_, ?_, by have := h.hi; omega⟩, hln, ?_, ?_, ?_, ?_⟩
  · obtain ⟨j, hj, rfl⟩ := List.getElem_of_mem hx
    obtain ⟨h', e⟩ := ackL2_get (now := now) (gs := gs) h.ok.ok hk j hj
    rw [e, (ackX_ok gs _ j (h.ok.ok _ (List.getElem_mem h'))).2.2.2.1]
    exact h.pa _ (List.getElem_mem h')
  · rw [allZ_same hsz]
    exact Int.le_trans (allZ_drop h.ok.ok _) h.sz
  · have h1 := bytes_all (now := now) (gs := gs) h.ok.ok hk
    have h2 := btTo_lo (l := l) (k := dist c cum) ho.ok (l.length - dist c cum) (by omega)
    have h3 := sumZ_le_all notA l h.ok.ok
    have h4 := h.sz
    unfold allZ at h4
    omega
  · exact hM.dn.trans (goneTo_dn now l (dist c cum) (dist c cum) hk)
  · exact hM.out.trans hG.out
  · exact hM.mo.trans hG.mo
theorem PlI.two {c : UInt32} {l : List Pc} {i : Nat} {all : Int} (h : PlI c l i all) : underL (-1) l = underL 0 l + underL 1 l := by
  have hp := h.pa
  clear h
  induction l with
  | nil => rfl
  | cons x l ih =>
    have ih' := ih (fun y hy => hp y (List.mem_cons_of_mem _ hy))
    have hx := hp x (List.mem_cons_self ..)
    unfold underL at *
    rw [sumZ_one, sumZ_one, sumZ_one, ih']
    have e : wtZ (outB (-1)) x = wtZ (outB 0) x + wtZ (outB 1) x := by
      unfold wtZ outB
      by_cases hs : x.st = 1
      · rcases hx with e | e <;> simp [hs, e]
      · simp [hs]
    omega
theorem PlI.under {c : UInt32} {l : List Pc} {i : Nat} {all : Int} (h : PlI c l i all) (p : Int) : 0 ≤ underL p l ∧ underL p l ≤ all := by
  have h1 := (under_fit h.ok p).1
  have h2 := sumZ_le_all (outB p) l h.ok.ok
  have h3 := h.sz
  unfold allZ at h3
  unfold underL at *
  omega
end Go.Proofs.Ytpgdofhnpiefjaa
