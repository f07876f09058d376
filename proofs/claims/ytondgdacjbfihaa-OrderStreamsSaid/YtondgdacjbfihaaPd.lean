/-
  What a stream that goes on tells, and leaves: plain.
-/
import Derived.Test.YtondgdacjbfihaaPc
namespace Go.Proofs.Ytondgdacjbfihaa
open Go.RowKit
set_option linter.unusedVariables false
set_option linter.unusedSimpArgs false

theorem waits_append (a b : List Mg) (s : Int) : waitsN (a ++ b) s = waitsN a s + waitsN b s := by unfold waitsN; rw [List.filter_append, List.length_append]
theorem waits_split (f : Mg → Bool) (s : Int) : ∀ l : List Mg, waitsN (l.filter f) s + waitsN (l.filter fun x => !f x) s = waitsN l s
  | [] => rfl
  | x :: l => by
    have ih := waits_split f s l
    cases hf : f x with
    | true => rw [List.filter_cons_of_pos hf, List.filter_cons_of_neg (by simp [hf]), waits_cons, waits_cons]; omega
    | false => rw [List.filter_cons_of_neg (by simp [hf]), List.filter_cons_of_pos (by simp [hf]), waits_cons, waits_cons]; omega
theorem waits_all {l : List Mg} {s : Int} (h : ∀ x ∈ l, ofB s x = true) : waitsN l s = l.length := by
  unfold waitsN
  rw [List.filter_eq_self.2 h]
theorem waits_told (wt : List Mg) (s : Int) (n : UInt16) : ∀ k, k ≤ 65536 → (toldL wt s n k).length + waitsN (leftL wt s n k) s = waitsN wt s
  | 0, _ => by rw [told_zero, left_zero]; show 0 + _ = _; omega
  | k + 1, hk => by
    have ih := waits_told wt s n k (by omega)
    rw [told_next, List.length_append, ← left_next wt s n (by omega), ← left_mt wt s n (by omega)]
    have h1 := waits_split (mtB s (up n k)) s (leftL wt s n k)
    have h2 : waitsN ((leftL wt s n k).filter (mtB s (up n k))) s = ((leftL wt s n k).filter (mtB s (up n k))).length := waits_all fun x hx => (mtB_iff.1 (List.mem_filter.1 hx).2).1
    omega
theorem waits_tell {wt : List Mg} (hl : wt.length ≤ 60000) (s : Int) (n : UInt16) : (tellK wt s n).length + waitsN (leftK wt s n) s = waitsN wt s := by
  have := (runK_spec s n hl).2.1
  exact waits_told wt s n _ (by omega)
theorem waits_other (wt : List Mg) (f : Mg → Bool) {s t : Int} (hst : s ≠ t) (hf : ∀ x, ofB s x = false → f x = true) : waitsN (wt.filter f) t = waitsN wt t := by
  unfold waitsN
  rw [List.filter_filter]
  congr 1
  apply List.filter_congr
  intro x _
  cases hb : ofB t x with
  | false => rfl
  | true =>
    rw [Bool.true_and]
    apply hf
    unfold ofB at hb ⊢
    rw [decide_eq_true_iff] at hb
    rw [decide_eq_false_iff_not]
    omega
theorem keepG_other (wt : List Mg) {s t : Int} (hst : s ≠ t) (to : UInt16) : waitsN (keepG wt s to) t = waitsN wt t :=
  waits_other wt _ hst fun x hx => by unfold goneB; rw [hx]; rfl
theorem leftK_other (wt : List Mg) {s t : Int} (hst : s ≠ t) (n : UInt16) : waitsN (leftK wt s n) t = waitsN wt t :=
  waits_other wt _ hst fun x hx => by unfold goneL; rw [hx]; rfl
theorem keepG_le (wt : List Mg) (s t : Int) (to : UInt16) : waitsN (keepG wt s to) t ≤ waitsN wt t := by
  have := waits_split (fun x => !goneB s to x) t wt
  unfold keepG
  omega
/-- Numbers do not grow beyond what waits. -/
theorem next_le {wt : List Mg} (hl : wt.length ≤ 60000) (hd : Dis wt) (s : Int) (n : UInt16) {B : Nat} (hB : 12 ≤ B) (hB2 : B ≤ 1000) (hn : n.toNat ≤ B) (hx : ∀ x ∈ wt, x.ss.toNat < 12) : (nextK wt s n).toNat ≤ B := by
  obtain ⟨h1, h2, h3⟩ := runK_spec s n hl
  unfold nextK
  cases hk : runK wt s n with
  | zero => rw [up_zero]; exact hn
  | succ k =>
    rw [hk] at h1
    obtain ⟨x, hm, -, hs⟩ := hasS_iff.1 (h1 k (Nat.lt_succ_self k))
    have := hx x hm
    rw [up_next, UInt16.toNat_add, ← hs]
    show (x.ss.toNat + 1) % 65536 ≤ B
    omega
/-- What waits behind the loop, all numbers below twelve. -/
structure OkS (nx : List UInt16) (wt : List Mg) : Prop where
  ok : OkQ nx wt
  len : nx.length = 2
  ss : ∀ x ∈ wt, x.ss.toNat < 12
  n0 : (atN nx 0).toNat ≤ 12
theorem left_sub {wt : List Mg} {s : Int} {n : UInt16} {x : Mg} (h : x ∈ leftK wt s n) : x ∈ wt := (List.mem_filter.1 h).1
theorem OkS.put {nx : List UInt16} {wt : List Mg} (h : OkS nx wt) (hl : wt.length ≤ 1000) (m : Mg) (hm : m.ss.toNat < 12) (he : putE nx wt m = 0) : OkS (putN nx wt m) (putW nx wt m) := by
  obtain ⟨h1, h2, h3⟩ := put_ok h.ok hl m he
  refine ⟨h1, h2.trans h.len, ?_, ?_⟩
  all_goals
    unfold putE at he
    by_cases c1 : nx.length ≤ m.st.toNat
    · rw [if_pos c1] at he; cases he
    rw [if_neg c1] at he
    by_cases c2 : m.fr = true
    · first
        | (unfold putW; rw [if_neg c1, if_pos c2]; exact h.ss)
        | (unfold putN; rw [if_neg c1, if_pos c2]; exact h.n0)
    rw [if_neg c2] at he
    by_cases c3 : (pastB m.ss (atN nx m.st.toNat) || wt.any (sameB m)) = true
    · rw [if_pos c3] at he; cases he
    have hx : ∀ x ∈ wt ++ [m], x.ss.toNat < 12 := fun x hx => by
      rcases List.mem_append.1 hx with hx | hx
      · exact h.ss x hx
      · rw [List.mem_singleton] at hx; subst hx; exact hm
  · unfold putW
    rw [if_neg c1, if_neg c2, if_neg c3]
    exact fun x hxx => hx x (left_sub hxx)
  · unfold putN
    rw [if_neg c1, if_neg c2, if_neg c3]
    rw [atN_set (by omega)]
    rw [Bool.or_eq_true, not_or, Bool.not_eq_true, Bool.not_eq_true] at c3
    by_cases e : 0 = m.st.toNat
    · rw [if_pos e]
      exact next_le (by simp; omega) (dis_append h.ok.dis m c3.2) _ _ (Nat.le_refl _) (by omega) (by rw [← e]; exact h.n0) hx
    · rw [if_neg e]; exact h.n0
/-- What Skip makes of such a queue, on stream 0. -/
structure SkR (nx : List UInt16) (wt : List Mg) (at' : UInt16) (N : List UInt16) (W T : List Mg) : Prop where
  e0 : skipE nx 0 at' = 0
  len : N.length = 2
  n1 : atN N 1 = atN nx 1
  n0 : atN N 0 = up at' T.length
  tl : T.length ≤ 1000
  wl : W.length ≤ wt.length
  w1 : waitsN W 1 = waitsN wt 1
  w0 : T.length + waitsN W 0 ≤ waitsN wt 0
  told : ∀ i (h : i < T.length), T[i].st = 0 ∧ T[i].ss = up at' i
  left : ∀ x ∈ W, x.st = 0 → (atN N 0).toNat < x.ss.toNat
theorem OkS.skip {nx : List UInt16} {wt : List Mg} (h : OkS nx wt) (hl : wt.length ≤ 1000) (p : Nat) (hp : p < 12) : SkR nx wt (up (atN nx 0) p) (skipN nx wt 0 (up (atN nx 0) p)) (skipW nx wt 0 (up (atN nx 0) p)) (skipT nx wt 0 (up (atN nx 0) p)) := by
  have hn0 := h.n0
  have hlen := h.len
  have hpast : pastB (up (atN nx 0) p) (atN nx (0 : Int).toNat) = false := by
    unfold pastB
    rw [show (0 : Int).toNat = 0 from rfl, up_sub _ (by omega)]
    simp; omega
  have c1 : ¬ ((0 : Int) < 0 ∨ (nx.length : Int) ≤ 0) := by omega
  have c2 : ¬ pastB (up (atN nx 0) p) (atN nx (0 : Int).toNat) = true := by rw [hpast]; decide
  have he : skipE nx 0 (up (atN nx 0) p) = 0 := by unfold skipE; rw [if_neg c1, if_neg c2]
  obtain ⟨k1, k2, k3⟩ := skip_ok h.ok hl (by omega) 0 (up (atN nx 0) p) he
  have eN : skipN nx wt 0 (up (atN nx 0) p) = nx.set 0 (nextK (keepG wt 0 (up (atN nx 0) p)) 0 (up (atN nx 0) p)) := by unfold skipN; rw [if_neg c1, if_neg c2]; rfl
  have eW : skipW nx wt 0 (up (atN nx 0) p) = leftK (keepG wt 0 (up (atN nx 0) p)) 0 (up (atN nx 0) p) := by unfold skipW; rw [if_neg c1, if_neg c2]
  have eT : skipT nx wt 0 (up (atN nx 0) p) = tellK (keepG wt 0 (up (atN nx 0) p)) 0 (up (atN nx 0) p) := by unfold skipT; rw [if_neg c1, if_neg c2]
  rw [eN, eW] at k1
  rw [eN] at k2
  rw [eW] at k3
  rw [eN, eW, eT]
  have hat : (up (atN nx 0) p).toNat ≤ 23 := by
    unfold up
    rw [UInt16.toNat_add, UInt16.toNat_ofNat']
    show ((atN nx 0).toNat + p % 65536) % 65536 ≤ 23
    omega
  generalize up (atN nx 0) p = a at *
  have hkl : (keepG wt 0 a).length ≤ wt.length := List.length_filter_le ..
  have hkd : Dis (keepG wt 0 a) := dis_filter _ h.ok.dis
  have hks : ∀ x ∈ keepG wt 0 a, x.ss.toNat < 12 := fun x hx => h.ss x (List.mem_filter.1 hx).1
  obtain ⟨t1, t2⟩ := tell_len (wt := keepG wt 0 a) (by omega) hkd 0 a
  obtain ⟨r1, r2, r3⟩ := runK_spec (0 : Int) a (wt := keepG wt 0 a) (by omega)
  obtain ⟨l, el, hll, hat'⟩ := told_at hkd r1
  have hset : ∀ u, atN (nx.set 0 u) 0 = u := fun u => by rw [atN_set (by omega), if_pos rfl]
  have hnl := next_le (by omega) hkd 0 a (B := 23) (by omega) (by omega) hat hks
  refine ⟨he, by omega, by rw [atN_set (by omega), if_neg (by omega)], by rw [hset, t1]; rfl, by omega, k3, ?_, ?_, ?_, ?_⟩
  · rw [leftK_other _ (by omega), keepG_other _ (by omega)]
  · have := waits_tell (wt := keepG wt 0 a) (by omega) 0 a
    have := keepG_le wt 0 0 a
    omega
  · intro i hi
    have ei : (tellK (keepG wt 0 a) 0 a) = l := el
    have hil : i < l.length := by rw [← ei]; exact hi
    obtain ⟨-, q2, q3⟩ := hat' i hil
    simp only [ei]
    refine ⟨?_, q3⟩
    exact (ofB_of (s := 0)).1 q2
  · intro x hx hst
    rw [hset]
    have h9 := k1.ok x hx
    rw [hst] at h9
    have h10 := h9.2
    rw [show (0 : UInt16).toNat = 0 from rfl, hset] at h10
    have hs := hks x (left_sub hx)
    generalize nextK (keepG wt 0 a) 0 a = nk at *
    have e := UInt16.toNat_sub x.ss nk
    have hb : nk.toNat ≤ 23 := hnl
    by_cases hlt : nk.toNat < x.ss.toNat
    · exact hlt
    · exfalso
      have h11 := h10.1
      have h12 := h10.2
      rw [e] at h11 h12
      have : (65536 - nk.toNat + x.ss.toNat) % 65536 = (65536 - nk.toNat + x.ss.toNat) % 65536 := rfl
      by_cases he : nk.toNat = x.ss.toNat
      · rw [he] at h11
        have : (2 ^ 16 - x.ss.toNat + x.ss.toNat) % 2 ^ 16 = 0 := by omega
        omega
      · have : (2 ^ 16 - nk.toNat + x.ss.toNat) % 2 ^ 16 = 65536 - nk.toNat + x.ss.toNat := by omega
        omega
theorem pick16 (c : Int) (n : Int) (h0 : 0 < n) (h1 : n ≤ 100) : ∃ u : UInt16, pickI c n = (u.toNat : Int) ∧ (u.toNat : Int) < n := by
  obtain ⟨p1, p2⟩ := pickI_le (c := c) h0
  refine ⟨UInt16.ofNat (pickI c n).toNat, ?_, ?_⟩
  all_goals
    rw [UInt16.toNat_ofNat']
    have : (pickI c n).toNat % 2 ^ 16 = (pickI c n).toNat := Nat.mod_eq_of_lt (by omega)
    omega
theorem up_wrap (n p : UInt16) : IntKind.u16.wrap ((n.toNat : Int) + (p.toNat : Int)) = ((up n p.toNat).toNat : Int) := by
  unfold up
  rw [UInt16.toNat_add, UInt16.ofNat_toNat]
  show ((n.toNat : Int) + (p.toNat : Int)) % 65536 = (((n.toNat + p.toNat) % 65536 : Nat) : Int)
  omega
theorem up_sum (n : UInt16) (k : Nat) : IntKind.u16.wrap ((n.toNat : Int) + (k : Int)) = ((up n k).toNat : Int) := by
  unfold up
  rw [UInt16.toNat_add, UInt16.toNat_ofNat']
  show ((n.toNat : Int) + (k : Int)) % 65536 = (((n.toNat + k % 65536) % 65536 : Nat) : Int)
  omega
theorem wrap16 (u : UInt16) : IntKind.u16.wrap (u.toNat : Int) = (u.toNat : Int) := by
  have h := u.toNat_lt
  show (u.toNat : Int) % 65536 = _
  omega
theorem tdiv_fits {c : Int} (h : Fits c) (d : Nat) (hd : 0 < d := by decide) : Fits (c.tdiv (d : Int)) := by
  obtain ⟨h1, h2⟩ := h
  have h3 : (c.tdiv (d : Int)).natAbs ≤ c.natAbs := by
    rw [Int.natAbs_tdiv]
    exact Nat.div_le_self _ _
  have h4 : 0 ≤ c → 0 ≤ c.tdiv (d : Int) := fun h => Int.tdiv_nonneg h (by omega)
  have h5 : c ≤ 0 → c.tdiv (d : Int) ≤ 0 := fun h => by
    have h6 := Int.tdiv_nonneg (a := -c) (b := (d : Int)) (by omega) (by omega)
    rw [Int.neg_tdiv] at h6
    omega
  constructor <;> omega
end Go.Proofs.Ytondgdacjbfihaa
