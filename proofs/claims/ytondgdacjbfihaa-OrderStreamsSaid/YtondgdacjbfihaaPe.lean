/-
  Messages of streams, in whatever order they come: plain.
-/
import Derived.Test.YtondgdacjbfihaaPd
namespace Go.Proofs.Ytondgdacjbfihaa
open Go.RowKit
set_option linter.unusedVariables false
set_option linter.unusedSimpArgs false

def caB (came : List Bool) (i : Nat) : Bool := came.getD i false
theorem caB_set {came : List Bool} {i : Nat} (h : i < came.length) (j : Nat) : caB (came.set i true) j = if j = i then true else caB came j := by
  unfold caB
  rw [List.getD_eq_getElem?_getD, List.getD_eq_getElem?_getD, List.getElem?_set]
  by_cases e : i = j
  · subst e; simp [h]
  · rw [if_neg e, if_neg (fun h => e h.symm)]
def toN (told : List Nat) (s : Nat) : Nat := told.getD s 0
theorem toN_set {told : List Nat} {i : Nat} (h : i < told.length) (v j : Nat) : toN (told.set i v) j = if j = i then v else toN told j := by
  unfold toN
  rw [List.getD_eq_getElem?_getD, List.getD_eq_getElem?_getD, List.getElem?_set]
  by_cases e : i = j
  · subst e; simp [h]
  · rw [if_neg e, if_neg (fun h => e h.symm)]
theorem up_dist (n : UInt16) {a b : Nat} (h : a ≤ b) (hb : b < 65536) : (up n b - up n a).toNat = b - a := by
  have e : up n b = up (up n a) (b - a) := by rw [up_up, Nat.add_sub_cancel' h]
  rw [e, up_sub _ (by omega)]
theorem up_back (n : UInt16) {a b : Nat} (h : a < b) (hb : b < 65536) : (up n a - up n b).toNat = 65536 - (b - a) := by
  have h1 := up_dist n (Nat.le_of_lt h) hb
  have h2 := UInt16.toNat_sub (up n b) (up n a)
  have h3 := UInt16.toNat_sub (up n a) (up n b)
  have h4 := (up n a).toNat_lt
  have h5 := (up n b).toNat_lt
  rw [h3]
  rw [h1] at h2
  have h6 : (2 ^ 16 - (up n a).toNat + (up n b).toNat) % 2 ^ 16 = b - a := h2.symm
  omega
/-- What stands: which came, how many of each stream were told, what waits. -/
structure InvS (F nx : List UInt16) (wt : List Mg) (came : List Bool) (told : List Nat) : Prop where
  lenN : nx.length = F.length
  lenC : came.length = F.length * 20
  lenT : told.length = F.length
  dis : Dis wt
  top : ∀ s, s < F.length → toN told s ≤ 20
  nxt : ∀ s, s < F.length → atN nx s = up (atN F s) (toN told s)
  had : ∀ s, s < F.length → ∀ k, k < toN told s → caB came (s * 20 + k) = true
  gap : ∀ s, s < F.length → toN told s < 20 → caB came (s * 20 + toN told s) = false
  wts : ∀ x ∈ wt, x.st.toNat < F.length ∧ ∃ k, k < 20 ∧ toN told x.st.toNat < k ∧ x.ss = up (atN F x.st.toNat) k ∧ caB came (x.st.toNat * 20 + k) = true
  all : ∀ s, s < F.length → ∀ k, k < 20 → toN told s < k → caB came (s * 20 + k) = true → ∃ x ∈ wt, x.st.toNat = s ∧ x.ss = up (atN F s) k
theorem InvS.okQ {F nx : List UInt16} {wt : List Mg} {came : List Bool} {told : List Nat} (h : InvS F nx wt came told) : OkQ nx wt := by
  refine ⟨h.dis, fun x hx => ?_⟩
  obtain ⟨h1, k, hk, hlt, hs, -⟩ := h.wts x hx
  rw [h.lenN]
  refine ⟨h1, ?_⟩
  rw [h.nxt _ h1, hs, up_dist _ (by omega) (by omega)]
  omega
theorem InvS.start (F : List UInt16) : InvS F F [] (List.replicate (F.length * 20) false) (List.replicate F.length 0) := by
  have h0 : ∀ s, toN (List.replicate F.length 0) s = 0 := fun s => by unfold toN; rw [List.getD_eq_getElem?_getD, List.getElem?_replicate]; split <;> rfl
  have hc : ∀ i, caB (List.replicate (F.length * 20) false) i = false := fun i => by unfold caB; rw [List.getD_eq_getElem?_getD, List.getElem?_replicate]; split <;> rfl
  refine ⟨rfl, by simp, by simp, List.Pairwise.nil, fun s _ => by rw [h0]; omega, fun s _ => by rw [h0, up_zero], fun s _ k hk => by rw [h0] at hk; omega, fun s _ _ => hc _, fun x hx => (by cases hx), fun s _ k _ _ e => by rw [hc] at e; cases e⟩
def msgS (s : UInt16) (n : UInt16) : Mg := ⟨0, false, s, n, 0, ⟨#[109]⟩⟩
section
variable {F nx : List UInt16} {wt : List Mg} {came : List Bool} {told : List Nat} {s : UInt16} {k : Nat}
theorem InvS.there (h : InvS F nx wt came told) (hs : s.toNat < F.length) (hk : k < 20) (hc : caB came (s.toNat * 20 + k) = true) : putE nx wt (msgS s (up (atN F s.toNat) k)) = 9 := by
  unfold putE
  have c1 : ¬ nx.length ≤ (msgS s (up (atN F s.toNat) k)).st.toNat := by show ¬ nx.length ≤ s.toNat; rw [h.lenN]; omega
  have hbad : (pastB (msgS s (up (atN F s.toNat) k)).ss (atN nx (msgS s (up (atN F s.toNat) k)).st.toNat) || wt.any (sameB (msgS s (up (atN F s.toNat) k)))) = true := by
    show (pastB (up (atN F s.toNat) k) (atN nx s.toNat) || _) = true
    rw [h.nxt _ hs]
    rcases Nat.lt_trichotomy k (toN told s.toNat) with hl | he | hg
    · rw [Bool.or_eq_true]
      left
      unfold pastB
      have := h.top _ hs
      rw [up_back _ hl (by omega), decide_eq_true_iff]
      omega
    · have := h.gap _ hs (by omega)
      rw [← he, hc] at this
      cases this
    · obtain ⟨x, hx, e1, e2⟩ := h.all _ hs k hk hg hc
      rw [Bool.or_eq_true]
      right
      rw [List.any_eq_true]
      refine ⟨x, hx, ?_⟩
      unfold sameB
      rw [Bool.and_eq_true, decide_eq_true_iff, decide_eq_true_iff]
      exact ⟨UInt16.toNat_inj.1 e1, e2⟩
  rw [if_neg c1, hbad]
  rfl
theorem InvS.fresh (h : InvS F nx wt came told) (hs : s.toNat < F.length) (hk : k < 20) (hc : caB came (s.toNat * 20 + k) = false) : toN told s.toNat ≤ k ∧ (pastB (up (atN F s.toNat) k) (atN nx s.toNat) || wt.any (sameB (msgS s (up (atN F s.toNat) k)))) = false := by
  have hle : toN told s.toNat ≤ k := by
    by_cases hl : k < toN told s.toNat
    · have := h.had _ hs k hl
      rw [hc] at this
      cases this
    · omega
  refine ⟨hle, ?_⟩
  rw [Bool.or_eq_false_iff]
  constructor
  · unfold pastB
    rw [h.nxt _ hs, up_dist _ hle (by omega), decide_eq_false_iff_not]
    omega
  · rw [List.any_eq_false]
    intro x hx e
    unfold sameB at e
    rw [Bool.and_eq_true, decide_eq_true_iff, decide_eq_true_iff] at e
    obtain ⟨e1, e2⟩ := e
    have e1' : x.st = s := e1
    obtain ⟨-, k', hk', -, hs', hc'⟩ := h.wts x hx
    rw [e1'] at hs' hc'
    have : k' = k := up_inj _ (by omega) (by omega) (hs'.symm.trans e2)
    subst this
    rw [hc] at hc'
    cases hc'
/-- A message that did not come is let in, and tells so many. -/
theorem InvS.step (h : InvS F nx wt came told) (hl : wt.length ≤ 900) (hs : s.toNat < F.length) (hk : k < 20) (hc : caB came (s.toNat * 20 + k) = false) :
    ∃ K, putE nx wt (msgS s (up (atN F s.toNat) k)) = 0 ∧ (putT nx wt (msgS s (up (atN F s.toNat) k))).length = K ∧ toN told s.toNat + K ≤ 20 ∧ (∀ i (hi : i < (putT nx wt (msgS s (up (atN F s.toNat) k))).length), (putT nx wt (msgS s (up (atN F s.toNat) k)))[i].st = s ∧ (putT nx wt (msgS s (up (atN F s.toNat) k)))[i].ss = up (atN F s.toNat) (toN told s.toNat + i)) ∧
      InvS F (putN nx wt (msgS s (up (atN F s.toNat) k))) (putW nx wt (msgS s (up (atN F s.toNat) k))) (came.set (s.toNat * 20 + k) true) (told.set s.toNat (toN told s.toNat + K)) := by
  obtain ⟨hle, hgood⟩ := h.fresh hs hk hc
  have c1 : ¬ nx.length ≤ (msgS s (up (atN F s.toNat) k)).st.toNat := by show ¬ nx.length ≤ s.toNat; rw [h.lenN]; omega
  have c2 : ¬ (msgS s (up (atN F s.toNat) k)).fr = true := by show ¬ false = true; decide
  have c3 : ¬ (pastB (msgS s (up (atN F s.toNat) k)).ss (atN nx (msgS s (up (atN F s.toNat) k)).st.toNat) || wt.any (sameB (msgS s (up (atN F s.toNat) k)))) = true := by
    show ¬ (pastB (up (atN F s.toNat) k) (atN nx s.toNat) || _) = true
    rw [hgood]; decide
  have eE : putE nx wt (msgS s (up (atN F s.toNat) k)) = 0 := by unfold putE; rw [if_neg c1, if_neg c2, if_neg c3]
  have eN : putN nx wt (msgS s (up (atN F s.toNat) k)) = nx.set s.toNat (nextK (wt ++ [msgS s (up (atN F s.toNat) k)]) (s.toNat : Int) (up (atN F s.toNat) (toN told s.toNat))) := by unfold putN; rw [if_neg c1, if_neg c2, if_neg c3, ← h.nxt _ hs]; rfl
  have eW : putW nx wt (msgS s (up (atN F s.toNat) k)) = leftK (wt ++ [msgS s (up (atN F s.toNat) k)]) (s.toNat : Int) (up (atN F s.toNat) (toN told s.toNat)) := by unfold putW; rw [if_neg c1, if_neg c2, if_neg c3, ← h.nxt _ hs]; rfl
  have eT : putT nx wt (msgS s (up (atN F s.toNat) k)) = tellK (wt ++ [msgS s (up (atN F s.toNat) k)]) (s.toNat : Int) (up (atN F s.toNat) (toN told s.toNat)) := by unfold putT; rw [if_neg c1, if_neg c2, if_neg c3, ← h.nxt _ hs]; rfl
  have hdis : Dis (wt ++ [msgS s (up (atN F s.toNat) k)]) := dis_append h.dis _ (by rw [Bool.or_eq_false_iff] at hgood; exact hgood.2)
  rw [eE, eN, eW, eT]
  have htop := h.top _ hs
  -- what is there of the stream
  have hci : s.toNat * 20 + k < came.length := by rw [h.lenC]; omega
  have hmem : ∀ x ∈ wt ++ [msgS s (up (atN F s.toNat) k)], x.st.toNat < F.length ∧ ∃ k', k' < 20 ∧ toN told x.st.toNat ≤ k' ∧ x.ss = up (atN F x.st.toNat) k' ∧ caB (came.set (s.toNat * 20 + k) true) (x.st.toNat * 20 + k') = true ∧ (x.st ≠ s → toN told x.st.toNat < k') := fun x hx => by
    rcases List.mem_append.1 hx with hx | hx
    · obtain ⟨a1, k', a2, a3, a4, a5⟩ := h.wts x hx
      refine ⟨a1, k', a2, by omega, a4, ?_, fun _ => a3⟩
      rw [caB_set hci]
      split
      · rfl
      · exact a5
    · rw [List.mem_singleton] at hx
      subst hx
      refine ⟨hs, k, hk, hle, rfl, ?_, fun e => absurd rfl e⟩
      show caB _ (s.toNat * 20 + k) = true
      rw [caB_set hci, if_pos rfl]
  have hconv : ∀ k', k' < 20 → toN told s.toNat ≤ k' → caB (came.set (s.toNat * 20 + k) true) (s.toNat * 20 + k') = true → ∃ x ∈ wt ++ [msgS s (up (atN F s.toNat) k)], x.st = s ∧ x.ss = up (atN F s.toNat) k' := fun k' h1 h2 h3 => by
    rw [caB_set hci] at h3
    by_cases e : k' = k
    · subst e
      exact ⟨_, List.mem_append.2 (.inr (List.mem_singleton.2 rfl)), rfl, rfl⟩
    · rw [if_neg (by omega)] at h3
      have hgt : toN told s.toNat < k' := by
        rcases Nat.lt_or_eq_of_le h2 with hh | hh
        · exact hh
        · have := h.gap _ hs (by omega)
          rw [hh, h3] at this
          cases this
      obtain ⟨x, hx, e1, e2⟩ := h.all _ hs k' h1 hgt h3
      exact ⟨x, List.mem_append.2 (.inl hx), UInt16.toNat_inj.1 e1, e2⟩
  have hwl : ∀ x ∈ wt, x ∈ wt ++ [msgS s (up (atN F s.toNat) k)] := fun x hx => List.mem_append.2 (.inl hx)
  have hlen2 : (wt ++ [msgS s (up (atN F s.toNat) k)]).length ≤ 60000 := by simp; omega
  generalize wt ++ [msgS s (up (atN F s.toNat) k)] = wl at *
  generalize hca : came.set (s.toNat * 20 + k) true = ca at *
  obtain ⟨r1, r2, r3⟩ := runK_spec (s.toNat : Int) (up (atN F s.toNat) (toN told s.toNat)) (wt := wl) hlen2
  obtain ⟨l, el, hll, hat⟩ := told_at hdis r1
  have hhas : ∀ j, j < 60000 → (hasS wl (s.toNat : Int) (up (up (atN F s.toNat) (toN told s.toNat)) j) = true ↔ toN told s.toNat + j < 20 ∧ caB ca (s.toNat * 20 + (toN told s.toNat + j)) = true) := fun j hj => by
    rw [hasS_iff, up_up]
    constructor
    · rintro ⟨x, hx, ho, e⟩
      rw [ofB_of] at ho
      obtain ⟨-, k', b1, b2, b3, b4, -⟩ := hmem x hx
      rw [ho] at b3 b4
      have : k' = toN told s.toNat + j := up_inj _ (by omega) (by omega) (b3.symm.trans e)
      subst this
      exact ⟨b1, b4⟩
    · rintro ⟨b1, b2⟩
      obtain ⟨x, hx, e1, e2⟩ := hconv _ b1 (by omega) b2
      exact ⟨x, hx, ofB_of.2 e1, e2⟩
  have hKb : runK wl (s.toNat : Int) (up (atN F s.toNat) (toN told s.toNat)) ≤ 60000 := by omega
  have hleft : ∀ x ∈ leftK wl (s.toNat : Int) (up (atN F s.toNat) (toN told s.toNat)), x ∈ wl ∧ goneL (s.toNat : Int) (up (atN F s.toNat) (toN told s.toNat)) (runK wl (s.toNat : Int) (up (atN F s.toNat) (toN told s.toNat))) x = false := fun x hx => ⟨(List.mem_filter.1 hx).1, by simpa using (List.mem_filter.1 hx).2⟩
  have htell : tellK wl (s.toNat : Int) (up (atN F s.toNat) (toN told s.toNat)) = l := el
  have hin : ∀ x ∈ wl, goneL (s.toNat : Int) (up (atN F s.toNat) (toN told s.toNat)) (runK wl (s.toNat : Int) (up (atN F s.toNat) (toN told s.toNat))) x = false → x ∈ leftK wl (s.toNat : Int) (up (atN F s.toNat) (toN told s.toNat)) := fun x hx e => List.mem_filter.2 ⟨hx, by rw [e]; rfl⟩
  have hnx : nextK wl (s.toNat : Int) (up (atN F s.toNat) (toN told s.toNat)) = up (atN F s.toNat) (toN told s.toNat + runK wl (s.toNat : Int) (up (atN F s.toNat) (toN told s.toNat))) := by unfold nextK; rw [up_up]
  have hdl : Dis (leftK wl (s.toNat : Int) (up (atN F s.toNat) (toN told s.toNat))) := dis_filter _ hdis
  rw [hnx, htell]
  generalize hkk : runK wl (s.toNat : Int) (up (atN F s.toNat) (toN told s.toNat)) = K at *
  generalize leftK wl (s.toNat : Int) (up (atN F s.toNat) (toN told s.toNat)) = W at *
  have hT20 : toN told s.toNat + K ≤ 20 := by
    cases K with
    | zero => omega
    | succ K' => have := ((hhas K' (by omega)).1 (r1 K' (by omega))).1; omega
  have hmono : ∀ i, caB came i = true → caB ca i = true := fun i hi => by
    rw [← hca, caB_set hci]
    split
    · rfl
    · exact hi
  have hother : ∀ s' k', s' ≠ s.toNat → k' < 20 → caB ca (s' * 20 + k') = caB came (s' * 20 + k') := fun s' k' hne hk' => by
    rw [← hca, caB_set hci, if_neg (by omega)]
  have hset : ∀ j, toN (told.set s.toNat (toN told s.toNat + K)) j = if j = s.toNat then toN told s.toNat + K else toN told j := fun j => toN_set (by rw [h.lenT]; exact hs) _ j
  refine ⟨K, rfl, hll, hT20, fun i hi => ?_, ⟨by rw [List.length_set]; exact h.lenN, by rw [← hca, List.length_set]; exact h.lenC, by rw [List.length_set]; exact h.lenT, hdl, fun s' h' => ?_, fun s' h' => ?_, fun s' h' k' hk' => ?_, fun s' h' ht => ?_, fun x hx => ?_, fun s' h' k' hk' ht hc' => ?_⟩⟩
  · obtain ⟨-, q1, q2⟩ := hat i hi
    exact ⟨ofB_of.1 q1, by rw [q2, up_up]⟩
  · rw [hset]; split
    · exact hT20
    · exact h.top s' h'
  · rw [hset, atN_set (by rw [h.lenN]; exact hs)]
    by_cases e : s' = s.toNat
    · subst e; rw [if_pos rfl, if_pos rfl]
    · rw [if_neg e, if_neg e]; exact h.nxt s' h'
  · rw [hset] at hk'
    by_cases e : s' = s.toNat
    · subst e
      rw [if_pos rfl] at hk'
      by_cases hlt : k' < toN told s.toNat
      · exact hmono _ (h.had _ h' k' hlt)
      · have := ((hhas (k' - toN told s.toNat) (by omega)).1 (r1 _ (by omega))).2
        rw [Nat.add_sub_cancel' (by omega)] at this
        exact this
    · rw [if_neg e] at hk'
      exact hmono _ (h.had _ h' k' hk')
  · rw [hset] at ht ⊢
    by_cases e : s' = s.toNat
    · subst e
      rw [if_pos rfl] at ht ⊢
      cases hb : caB ca (s.toNat * 20 + (toN told s.toNat + K)) with
      | false => rfl
      | true =>
        have := (hhas K (by omega)).2 ⟨ht, hb⟩
        rw [r3] at this
        cases this
    · rw [if_neg e] at ht ⊢
      rw [hother _ _ e ht]
      exact h.gap s' h' ht
  · obtain ⟨hxw, hg⟩ := hleft x hx
    obtain ⟨a1, k', a2, a3, a4, a5, a6⟩ := hmem x hxw
    refine ⟨a1, k', a2, ?_, a4, a5⟩
    rw [hset]
    by_cases e : x.st = s
    · rw [e, if_pos rfl]
      rw [e] at a3 a4 a5
      unfold goneL at hg
      rw [ofB_of.2 e, a4, Bool.true_and, decide_eq_false_iff_not, up_dist _ a3 (by omega)] at hg
      have hne : k' ≠ toN told s.toNat + K := fun ee => by
        have := (hhas K (by omega)).2 ⟨by omega, by rw [← ee]; exact a5⟩
        rw [r3] at this
        cases this
      omega
    · rw [if_neg (fun ee => e (UInt16.toNat_inj.1 ee))]
      exact a6 e
  · rw [hset] at ht
    by_cases e : s' = s.toNat
    · subst e
      rw [if_pos rfl] at ht
      obtain ⟨x, hx, e1, e2⟩ := hconv k' hk' (by omega) hc'
      refine ⟨x, hin x hx ?_, by rw [e1], e2⟩
      unfold goneL
      rw [e2, up_dist _ (by omega) (by omega), ofB_of.2 e1, Bool.true_and, decide_eq_false_iff_not]
      omega
    · rw [if_neg e] at ht
      rw [hother _ _ e hk'] at hc'
      obtain ⟨x, hx, e1, e2⟩ := h.all s' h' k' hk' ht hc'
      refine ⟨x, hin x ?_ ?_, e1, e2⟩
      · exact hwl x hx
      · unfold goneL
        have : ofB (s.toNat : Int) x = false := by
          rw [← Bool.not_eq_true, ofB_of]
          intro ee
          rw [ee] at e1
          exact e e1.symm
        rw [this, Bool.false_and]
end
end Go.Proofs.Ytondgdacjbfihaa
