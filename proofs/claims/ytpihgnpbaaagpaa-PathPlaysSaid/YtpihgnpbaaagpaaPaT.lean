/-
  Three paths, whatever happens to them: plain.
-/
import Derived.Test.YtpihgnpbaaagpaaPaN
namespace Go.Proofs.Ytpihgnpbaaagpaa
open Go.RowKit
set_option linter.unusedVariables false
set_option linter.unusedSimpArgs false
set_option maxRecDepth 100000

/-- What a path is behind k acts. -/
structure OkP (k : Nat) (x : Pa) : Prop where
  st1 : 1 ≤ x.st
  st3 : x.st ≤ 3
  er0 : 0 ≤ x.er
  erk : x.er ≤ (k : Int)
  ina : x.st = 3 → 5 < x.er
  wf : WfT x.tm
theorem OkP.up {k : Nat} {x : Pa} (h : OkP k x) : OkP (k + 1) x := ⟨h.st1, h.st3, h.er0, by have := h.erk; omega, h.ina, h.wf⟩
theorem OkP.beat {k : Nat} {x : Pa} (h : OkP k x) (n now : Int) : OkP (k + 1) (beatF n now x) := ⟨h.st1, h.st3, h.er0, by have := h.erk; show x.er ≤ _; omega, h.ina, h.wf⟩
theorem okSt_in {s : Int} (h1 : 1 ≤ s) (h3 : s ≤ 3) : 1 ≤ okSt s ∧ okSt s ≤ 2 := by unfold okSt; split <;> omega
theorem OkP.heard {k : Nat} {x : Pa} (h : OkP k x) : OkP (k + 1) (heardF x) := by
  have h1 := okSt_in h.st1 h.st3
  refine ⟨h1.1, by show okSt x.st ≤ 3; omega, Int.le_refl _, by show (0 : Int) ≤ _; omega, fun e => ?_, good_wf h.wf⟩
  have e' : okSt x.st = 3 := e
  omega
theorem upSt_in {s : Int} (h1 : 1 ≤ s) (h3 : s ≤ 3) : 2 ≤ upSt s ∧ upSt s ≤ 3 := by unfold upSt; split <;> omega
theorem OkP.ack {k : Nat} {x : Pa} (h : OkP k x) (now : Int) : OkP (k + 1) (ackF now x) ∧ (ackF now x).st = 2 ∧ (ackF now x).er = 0 := by
  have h1 := upSt_in h.st1 h.st3
  have h2 : okSt (upSt x.st) = 2 := by unfold okSt; split <;> omega
  refine ⟨⟨by show 1 ≤ okSt (upSt x.st); omega, by show okSt (upSt x.st) ≤ 3; omega, Int.le_refl _, by show (0 : Int) ≤ _; omega, fun e => ?_, good_wf (sample_wf _ _)⟩, h2, rfl⟩
  have e' : okSt (upSt x.st) = 3 := e
  omega
theorem OkP.fail {k : Nat} {x : Pa} (h : OkP k x) (hk : k ≤ 1000) : OkP (k + 1) (failF x) := by
  have h0 := h.er0
  have h1 := h.erk
  have h2 := h.st1
  have h3 := h.st3
  have h4 := h.ina
  have hw : wrap64 (x.er + 1) = x.er + 1 := by unfold wrap64; omega
  have hd : downSt (x.er + 1) x.st = 3 → 5 < x.er + 1 := by unfold downSt; split <;> omega
  have hd1 : 1 ≤ downSt (x.er + 1) x.st ∧ downSt (x.er + 1) x.st ≤ 3 := by unfold downSt; split <;> omega
  refine ⟨?_, ?_, ?_, ?_, ?_, back_wf h.wf⟩
  · show 1 ≤ downSt (wrap64 (x.er + 1)) x.st; rw [hw]; exact hd1.1
  · show downSt (wrap64 (x.er + 1)) x.st ≤ 3; rw [hw]; exact hd1.2
  · show 0 ≤ wrap64 (x.er + 1); rw [hw]; omega
  · show wrap64 (x.er + 1) ≤ _; rw [hw]; omega
  · show downSt (wrap64 (x.er + 1)) x.st = 3 → 5 < wrap64 (x.er + 1); rw [hw]; exact hd
/-- Whether it is confirmed does not go back. -/
theorem heard_st {x : Pa} (k : Nat) (h : OkP k x) : (heardF x).st = 1 ↔ x.st = 1 := by
  show okSt x.st = 1 ↔ _
  unfold okSt; split <;> omega
theorem fail_st {x : Pa} (k : Nat) (h : OkP k x) : (failF x).st = 1 ↔ x.st = 1 := by
  show downSt _ x.st = 1 ↔ _
  unfold downSt; split <;> omega
/-- Three paths behind k acts. -/
structure PlI (k : Nat) (p : Ps) : Prop where
  len : p.l.length = 3
  ok : ∀ x ∈ p.l, OkP k x
  pr0 : 0 ≤ p.pr
  pr3 : p.pr < 3
  prst : (atL p.l p.pr).st ≠ 1
theorem atL_mem {l : List Pa} {i : Int} (h0 : 0 ≤ i) (h3 : i < (l.length : Int)) : atL l i ∈ l := by
  unfold atL
  have hlt : i.toNat < l.length := by omega
  rw [List.getD_eq_getElem?_getD, List.getElem?_eq_getElem hlt]
  exact List.getElem_mem hlt
theorem atL_upd {l : List Pa} {i : Int} {f : Pa → Pa} (h0 : 0 ≤ i) (h3 : i < (l.length : Int)) : atL (updL l i f) i = f (atL l i) := by
  unfold atL updL
  have hlt : i.toNat < l.length := by omega
  rw [List.getD_eq_getElem?_getD, List.getElem?_set_self hlt]
  rfl
theorem atL_other {l : List Pa} {i j : Int} {f : Pa → Pa} (h0 : 0 ≤ i) (hj : 0 ≤ j) (hne : j ≠ i) : atL (updL l i f) j = atL l j := by
  unfold atL updL
  rw [List.getD_eq_getElem?_getD, List.getElem?_set_ne (by omega), List.getD_eq_getElem?_getD]
theorem PlI.upd {k : Nat} {p : Ps} (h : PlI k p) {i : Int} (h0 : 0 ≤ i) (h3 : i < 3) (f : Pa → Pa) (al : Int) (hf : OkP k (atL p.l i) → OkP (k + 1) (f (atL p.l i))) (hs : (atL p.l i).st ≠ 1 → (f (atL p.l i)).st ≠ 1) : PlI (k + 1) ⟨updL p.l i f, p.pr, al⟩ := by
  have hl : i < (p.l.length : Int) := by rw [h.len]; exact h3
  refine ⟨by rw [← h.len]; exact updL_length _ _ _, fun x hx => ?_, h.pr0, h.pr3, ?_⟩
  · have hx' : x ∈ p.l.set i.toNat (f (p.l.getD i.toNat zeroPa)) := hx
    rcases List.mem_or_eq_of_mem_set hx' with hx | rfl
    · exact (h.ok x hx).up
    · exact hf (h.ok _ (atL_mem h0 hl))
  · show (atL (updL p.l i f) p.pr).st ≠ 1
    by_cases e : p.pr = i
    · rw [e, atL_upd h0 hl]
      exact hs (by rw [← e]; exact h.prst)
    · rw [atL_other h0 h.pr0 e]
      exact h.prst
theorem PlI.there {k : Nat} {p : Ps} (h : PlI k p) {i : Int} (h0 : 0 ≤ i) (h3 : i < 3) : thereB p.l.length i = true := by unfold thereB; rw [h.len]; exact decide_eq_true ⟨h0, by omega⟩
theorem PlI.up {k : Nat} {p : Ps} (h : PlI k p) : PlI (k + 1) p := ⟨h.len, fun x hx => (h.ok x hx).up, h.pr0, h.pr3, h.prst⟩
theorem PlI.beat {k : Nat} {p : Ps} (h : PlI k p) {i : Int} (h0 : 0 ≤ i) (h3 : i < 3) (n now : Int) : PlI (k + 1) (beatP p i n now) ∧ (atL (beatP p i n now).l i).st = (atL p.l i).st := by
  unfold beatP
  rw [if_pos (h.there h0 h3)]
  exact ⟨h.upd h0 h3 _ _ (fun x => x.beat n now) (fun x => x), by rw [atL_upd h0 (by rw [h.len]; exact h3)]; rfl⟩
theorem PlI.good {k : Nat} {p : Ps} (h : PlI k p) {i : Int} (h0 : 0 ≤ i) (h3 : i < 3) : PlI (k + 1) (goodP p i) ∧ ((atL (goodP p i).l i).st = 1 ↔ (atL p.l i).st = 1) := by
  have hm := h.ok _ (atL_mem (l := p.l) h0 (by rw [h.len]; exact h3))
  unfold goodP
  rw [if_pos (h.there h0 h3)]
  exact ⟨h.upd h0 h3 _ _ (fun x => x.heard) (fun x e => x ((heard_st k hm).1 e)), by rw [atL_upd h0 (by rw [h.len]; exact h3)]; exact heard_st k hm⟩
theorem PlI.fail {k : Nat} {p : Ps} (h : PlI k p) (hk : k ≤ 1000) {i : Int} (h0 : 0 ≤ i) (h3 : i < 3) : PlI (k + 1) (failP p i) ∧ ((atL (failP p i).l i).st = 1 ↔ (atL p.l i).st = 1) := by
  have hm := h.ok _ (atL_mem (l := p.l) h0 (by rw [h.len]; exact h3))
  unfold failP
  rw [if_pos (h.there h0 h3)]
  exact ⟨h.upd h0 h3 _ _ (fun x => x.fail hk) (fun x e => x ((fail_st k hm).1 e)), by rw [atL_upd h0 (by rw [h.len]; exact h3)]; exact fail_st k hm⟩
theorem PlI.ack {k : Nat} {p : Ps} (h : PlI k p) {i : Int} (h0 : 0 ≤ i) (h3 : i < 3) {n now : Int} (ha : ackB p i n now = true) : PlI (k + 1) (ackP p i n now) ∧ (atL (ackP p i n now).l i).st = 2 ∧ (atL (ackP p i n now).l i).er = 0 ∧ (ackP p i n now).al = 0 := by
  have hm := h.ok _ (atL_mem (l := p.l) h0 (by rw [h.len]; exact h3))
  unfold ackP
  rw [if_pos ha]
  refine ⟨h.upd h0 h3 _ _ (fun x => (x.ack now).1) (fun _ e => ?_), ?_, ?_, rfl⟩
  · rw [(hm.ack now).2.1] at e; cases e
  · show (atL (updL p.l i (ackF now)) i).st = 2
    rw [atL_upd h0 (by rw [h.len]; exact h3)]; exact (hm.ack now).2.1
  · show (atL (updL p.l i (ackF now)) i).er = 0
    rw [atL_upd h0 (by rw [h.len]; exact h3)]; rfl
theorem PlI.notAck {k : Nat} {p : Ps} (h : PlI k p) {i n now : Int} (ha : ackB p i n now = false) : ackP p i n now = p := by unfold ackP; rw [ha]; rfl
theorem PlI.prim {k : Nat} {p : Ps} (h : PlI k p) {i : Int} (h0 : 0 ≤ i) (h3 : i < 3) : ((atL p.l i).st = 1 ∧ primE p i = 11) ∨ ((atL p.l i).st ≠ 1 ∧ primE p i = 0 ∧ PlI (k + 1) (primP p i) ∧ (primP p i).l = p.l) := by
  by_cases h1 : (atL p.l i).st = 1
  · left; exact ⟨h1, by unfold primE; rw [if_pos (h.there h0 h3), if_pos h1]⟩
  · right
    have e : primE p i = 0 := by unfold primE; rw [if_pos (h.there h0 h3), if_neg h1]
    refine ⟨h1, e, ?_, ?_⟩
    · unfold primP; rw [if_pos e]; exact ⟨h.len, fun x hx => (h.ok x hx).up, h0, h3, h1⟩
    · unfold primP; rw [if_pos e]
theorem active_in {k : Nat} {p : Ps} (h : PlI k p) {i : Int} (ha : activeB p i = true) : 0 ≤ i ∧ i < 3 ∧ (atL p.l i).st ≠ 1 := by
  simp only [activeB, Bool.and_eq_true, decide_eq_true_eq] at ha
  have h1 := of_decide_eq_true ha.1
  rw [h.len] at h1
  exact ⟨h1.1, by omega, by rw [ha.2]; decide⟩
theorem PlI.choose {k : Nat} {p : Ps} (h : PlI k p) (n : Int) : 0 ≤ chooseP p n ∧ chooseP p n < 3 ∧ (atL p.l (chooseP p n)).st ≠ 1 := by
  have hpr : thereB p.l.length p.pr = true := h.there h.pr0 h.pr3
  unfold chooseP
  split
  · exact ⟨h.pr0, h.pr3, h.prst⟩
  · split
    · rename_i j hj
      unfold firstOf at hj
      have h1 := List.find?_some hj
      simp only [Bool.and_eq_true] at h1
      exact active_in h h1.2
    · split
      · rename_i ha
        exact active_in h ha
      · exact ⟨h.pr0, h.pr3, h.prst⟩
theorem start_pl : PlI 0 p3 := by
  refine ⟨l3a, fun x hx => ?_, by decide, by decide, by decide⟩
  have h : x ∈ [{ freshPa 60000 ⟨#[97, 97, 97, 97]⟩ with st := 2 }, freshPa 60000 ⟨#[98, 98, 98, 98]⟩, freshPa 60000 ⟨#[99, 99, 99, 99]⟩] := hx
  simp only [List.mem_cons, List.not_mem_nil, or_false] at h
  rcases h with rfl | rfl | rfl
  · exact ⟨by decide, by decide, by decide, by decide, by decide, new_wf⟩
  · exact ⟨by decide, by decide, by decide, by decide, by decide, new_wf⟩
  · exact ⟨by decide, by decide, by decide, by decide, by decide, new_wf⟩
end Go.Proofs.Ytpihgnpbaaagpaa
