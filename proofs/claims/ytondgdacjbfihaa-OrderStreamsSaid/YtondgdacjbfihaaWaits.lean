/-
  A region that draws its order, whose stores wait for its loads: what the loads read is asked only till the first of the stores comes up. No program is named here.
-/
import Derived.Deep.RegionHeld
import Derived.RegionTactic
namespace Go.Proofs.Ytondgdacjbfihaa
open Go
set_option linter.unusedVariables false

section
variable {P : Program} {ops : Array Oper} {Q : Exit → Act → World → Prop} {md : Region.Mode} {S : World → Prop} {W : List Nat}

/-- None of W has come up. -/
def Waits (W : List Nat) (listed : Array Bool) : Prop := ∀ k ∈ W, listed.getD k true = false
def waitsB (W : List Nat) (listed : Array Bool) : Bool := W.all fun k => !listed.getD k true
theorem waitsB_true {W : List Nat} {listed : Array Bool} : waitsB W listed = true ↔ Waits W listed := by
  unfold waitsB Waits
  simp only [List.all_eq_true, Bool.not_eq_true']
/-- Whatever order is picked from here on; S holds behind each operation till the first of W comes up. -/
def wpAnyW (P : Program) (md : Region.Mode) (ops : Array Oper) (Q : Exit → Act → World → Prop) (S : World → Prop) (W : List Nat) : Nat → Array Bool → Act → World → Prop
  | 0, listed, a, w => Region.ready md ops listed = [] ∧ Q .normal a w
  | fuel + 1, listed, a, w =>
    (Region.ready md ops listed = [] → Q .normal a w) ∧
    ∀ i ∈ Region.ready md ops listed, wpOp P ops Q i (fun a' w' => (Waits W (listed.setIfInBounds i true) → S w') ∧ wpAnyW P md ops Q S W fuel (listed.setIfInBounds i true) a' w') a w
theorem wpAny_of_waits : ∀ (fuel : Nat) (listed : Array Bool) (a : Act) (w : World), wpAnyW P md ops Q S W fuel listed a w → wpAny P md ops Q fuel listed a w
  | 0, _, _, _, h => h
  | fuel + 1, _, _, _, h => ⟨h.1, fun i hi => wpOp_mono (fun a' w' h' => wpAny_of_waits fuel _ a' w' h'.2) (h.2 i hi)⟩
/-- Each of W waits for number i. -/
def waitB (md : Region.Mode) (ops : Array Oper) (W : List Nat) (i : Nat) : Bool :=
  W.all fun k => k != i && (match ops[k]? with | some o => o.after.any fun e => Region.binds md e && e.on == i | none => false)
theorem waitB_spec {i k : Nat} (h : waitB md ops W i = true) (hk : k ∈ W) : k ≠ i ∧ ∃ o, ops[k]? = some o ∧ ∃ e ∈ o.after, Region.binds md e = true ∧ e.on = i := by
  unfold waitB at h
  have := (List.all_eq_true.1 h) k hk
  simp only [Bool.and_eq_true, bne_iff_ne, ne_eq] at this
  refine ⟨this.1, ?_⟩
  cases ho : ops[k]? with
  | none => rw [ho] at this; simp at this
  | some o =>
    rw [ho] at this
    obtain ⟨e, he, h2⟩ := Array.any_eq_true'.1 this.2
    simp only [Bool.and_eq_true, beq_iff_eq] at h2
    exact ⟨o, rfl, e, he, h2.1, h2.2⟩
theorem waits_set {W : List Nat} {listed : Array Bool} {i : Nat} (h : Waits W listed) (hi : ∀ k ∈ W, k ≠ i) : Waits W (listed.setIfInBounds i true) := fun k hk => by
  rw [getD_set_ne true (Ne.symm (hi k hk))]
  exact h k hk
theorem wpAnyW_first {i : Nat} {oi : Oper} {v : Value} (hi : ops[i]? = some oi) (hsel : ∀ (j : Nat) (o : Oper) cs b, ops[j]? = some o → o.op ≠ .select cs b) (hw : waitB md ops W i = true)
    (hQ : ∀ c a w, Q (.panic c) (a.put oi.dst v) w → Q (.panic c) a w) :
    ∀ (fuel : Nat) (listed : Array Bool) (a : Act) (w : World),
      (∀ j oj, ops[j]? = some oj → j ≠ i → listed.getD j true = false → (∀ e ∈ oj.after, Region.binds md e = true → e.on ≠ i) → oi.apart ops oj = true) →
      i ∈ Region.ready md ops listed → Waits W listed → YieldsIf P ops S oi v a → S w →
      wpAnyW P md ops Q S W fuel (listed.setIfInBounds i true) (a.put oi.dst v) w → wpAnyW P md ops Q S W (fuel + 1) listed a w := by
  intro fuel
  induction fuel with
  | zero =>
    intro listed a w _ hr hwt hy hS H
    refine ⟨fun h => (by rw [h] at hr; cases hr), fun j hj => ?_⟩
    by_cases hji : j = i
    · subst hji; exact hy.wpOp hi hS ⟨fun _ => hS, H⟩
    · have := ready_mono hj hji
      rw [H.1] at this
      cases this
  | succ fuel ih =>
    intro listed a w hfree hr hwt hy hS H
    refine ⟨fun h => (by rw [h] at hr; cases hr), fun j hj => ?_⟩
    by_cases hji : j = i
    · subst hji; exact hy.wpOp hi hS ⟨fun _ => hS, H⟩
    · have h1 := H.2 j (ready_mono hj hji)
      obtain ⟨hjun, oj, hoj, hall⟩ := mem_ready.1 hj
      have hnot : ∀ e ∈ oj.after, Region.binds md e = true → e.on ≠ i := fun e he hb heq => by
        have h1 := hall e he hb
        have h0 := (mem_ready.1 hr).1
        rw [heq] at h1
        rcases Nat.lt_or_ge i listed.size with h' | h'
        · simp [h'] at h0 h1; rw [h0] at h1; cases h1
        · simp [Array.getElem?_eq_none h'] at h1
      have hjW : ∀ k ∈ W, k ≠ j := fun k hk e => by
        subst e
        obtain ⟨_, o, ho, e, he, hb, hon⟩ := waitB_spec hw hk
        rw [ho] at hoj
        obtain rfl := Option.some.inj hoj
        exact hnot e he hb hon
      have hiW : ∀ k ∈ W, k ≠ i := fun k hk => (waitB_spec hw hk).1
      have hwj : Waits W (listed.setIfInBounds j true) := waits_set hwt hjW
      have hwij : Waits W ((listed.setIfInBounds i true).setIfInBounds j true) := waits_set (waits_set hwt hiW) hjW
      have h2 := wpOp_putIf hoj (hfree j oj hoj hji hjun hnot) (fun cs b => hsel i oi cs b hi) (fun cs b => hsel j oj cs b hoj) hQ hy h1
      have hfree' : ∀ k ok, ops[k]? = some ok → k ≠ i → (listed.setIfInBounds j true).getD k true = false →
          (∀ e ∈ ok.after, Region.binds md e = true → e.on ≠ i) → oi.apart ops ok = true := fun k ok hk hki hun hno => by
        refine hfree k ok hk hki ?_ hno
        by_cases hjk : j = k
        · subst hjk; exact hjun
        · rw [getD_set_ne true hjk] at hun; exact hun
      refine wpOp_mono (fun a' w' h3 => ⟨fun _ => h3.2.1 hwij, ih (listed.setIfInBounds j true) a' w' hfree' (ready_mono hr (Ne.symm hji)) hwj h3.1 (h3.2.1 hwij) ?_⟩) h2
      rw [Array.setIfInBounds_comm _ _ hji]
      exact h3.2.2
/-- Take number i first. -/
theorem wpAnyW_take {i : Nat} {oi : Oper} {v : Value} {fuel : Nat} {listed : Array Bool} {a : Act} {w : World} (hi : ops[i]? = some oi)
    (hs : Region.noSelect ops = true) (hf : Region.free md ops listed i = true) (hr : (Region.ready md ops listed).contains i = true) (hw : waitB md ops W i = true) (hwt : waitsB W listed = true)
    (hQ : ∀ c a w, Q (.panic c) (a.put oi.dst v) w → Q (.panic c) a w) (hy : YieldsIf P ops S oi v a) (hS : S w)
    (h : wpAnyW P md ops Q S W fuel (listed.setIfInBounds i true) (a.put oi.dst v) w) : wpAnyW P md ops Q S W (fuel + 1) listed a w :=
  wpAnyW_first hi (Region.noSelect_spec hs) hw hQ fuel listed a w (Region.free_spec hi hf) (by simpa using hr) (waitsB_true.1 hwt) hy hS h
theorem not_waits {W : List Nat} {listed : Array Bool} {p : Prop} (h : waitsB W listed = false) : Waits W listed → p := fun hh => by
  rw [← waitsB_true, h] at hh
  cases hh
theorem waits_unset {W : List Nat} {listed : Array Bool} {i : Nat} (h : Waits W (listed.setIfInBounds i true)) (hi : ∀ k ∈ W, k ≠ i) : Waits W listed := fun k hk => by
  have := h k hk
  rw [getD_set_ne true (Ne.symm (hi k hk))] at this
  exact this
/-- One that yields in whatever world may be taken first, whether or not those of W wait for it. -/
theorem wpAnyW_firstY {i : Nat} {oi : Oper} {v : Value} (hi : ops[i]? = some oi) (hsel : ∀ (j : Nat) (o : Oper) cs b, ops[j]? = some o → o.op ≠ .select cs b) (hiW : ∀ k ∈ W, k ≠ i)
    (hQ : ∀ c a w, Q (.panic c) (a.put oi.dst v) w → Q (.panic c) a w) :
    ∀ (fuel : Nat) (listed : Array Bool) (a : Act) (w : World),
      (∀ j oj, ops[j]? = some oj → j ≠ i → listed.getD j true = false → (∀ e ∈ oj.after, Region.binds md e = true → e.on ≠ i) → oi.apart ops oj = true) →
      i ∈ Region.ready md ops listed → YieldsIf P ops (fun _ => True) oi v a → (Waits W listed → S w) →
      wpAnyW P md ops Q S W fuel (listed.setIfInBounds i true) (a.put oi.dst v) w → wpAnyW P md ops Q S W (fuel + 1) listed a w := by
  intro fuel
  induction fuel with
  | zero =>
    intro listed a w _ hr hy hS H
    refine ⟨fun h => (by rw [h] at hr; cases hr), fun j hj => ?_⟩
    by_cases hji : j = i
    · subst hji; exact hy.wpOp hi trivial ⟨fun h => hS (waits_unset h hiW), H⟩
    · have := ready_mono hj hji
      rw [H.1] at this
      cases this
  | succ fuel ih =>
    intro listed a w hfree hr hy hS H
    refine ⟨fun h => (by rw [h] at hr; cases hr), fun j hj => ?_⟩
    by_cases hji : j = i
    · subst hji; exact hy.wpOp hi trivial ⟨fun h => hS (waits_unset h hiW), H⟩
    · have h1 := H.2 j (ready_mono hj hji)
      obtain ⟨hjun, oj, hoj, hall⟩ := mem_ready.1 hj
      have hnot : ∀ e ∈ oj.after, Region.binds md e = true → e.on ≠ i := fun e he hb heq => by
        have h1 := hall e he hb
        have h0 := (mem_ready.1 hr).1
        rw [heq] at h1
        rcases Nat.lt_or_ge i listed.size with h' | h'
        · simp [h'] at h0 h1; rw [h0] at h1; cases h1
        · simp [Array.getElem?_eq_none h'] at h1
      have h2 := wpOp_putIf hoj (hfree j oj hoj hji hjun hnot) (fun cs b => hsel i oi cs b hi) (fun cs b => hsel j oj cs b hoj) hQ hy h1
      have hfree' : ∀ k ok, ops[k]? = some ok → k ≠ i → (listed.setIfInBounds j true).getD k true = false →
          (∀ e ∈ ok.after, Region.binds md e = true → e.on ≠ i) → oi.apart ops ok = true := fun k ok hk hki hun hno => by
        refine hfree k ok hk hki ?_ hno
        by_cases hjk : j = k
        · subst hjk; exact hjun
        · rw [getD_set_ne true hjk] at hun; exact hun
      have hback : ∀ w', (Waits W ((listed.setIfInBounds i true).setIfInBounds j true) → S w') → Waits W (listed.setIfInBounds j true) → S w' := fun w' h hj => h (by
        rw [Array.setIfInBounds_comm _ _ (Ne.symm hji)]
        exact waits_set hj hiW)
      refine wpOp_mono (fun a' w' h3 => ⟨hback w' h3.2.1, ih (listed.setIfInBounds j true) a' w' hfree' (ready_mono hr (Ne.symm hji)) h3.1 (hback w' h3.2.1) ?_⟩) h2
      rw [Array.setIfInBounds_comm _ _ hji]
      exact h3.2.2
theorem wpAnyW_takeY {i : Nat} {oi : Oper} {v : Value} {fuel : Nat} {listed : Array Bool} {a : Act} {w : World} (hi : ops[i]? = some oi)
    (hs : Region.noSelect ops = true) (hf : Region.free md ops listed i = true) (hr : (Region.ready md ops listed).contains i = true) (hw : (W.all fun k => k != i) = true)
    (hQ : ∀ c a w, Q (.panic c) (a.put oi.dst v) w → Q (.panic c) a w) (hy : YieldsIf P ops (fun _ => True) oi v a) (hS : Waits W listed → S w)
    (h : wpAnyW P md ops Q S W fuel (listed.setIfInBounds i true) (a.put oi.dst v) w) : wpAnyW P md ops Q S W (fuel + 1) listed a w :=
  wpAnyW_firstY hi (Region.noSelect_spec hs) (fun k hk => by simpa using List.all_eq_true.1 hw k hk) hQ fuel listed a w (Region.free_spec hi hf) (by simpa using hr) hy hS h
/-- All have come up. -/
theorem wpAnyW_done {listed : Array Bool} {a : Act} {w : World} (hr : Region.ready md ops listed = []) (h : Q .normal a w) :
    ∀ fuel, wpAnyW P md ops Q S W fuel listed a w
  | 0 => ⟨hr, h⟩
  | _ + 1 => ⟨fun _ => h, by rw [hr]; simp⟩
/-- The one that may come up next, where S is still asked. -/
theorem wpAnyW_held {i : Nat} {o : Oper} {fuel : Nat} {listed : Array Bool} {a : Act} {w : World} (hr : Region.ready md ops listed = [i]) (ho : ops[i]? = some o)
    (h : ∀ K' : Act → World → Prop, Shut (∀ a w, S w → (S w → wpAnyW P md ops Q S W fuel (listed.setIfInBounds i true) a w) → K' a w) → if Region.wanted o (yielded ops a.tmps) = true then Oper.wp P o a w K' Q else K' (a.put o.dst undef) w) :
    wpAnyW P md ops Q S W (fuel + 1) listed a w :=
  ⟨fun h0 => (by rw [hr] at h0; cases h0), fun j hj => by
    rw [hr] at hj
    obtain rfl := List.mem_singleton.1 hj
    exact wpOp_step ho (fun K' hK => h K' (fun a w hS hW => hK a w ⟨fun _ => hS, hW hS⟩))⟩
/-- The one that may come up next, where one of W has come up, or does now. -/
theorem wpAnyW_freed {i : Nat} {o : Oper} {fuel : Nat} {listed : Array Bool} {a : Act} {w : World} (hr : Region.ready md ops listed = [i]) (hwt : waitsB W (listed.setIfInBounds i true) = false) (ho : ops[i]? = some o)
    (h : ∀ K' : Act → World → Prop, Shut (∀ a w, wpAnyW P md ops Q S W fuel (listed.setIfInBounds i true) a w → K' a w) → if Region.wanted o (yielded ops a.tmps) = true then Oper.wp P o a w K' Q else K' (a.put o.dst undef) w) :
    wpAnyW P md ops Q S W (fuel + 1) listed a w :=
  ⟨fun h0 => (by rw [hr] at h0; cases h0), fun j hj => by
    rw [hr] at hj
    obtain rfl := List.mem_singleton.1 hj
    exact wpOp_step ho (fun K' hK => h K' (fun a w hW => hK a w ⟨fun hh => (by rw [← waitsB_true, hwt] at hh; cases hh), hW⟩))⟩
/-- The beginning. -/
theorem wp_region_waits (W : List Nat) {id : Nat} {a : Act} {w : World} (hm : P.follows .mixedOrders = true) (hS : S w.drew)
    (h : S w.drew → wpAnyW P .any ops Q S W ops.size (Array.replicate ops.size false) a w.drew) : (Code.region id ops true).wp P Q a w :=
  wp_region_any hm (wpAny_of_waits _ _ _ _ (h hS))
end
end Go.Proofs.Ytondgdacjbfihaa
