/-
  Rows that lie apart from a block.
-/
import Derived.Test.YtgngdgiipifacaaSn
namespace Go.Proofs.Ytgngdgiipifacaa
open Go.RowKit
set_option linter.unusedVariables false
set_option linter.unusedSimpArgs false
set_option maxRecDepth 100000

/-- Three may come up next. -/
theorem wpAnyW_three {P : Program} {ops : Array Oper} {Q : Exit → Act → World → Prop} {md : Region.Mode} {S : World → Prop} {W : List Nat} {i i2 i3 : Nat} {o o2 o3 : Oper} {fuel : Nat} {listed : Array Bool} {a : Act} {w : World} (hr : Region.ready md ops listed = [i, i2, i3]) (ho : ops[i]? = some o) (ho2 : ops[i2]? = some o2) (ho3 : ops[i3]? = some o3)
    (h : ∀ K' : Act → World → Prop, Shut (∀ a w, S w → (S w → wpAnyW P md ops Q S W fuel (listed.setIfInBounds i true) a w) → K' a w) → if Region.wanted o (yielded ops a.tmps) = true then Oper.wp P o a w K' Q else K' (a.put o.dst undef) w)
    (h2 : ∀ K' : Act → World → Prop, Shut (∀ a w, S w → (S w → wpAnyW P md ops Q S W fuel (listed.setIfInBounds i2 true) a w) → K' a w) → if Region.wanted o2 (yielded ops a.tmps) = true then Oper.wp P o2 a w K' Q else K' (a.put o2.dst undef) w)
    (h3 : ∀ K' : Act → World → Prop, Shut (∀ a w, S w → (S w → wpAnyW P md ops Q S W fuel (listed.setIfInBounds i3 true) a w) → K' a w) → if Region.wanted o3 (yielded ops a.tmps) = true then Oper.wp P o3 a w K' Q else K' (a.put o3.dst undef) w) :
    wpAnyW P md ops Q S W (fuel + 1) listed a w :=
  ⟨fun h0 => (by rw [hr] at h0; cases h0), fun j hj => by
    rw [hr] at hj
    rcases List.mem_cons.1 hj with rfl | hj
    · exact wpOp_step ho (fun K' hK => h K' (fun a w hS hW => hK a w ⟨fun _ => hS, hW hS⟩))
    · rcases List.mem_cons.1 hj with rfl | hj
      · exact wpOp_step ho2 (fun K' hK => h2 K' (fun a w hS hW => hK a w ⟨fun _ => hS, hW hS⟩))
      · obtain rfl := List.mem_singleton.1 hj
        exact wpOp_step ho3 (fun K' hK => h3 K' (fun a w hS hW => hK a w ⟨fun _ => hS, hW hS⟩))⟩
/-- The row, where there is one, does not lie in block g. -/
def Apart (v : Value) (l : List Pc) (g : Nat) : Prop := 0 < l.length → ∀ a n c, v = Value.slice (some a) n c → a.block ≠ g
theorem Apart.new {w : World} {v : Value} {l : List Pc} {g : Nat} (h : RowP w v l) (hg : w.heap.size ≤ g) : Apart v l g := by
  intro hl
  obtain ⟨A, cap, rfl, hc, hm, h⟩ := h
  obtain ⟨b, off, rfl, hlt, hcell⟩ := h hl
  intro a n c e
  cases e
  show b ≠ g
  omega
theorem Apart.fresh {B g : Nat} {v : Value} {l : List Pc} (h : Fresh B v) (hg : g < B) : Apart v l g := fun _ a n c e => by have := h a n c e; omega
theorem Apart.freshOf {w : World} {B g : Nat} {v : Value} {l : List Pc} (_ : RowP w v l) (h : Fresh B v) (hg : g < B) : Apart v l g := Apart.fresh h hg
theorem RowP.keptA {w w' : World} {v : Value} {l : List Pc} {g : Nat} (h : RowP w v l) (hne : Apart v l g) (hg : w.grownBy w' (some g)) : RowP w' v l := by
  obtain ⟨A, cap, rfl, hc, hm, h⟩ := h
  refine ⟨A, cap, rfl, hc, hm, fun hl => ?_⟩
  obtain ⟨b, off, rfl, hlt, hcell⟩ := h hl
  have hB : b ≠ g := hne hl _ _ _ rfl
  have hs := hg.block b hlt (by simp; omega)
  exact ⟨b, off, rfl, Nat.lt_of_lt_of_le hlt hg.size, fun j hj t u hu => by
    have := hcell j hj t u hu
    rw [← this]
    exact World.cell?_of_block (w := w) (a := ⟨b, off + j * 8 + t, none⟩) hs⟩
end Go.Proofs.Ytgngdgiipifacaa
