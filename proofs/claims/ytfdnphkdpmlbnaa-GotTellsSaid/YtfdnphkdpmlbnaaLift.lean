/-
  From 'the call returns true, and of what was there nothing turns' to a law's statement: once, for whatever law; and how a list of numbers of 32 bits comes in.
-/
import Derived.Lib.Hide
import Derived.Test.YtfdnphkdpmlbnaaRows
import Derived.Test.YtfdnphkdpmlbnaaMem
import Derived.ProofKit
import Derived.OpenShut
import Derived.SizedLaws
import Derived.Carry
namespace Go.Proofs.Ytfdnphkdpmlbnaa
open Go.ChangeShapes Go.WideShapes Go.ChangeAt Go.RowKit
set_option maxRecDepth 100000

theorem own : ownKnob Try.prog.godebug = none := by kernel_rfl
theorem laidOut : laidOutB Try.prog = true := by kernel_rfl

section
variable {H : Type} {enc : TypeId × Value → H} {P : Program}
/-- What was read of the arguments reads as it did. -/
theorem trodAll_stays (hl : laidOutB P = true) {W W' : World} (hb : Below W.heap.size W W') : ∀ (ts : List TypeId) (vs : List Value) (ds : List (DataW H)) (ps : List MemPlace), ts.all (fun t => P.readableRec t && decide (t < P.types.size)) = true →
    DataW.TrodAll enc P W 0 (fun _ => true) true ts vs ds ps → (∀ x ∈ ps, x.block < W.heap.size) → DataW.TrodAll enc P W' 0 (fun b => decide (b < W.heap.size)) true ts vs ds ps
  | [], vs, ds, ps, _, h, _ => by
    obtain ⟨rfl, rfl, rfl⟩ := trodAll_nil h
    exact trodAll_mk0
  | t :: ts, vs, ds, ps, hr, h, hlt => by
    obtain ⟨v, vs, d, ds, p, q, rfl, rfl, rfl, h0, h1⟩ := trodAll_cons h
    simp only [List.all_cons, Bool.and_eq_true, decide_eq_true_eq] at hr
    exact trodAll_cons_mk (Below.trod hl hr.1.1 hr.1.2 h0 hb fun x hx => hlt x (by simp [hx])) (trodAll_stays hl hb ts vs ds q hr.2 h1 fun x hx => hlt x (by simp [hx]))

theorem law_post {f : Func} {s : ChangeSpec} (hl : laidOutB P = true) {tb : TypeId} (hbool : P.underlying tb = some .bool) (hres : f.resultTypes = #[tb]) (hpar : f.params.toList.all (fun t => P.readableRec t && decide (t < P.types.size)) = true)
    {W W' : World} {args : Array Value} {ds gs : List (DataW H)} {before : List MemPlace} (hv : s.vars = [])
    (hW : DataW.Whole enc P f.params.toList s.vars false W args.toList ds gs before) (hs : s.fn H ds = { results := [.lit (.bool true)], args := ds }) (hb : Below W.heap.size W W') :
    s.post enc P f false true false false W args (.bool true) W' := by
  have hW0 := hW
  obtain ⟨p, q, hA, hV, rfl, hz, hn⟩ := hW
  rw [hv] at hV
  obtain ⟨rfl, rfl⟩ := trodVars_none hV
  have hlt : ∀ x ∈ p, x.block < W.heap.size := fun x hx => hW0.lt x (by simpa using hx)
  refine ⟨ds, [], p ++ [], [], p, [], hW0, ?_, ?_, ?_, ?_, fun h => by cases h⟩
  · rw [hres, List.append_nil, hs]
    exact trodAll_cons_mk (shut_bool hbool true) trodAll_mk0
  · rw [List.append_nil, hs]
    exact trodAll_stays hl hb _ _ _ _ hpar hA hlt
  · rw [hv, List.append_nil, hs]
    exact rfl
  · exact hb.frame _
end

/-- A list of numbers of 32 bits, as it comes in. -/
theorem open_row {H : Type} {enc : TypeId × Value → H} {W : World} {v : Value} {d : DataW H} {ps : List MemPlace} {t e : TypeId} (ht : Try.prog.underlying t = some (.slice e)) (he : Try.prog.underlying e = some (.int .u32)) (hc : Try.prog.cellsOf e = 1)
    {base : Nat} (hval : Value.okWide Try.prog W .any base t v) (h : DataW.Trod enc Try.prog W 0 (fun _ => true) true t v d ps) : ∃ l : List UInt32, RowE enc32 W v l := by
  obtain ⟨a0, len, cap, rfl⟩ := okWide_slice ht hval
  obtain ⟨fuel, hf⟩ := h
  rcases open_ints ht he hc hf with ⟨hcs, _⟩ | ⟨a, len', cap', zs, hcs, _, hl, hm, hz, _, hcell, hwz⟩
  · simp [Value.cells] at hcs
    obtain ⟨rfl, rfl, rfl⟩ := hcs
    exact ⟨[], RowE.nil _ _⟩
  · simp [Value.cells] at hcs
    obtain ⟨rfl, rfl, rfl⟩ := hcs
    simp only [if_true] at hz
    let l : List UInt32 := (zs.take len).map fun z => UInt32.ofNat z.toNat
    have hll : l.length = len := by simp [l]; omega
    refine ⟨l, some a, cap, by rw [hll], by omega, hm, fun hp => ?_⟩
    have h0 := hcell 0 (by omega)
    have hspot : a.spot = none := by simpa [Addr.add] using World.cell?_spot h0
    obtain ⟨b, off, spot⟩ := a
    simp only at hspot
    subst hspot
    have hb : b < W.heap.size := World.block_lt_of_cell? _ _ (by rw [addr_plain] at h0; exact h0)
    refine ⟨b, off, rfl, hb, fun j hj => ?_⟩
    have hj' : j < zs.length := by omega
    have h1 := hcell j hj'
    rw [addr_plain] at h1
    rw [h1]
    have hw := bounds_u32 (hwz (zs.getD j 0) (by rw [List.getD_eq_getElem?_getD, List.getElem?_eq_getElem hj']; exact List.getElem_mem hj'))
    have e1 : l[j]! = UInt32.ofNat (zs.getD j 0).toNat := by
      rw [getElem!_pos l j (by omega)]
      simp [l, List.getElem?_eq_getElem hj']
    rw [e1]
    unfold enc32
    rw [UInt32.toNat_ofNat_of_lt' (by show (zs.getD j 0).toNat < 4294967296; omega)]
    congr 2
    omega
/-- A number of 32 bits, as it comes in. -/
theorem u32_of (n : Int) (h : (Lit.int .u32 n).wf = true) : ∃ u : UInt32, Value.int .u32 n = enc32 u ∧ n = (u.toNat : Int) := by
  have := bounds_u32 h
  have e : (UInt32.ofNat n.toNat).toNat = n.toNat := UInt32.toNat_ofNat_of_lt' (by show n.toNat < 4294967296; omega)
  exact ⟨UInt32.ofNat n.toNat, by unfold enc32; rw [e]; congr 1; omega, by rw [e]; omega⟩

end Go.Proofs.Ytfdnphkdpmlbnaa
