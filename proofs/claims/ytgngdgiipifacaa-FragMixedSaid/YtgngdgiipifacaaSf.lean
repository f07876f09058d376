/-
  Package frag: without: contract.
-/
import Derived.Test.YtgngdgiipifacaaSe
namespace Go.Proofs.Ytgngdgiipifacaa
open Go.RowKit
set_option linter.unusedVariables false
set_option linter.unusedSimpArgs false
set_option maxRecDepth 100000

theorem keep_le (r l : List Pc) : (keepL r l).length ≤ l.length := List.length_filter_le _ _
set_option maxHeartbeats 4000000 in
theorem without_any (l r : List Pc) (hl : l.length ≤ 1000) (hr : 0 < r.length) (hr2 : r.length ≤ 1000) (v V : Value) (w : World) (h : RowP w v l) (hv : RowP w V r) :
    Calls Try.prog 27 #[.agg #[v], V] w fun e w' => ∃ A k, e = .returned (.agg #[.slice A (keepL r l).length k]) ∧ RowP w' (.slice A (keepL r l).length k) (keepL r l) ∧ Fresh w.heap.size (.slice A (keepL r l).length k) ∧ Below w.heap.size w w' := by
  obtain ⟨W, hW, HA, HC, HB, hs⟩ := two_open w 32 29 #[v] #[V]
  obtain ⟨W3, hW3, HZ, HB3, hs3⟩ := one_open W 32 #[.slice none 0 0]
  have HR := Lib.hid (h.below (HB.out.trans (HB3.out.mono HB.out.size)))
  have HV := Lib.hid (hv.below (HB.out.trans (HB3.out.mono HB.out.size)))
  rw [show W.heap.size = w.heap.size + 1 + 1 by omega] at HZ
  have c0 := (HA.out.later HB3.out).cell 0 v rfl
  have HCL := Lib.hid (fun W h => clone_any l (by omega) v W h)
  have HCC := Lib.hid (HC.out.later HB3.out)
  replace HB := Lib.hid (HB.out.trans (HB3.out.mono HB.out.size))
  obtain ⟨A0, cap0, rfl, _, _, _⟩ := id h
  obtain ⟨A1, cap1, rfl, _, _, _⟩ := id hv
  clear h hv HA HC HB3
  go_enter Try.func27, Try.ntmps27
  go_wp2_with fail
  refine (HCL.out _ HR.out).mono ?_
  rintro e w5 ⟨v5, rfl, hown, hb⟩
  obtain ⟨A5, cap5, rfl, -, -⟩ := own_form2 hown
  have HO5 := Lib.hid (OwnV.of_own hown)
  have hw5 := hb.size
  have HDL := Lib.hid (delete_any l r hl hr hr2 W3.heap.size A5 cap5 (w.heap.size + 1) (.slice A1 r.length cap1) w5 hw5 HO5.out (fun W' h => HCC.out.later (hb.trans h)) (fun W' h => RowP.below HV.out (hb.trans h)))
  replace HZ := Lib.hid (HZ.out.later hb)
  replace HB := Lib.hid (HB.out.trans (hb.mono HB.out.size))
  clear hown hb c0 hW hW3
  go_wp2_with fail
  refine HDL.out.mono ?_
  rintro e w6 ⟨A6, k6, rfl, hr6, hf6, hb6⟩
  replace HZ := Lib.hid (HZ.out.under hb6 (by omega))
  have HR6 := Lib.hid hr6
  have HF6 := Lib.hid hf6
  replace HB := Lib.hid (HB.out.trans (hb6.mono (by omega)))
  have hg6 := HZ.out.lt
  clear hr6 hf6 hb6 HDL
  go_wp2_with (first
    | ((with_reducible refine gate9 ?_); refine stB (ty := 32) #[.slice A6 (keepL r l).length k6] rfl rfl rfl rfl HZ.out infoB rfl (cellsB_one _ _ _) ?_; intro w7 ht hg; replace HB := Lib.hid (below_of_grown1 HB.out hg HB.out.size (by omega)); have HR7 := Lib.hid (HR6.out.stays HF6.out hg (by omega)); replace HZ := Lib.hid ht; clear ht hg))
  exact bodyPost_ret (retB rfl rfl rfl HZ.out) rfl ⟨A6, k6, rfl, HR7.out, HF6.out.less (by omega), HB.out⟩
end Go.Proofs.Ytgngdgiipifacaa
