/-
  Two packets of the same chunks are the same: a contract.
-/
import Derived.Test.YtlbaockipeojhaaGreatAll
import Derived.Test.YtlbaockipeojhaaGreatSame
namespace Go.Proofs.YtlbaockipeojhaaGreat
open Go.RowKit
set_option linter.unusedVariables false
set_option linter.unusedSimpArgs false
set_option maxRecDepth 100000

/-- Two packets lie in boxes. -/
structure PsS (f t g : Nat) (V V' : Value) (w W : World) : Prop where
  own : W.heap[w.heap.size]? = some (.cells (cellsP f t g V) 35 (0, 0))
  out : W.heap[w.heap.size + 1]? = some (.cells (cellsP f t g V') 35 (0, 0))
  below : Below w.heap.size w W
theorem PsS.later {f t g : Nat} {V V' : Value} {w W W' : World} (h : PsS f t g V V' w W) (hb : Below W.heap.size W W') : PsS f t g V V' w W' :=
  ⟨(hb.block _ (Array.getElem?_eq_some_iff.1 h.own).1).trans h.own, (hb.block _ (Array.getElem?_eq_some_iff.1 h.out).1).trans h.out, h.below.trans (hb.mono h.below.size)⟩
theorem PsS.c {f t g : Nat} {V V' : Value} {w W : World} (h : PsS f t g V V' w W) : W.cell? ⟨w.heap.size, 0, none⟩ = some (.int .u16 (f : Int)) ∧ W.cell? ⟨w.heap.size, 1, none⟩ = some (.int .u16 (t : Int)) ∧ W.cell? ⟨w.heap.size, 2, none⟩ = some (.int .u32 (g : Int)) ∧ W.cell? ⟨w.heap.size, 3, none⟩ = some V ∧ W.cell? ⟨w.heap.size + 1, 0, none⟩ = some (.int .u16 (f : Int)) ∧ W.cell? ⟨w.heap.size + 1, 1, none⟩ = some (.int .u16 (t : Int)) ∧ W.cell? ⟨w.heap.size + 1, 2, none⟩ = some (.int .u32 (g : Int)) ∧ W.cell? ⟨w.heap.size + 1, 3, none⟩ = some V' := by
  refine ⟨?_, ?_, ?_, ?_, ?_, ?_, ?_, ?_⟩ <;> (first | (rw [cell_in h.own]; rfl) | (rw [cell_in h.out]; rfl))
theorem psS_new (f t g : Nat) (V V' : Value) (w : World) : PsS f t g V V' w ((w.alloc (.cells (cellsP f t g V) 35)).alloc (.cells (cellsP f t g V') 35)) :=
  ⟨heap_second_at w _ _ rfl, heap_new_at _ _ (by rw [World.size_alloc]), below_two w _ _⟩
set_option maxHeartbeats 16000000 in
theorem psame_any (f t g : Nat) (V V' : Value) (l l' : List Cv) (hl : l.length ≤ 100000) (he : ckV l = ckV l') (hb : ∀ x ∈ l, x.c.gaps.length ≤ 100000 ∧ x.c.dups.length ≤ 100000 ∧ x.c.items.length ≤ 100000) (w : World) (h : Rk w V l) (h' : Rk w V' l') :
    Calls Tryz.prog 16 #[.agg (cellsP f t g V), .agg (cellsP f t g V')] w fun e w' => e = .returned (.bool true) ∧ Below w.heap.size w w' := by
  have hlen : l.length = l'.length := by have := congrArg List.length he; simpa [ckV] using this
  have HPS := Lib.hid pk8Size
  have HK := Lib.hid h
  have HK' := Lib.hid h'
  have HE := Lib.hid he
  have HBD := Lib.hid hb
  obtain ⟨A, cap, rfl, hcap, hmax, hcells⟩ := h.row
  obtain ⟨A', cap', hV', hcap', hmax', hcells'⟩ := h'.row
  have HL' := Lib.hid hlen.symm
  rw [← hlen] at hV'
  subst hV'
  have HONE := Lib.hid (pk_one f t g A l.length cap)
  have HONE' := Lib.hid (pk_one f t g A' l.length cap')
  have HS0 := Lib.hid (psS_new f t g (.slice A l.length cap) (.slice A' l.length cap') w)
  have HC := Lib.hid hcells
  have HC' := Lib.hid hcells'
  have hlm : (l.length : Int) ≤ 100000 := by omega
  clear h h' hcells hcells' hb he hcap hmax hcap' hmax' hlen
  dsimp only [cellsP] at *
  go_enter Tryz.func16, Tryz.ntmps16
  go_wp2_with fail
  obtain ⟨c0, c1, c2, c3, d0, d1, d2, d3⟩ := HS0.out.c
  go_wp2_with fail
  clear c0 c1 c2 c3 d0 d1 d2 d3
  go_loopw [5] (fun i wr => ∃ (k : Nat), k ≤ l.length ∧ i = .int .i64 k ∧ Hid (PsS f t g (.slice A l.length cap) (.slice A' l.length cap') w wr))
    (fun i _ => l.length - (intOf i).toNat)
  case atStart => exact ⟨0, Nat.zero_le _, rfl, HS0⟩
  case round =>
    obtain ⟨k, hk, rfl, HS⟩ := hrel
    by_cases hlt : k < l.length
    · obtain ⟨b, off, rfl, hb, hr⟩ := HC.out (by omega)
      have hlt' : k < l'.length := by rw [HL'.out]; exact hlt
      obtain ⟨b', off', rfl, hb', hr'⟩ := HC'.out (by omega)
      have hp := HK.out.parts _ (List.getElem_mem hlt)
      have hp' := HK'.out.parts _ (List.getElem_mem hlt')
      have hbd := HBD.out _ (List.getElem_mem hlt)
      have hce : l'[k].c = l[k].c := by
        have h1 : (ckV l)[k]? = (ckV l')[k]? := by rw [HE.out]
        simp only [ckV, List.getElem?_map, List.getElem?_eq_getElem hlt, List.getElem?_eq_getElem hlt', Option.map_some, Option.some.injEq] at h1
        exact h1.symm
      obtain ⟨CL, hL⟩ := hasL l[k]
      obtain ⟨CL', hL'⟩ := hasL l'[k]
      have HR := Lib.hid (show w.rangeAt b (off + k * 14) CL from by rw [← hL.cells]; exact hr k hlt)
      have HR' := Lib.hid (show w.rangeAt b' (off' + k * 14) CL' from by rw [← hL'.cells]; exact hr' k hlt')
      have HT := fun W (hW : Below w.heap.size w W) => Lib.hid (show Calls Tryz.prog 38 #[.agg CL.toArray, .agg CL'.toArray] W (fun e w' => e = .returned (.bool true) ∧ Below W.heap.size W w') from by
        rw [← hL.arr, ← hL'.arr]
        rw [hce] at hp' ⊢
        have := same7_any l[k].c l[k].c (fun _ => rfl) (fun _ => rfl) (fun _ => rfl) hbd.1 hbd.2.1 hbd.2.2 l[k].g l[k].d l[k].it l'[k].g l'[k].d l'[k].it W (hp.below hW) (hp'.below hW)
        rw [sameB_self] at this
        exact this)
      have HL := Lib.hid hL
      have HLq := Lib.hid hL'
      clear hL hL' hr hr' hp hp' hbd hce HC HC' HK HK' HE HBD HS0
      have q1 : (k : Int) < (l.length : Int) := by omega
      have q2 : (0 : Int) ≤ (k : Int) := by omega
      obtain ⟨c0, c1, c2, c3, d0, d1, d2, d3⟩ := HS.out.c
      go_wp2_with fail
      clear c0 c1 c2 c3 d0 d1 d2 d3
      refine wp_region_noPanic ?_
      refine wp_region_held_drew (S := (PsS f t g (.slice (some ⟨b, off, none⟩) l.length cap) (.slice (some ⟨b', off', none⟩) l.length cap') w)) (by kernel_rfl) ?_ (fun hHeld => ?_)
      · exact HS.out.later (Below.refl _ _).drew
      refine k9 0 ?_ (y := ?_) (h := ?_)
      rotate_left 1
      · (intro w' hSw; obtain ⟨c0, c1, c2, c3, d0, d1, d2, d3⟩ := hSw.c; clear hSw; go_simp; try with_reducible rfl)
      try simp only [Act.put, p9a, p9z, p9s]
      refine k9 1 ?_ (y := ?_) (h := ?_)
      rotate_left 1
      · (intro w' hSw; obtain ⟨c0, c1, c2, c3, d0, d1, d2, d3⟩ := hSw.c; clear hSw; go_simp; try with_reducible rfl)
      try simp only [Act.put, p9a, p9z, p9s]
      refine k9 2 ?_ (y := ?_) (h := ?_)
      rotate_left 1
      · (intro w' hSw; obtain ⟨c0, c1, c2, c3, d0, d1, d2, d3⟩ := hSw.c; clear hSw; go_simp; try with_reducible rfl)
      try simp only [Act.put, p9a, p9z, p9s]
      refine k9 3 ?_ (y := ?_) (h := ?_)
      rotate_left 1
      · (intro w' hSw; obtain ⟨c0, c1, c2, c3, d0, d1, d2, d3⟩ := hSw.c; clear hSw; go_simp; try with_reducible rfl)
      try simp only [Act.put, p9a, p9z, p9s]
      refine k7 4 _ (y := yieldsIf_load_mid (by rfl) 74 (.tmp 44) rfl b (off + k * 14) (by rfl) CL _ (fun W h => rangeAt_below HR.out hb h.below) Tryz.underlying74 rfl HL.out.size) (h := ?_)
      try simp only [Act.put, p9a, p9z, p9s]
      refine k9 5 ?_ (y := ?_) (h := ?_)
      rotate_left 1
      · (intro w' hSw; obtain ⟨c0, c1, c2, c3, d0, d1, d2, d3⟩ := hSw.c; clear hSw; go_simp; try with_reducible rfl)
      try simp only [Act.put, p9a, p9z, p9s]
      refine k9 6 ?_ (y := ?_) (h := ?_)
      rotate_left 1
      · (intro w' hSw; obtain ⟨c0, c1, c2, c3, d0, d1, d2, d3⟩ := hSw.c; clear hSw; go_simp; try with_reducible rfl)
      try simp only [Act.put, p9a, p9z, p9s]
      refine k9 7 ?_ (y := ?_) (h := ?_)
      rotate_left 1
      · (intro w' hSw; obtain ⟨c0, c1, c2, c3, d0, d1, d2, d3⟩ := hSw.c; clear hSw; go_simp; try with_reducible rfl)
      try simp only [Act.put, p9a, p9z, p9s]
      refine k9 8 ?_ (y := ?_) (h := ?_)
      rotate_left 1
      · (intro w' hSw; obtain ⟨c0, c1, c2, c3, d0, d1, d2, d3⟩ := hSw.c; clear hSw; go_simp; try with_reducible rfl)
      try simp only [Act.put, p9a, p9z, p9s]
      refine k7 9 _ (y := yieldsIf_load_mid (by rfl) 74 (.tmp 49) rfl b' (off' + k * 14) (by rfl) CL' _ (fun W h => rangeAt_below HR'.out hb' h.below) Tryz.underlying74 rfl HLq.out.size) (h := ?_)
      try simp only [Act.put, p9a, p9z, p9s]
      refine wpAnyH_ready (rs := [10]) (by kernel_rfl) (by simp) ?_
      refine AllReadyH.cons (by simp only [q9a, q9s, q9z]; rfl) (fun K hK => ?_) AllReadyH.nil
      go_simp
      refine (HT _ hHeld.below).out.mono ?_
      rintro _ w3 ⟨rfl, hb3⟩
      have hS := hHeld.later hb3
      clear hHeld hb3
      go_wp2_with fail
      refine hK.out _ _ ?_ (fun hHeld => ?_)
      · exact hS
      clear hK K
      try simp only [Act.put, p9a, p9z, p9s]
      refine k9 11 ?_ (y := ?_) (h := ?_)
      rotate_left 1
      · (intro w' hSw; obtain ⟨c0, c1, c2, c3, d0, d1, d2, d3⟩ := hSw.c; clear hSw; go_simp; try with_reducible rfl)
      try simp only [Act.put, p9a, p9z, p9s]
      refine wpAnyH_done (by kernel_rfl) ?_ _
      refine NoPanic.normal ?_
      have hHeld0 := hHeld
      clear hHeld
      have HN := Lib.hid hHeld0
      clear hHeld0
      go_wp2_with fail
      go_roundw
      case rel => exact ⟨k + 1, by omega, by go_num, HN⟩
      case measure => simp [intOf]; omega
    · obtain rfl : k = l.length := by omega
      obtain ⟨c0, c1, c2, c3, d0, d1, d2, d3⟩ := HS.out.c
      go_wp2_with fail
      go_ret
      exact ⟨rfl, HS.out.below⟩
end Go.Proofs.YtlbaockipeojhaaGreat
