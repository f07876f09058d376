/-
  The first bytes of a packet: a contract; numbers of bytes.
-/
import Derived.Test.YtlbaockipeojhaaGreatFm
namespace Go.Proofs.YtlbaockipeojhaaGreat
open Go.RowKit
set_option linter.unusedVariables false
set_option linter.unusedSimpArgs false
set_option maxRecDepth 100000

/-- A packet lies in its block, else as before. -/
structure HdS (n0 f t g : Nat) (V : Value) (w W : World) : Prop where
  own : W.heap[n0]? = some (.cells (cellsP f t g V) 26 (0, 0))
  below : Below n0 w W
theorem HdS.later {n0 f t g : Nat} {V : Value} {w W W' : World} (h : HdS n0 f t g V w W) (hb : Below W.heap.size W W') : HdS n0 f t g V w W' := by
  have hlt := (Array.getElem?_eq_some_iff.1 h.own).1
  exact ⟨(hb.block _ hlt).trans h.own, h.below.trans (hb.mono (by omega))⟩
theorem HdS.drew {n0 f t g : Nat} {V : Value} {w W : World} (h : HdS n0 f t g V w W) : HdS n0 f t g V w W.drew := ⟨h.own, h.below.drew⟩
theorem hdS_new (f t g : Nat) (V : Value) (w : World) : HdS w.heap.size f t g V w (w.alloc (.cells (cellsP f t g V) 26)) := ⟨heap_alloc_new w _, (Below.refl _ _).alloc (Nat.le_refl _) _⟩
theorem HdS.c0 {n0 f t g : Nat} {V : Value} {w W : World} (h : HdS n0 f t g V w W) : W.cell? ⟨n0, 0, none⟩ = some (.int .u16 (f : Int)) := by rw [cell_in h.own]; rfl
theorem HdS.c1 {n0 f t g : Nat} {V : Value} {w W : World} (h : HdS n0 f t g V w W) : W.cell? ⟨n0, 1, none⟩ = some (.int .u16 (t : Int)) := by rw [cell_in h.own]; rfl
theorem HdS.c2 {n0 f t g : Nat} {V : Value} {w W : World} (h : HdS n0 f t g V w W) : W.cell? ⟨n0, 2, none⟩ = some (.int .u32 (g : Int)) := by rw [cell_in h.own]; rfl
theorem HdS.c3 {n0 f t g : Nat} {V : Value} {w W : World} (h : HdS n0 f t g V w W) : W.cell? ⟨n0, 3, none⟩ = some V := by rw [cell_in h.own]; rfl
theorem headB_of (f t g : Nat) : twoB f ++ twoB t ++ twoB (g / 65536) ++ twoB (g % 65536) ++ ⟨#[0, 0, 0, 0]⟩ = headB f t g := by
  apply bytes_ext
  unfold headB headL twoB
  simp only [app_list, list_toB, be32_split, be16_mod]
  simp only [List.append_assoc]
set_option maxHeartbeats 4000000 in
theorem head_any (f t g : Nat) (hf : f < 65536) (ht : t < 65536) (hg : g < 4294967296) (V : Value) (w : World) :
    Calls Tryz.prog 21 #[.agg (cellsP f t g V)] w fun e w' => e = .returned (.string (headB f t g)) ∧ Below w.heap.size w w' := by
  have F1 := Lib.hid (fun W => ptwo_any f hf W)
  have F2 := Lib.hid (fun W => ptwo_any t ht W)
  have F3 := Lib.hid (fun W => ptwo_any (g / 65536) (by omega) W)
  have F4 := Lib.hid (fun W => ptwo_any (g % 65536) (by omega) W)
  have HT := Lib.hid (hdS_new f t g V w)
  have HR := Lib.hid (headB_of f t g)
  have s1 := Nat.le_of_eq (twoB_size f)
  have s2 := Nat.le_of_eq (twoB_size t)
  have s3 := Nat.le_of_eq (twoB_size (g / 65536))
  have s4 := Nat.le_of_eq (twoB_size (g % 65536))
  have z1 : (g : Int) / 65536 % 65536 = ((g / 65536 : Nat) : Int) := by omega
  have z2 : (g : Int) % 65536 = ((g % 65536 : Nat) : Int) := by omega
  have z3 : (g : Int) / 65536 = ((g / 65536 : Nat) : Int) := by omega
  have y1 : IntKind.u16.wrap ((g / 65536 : Nat) : Int) = ((g / 65536 : Nat) : Int) := by rw [IntKind.wrap_u16]; omega
  have y2 : IntKind.u16.wrap (g : Int) = ((g % 65536 : Nat) : Int) := by rw [IntKind.wrap_u16]; omega
  generalize headB f t g = r at *
  generalize hm1 : g / 65536 = m1 at *
  generalize hm2 : g % 65536 = m2 at *
  generalize twoB f = x1 at *
  generalize twoB t = x2 at *
  generalize twoB m1 = x3 at *
  generalize twoB m2 = x4 at *
  have q1 : ¬ 9223372036854775807 < x1.size + x2.size := by omega
  have q2 : ¬ 9223372036854775807 < x1.size + x2.size + x3.size := by omega
  have q3 : ¬ 9223372036854775807 < x1.size + x2.size + x3.size + x4.size := by omega
  have q4 : ¬ 9223372036854775807 < x1.size + x2.size + x3.size + x4.size + 4 := by omega
  clear hm1 hm2
  dsimp only [cellsP] at *
  go_enter Tryz.func21, Tryz.ntmps21
  go_wp2_with fail
  refine wp_region_noPanic ?_
  refine wp_region_held_drew (S := (HdS w.heap.size f t g V w)) (by kernel_rfl) ?_ (fun hHeld => ?_)
  · exact HT.out.drew
  refine k9 0 ?_ (y := ?_) (h := ?_)
  rotate_left 1
  · (intro w' hSw; have c0 := hSw.c0; have c1 := hSw.c1; have c2 := hSw.c2; clear hSw; go_simp; try with_reducible rfl)
  try simp only [Act.put, p9a, p9z, p9s]
  refine k9 1 ?_ (y := ?_) (h := ?_)
  rotate_left 1
  · (intro w' hSw; have c0 := hSw.c0; have c1 := hSw.c1; have c2 := hSw.c2; clear hSw; go_simp; try with_reducible rfl)
  try simp only [Act.put, p9a, p9z, p9s]
  refine k9 3 ?_ (y := ?_) (h := ?_)
  rotate_left 1
  · (intro w' hSw; have c0 := hSw.c0; have c1 := hSw.c1; have c2 := hSw.c2; clear hSw; go_simp; try with_reducible rfl)
  try simp only [Act.put, p9a, p9z, p9s]
  refine k9 4 ?_ (y := ?_) (h := ?_)
  rotate_left 1
  · (intro w' hSw; have c0 := hSw.c0; have c1 := hSw.c1; have c2 := hSw.c2; clear hSw; go_simp; try with_reducible rfl)
  try simp only [Act.put, p9a, p9z, p9s]
  refine k9 7 ?_ (y := ?_) (h := ?_)
  rotate_left 1
  · (intro w' hSw; have c0 := hSw.c0; have c1 := hSw.c1; have c2 := hSw.c2; clear hSw; go_simp; try with_reducible rfl)
  try simp only [Act.put, p9a, p9z, p9s]
  refine k9 8 ?_ (y := ?_) (h := ?_)
  rotate_left 1
  · (intro w' hSw; have c0 := hSw.c0; have c1 := hSw.c1; have c2 := hSw.c2; clear hSw; go_simp; try with_reducible rfl)
  try simp only [Act.put, p9a, p9z, p9s]
  refine k9 9 ?_ (y := ?_) (h := ?_)
  rotate_left 1
  · (intro w' hSw; have c0 := hSw.c0; have c1 := hSw.c1; have c2 := hSw.c2; clear hSw; go_simp; try with_reducible rfl)
  try simp only [Act.put, p9a, p9z, p9s]
  refine k9 10 ?_ (y := ?_) (h := ?_)
  rotate_left 1
  · (intro w' hSw; have c0 := hSw.c0; have c1 := hSw.c1; have c2 := hSw.c2; clear hSw; go_simp; try with_reducible rfl)
  try simp only [Act.put, p9a, p9z, p9s]
  refine k9 13 ?_ (y := ?_) (h := ?_)
  rotate_left 1
  · (intro w' hSw; have c0 := hSw.c0; have c1 := hSw.c1; have c2 := hSw.c2; clear hSw; go_simp; try with_reducible rfl)
  try simp only [Act.put, p9a, p9z, p9s]
  refine k9 14 ?_ (y := ?_) (h := ?_)
  rotate_left 1
  · (intro w' hSw; have c0 := hSw.c0; have c1 := hSw.c1; have c2 := hSw.c2; clear hSw; go_simp; try with_reducible rfl)
  try simp only [Act.put, p9a, p9z, p9s]
  refine k9 15 ?_ (y := ?_) (h := ?_)
  rotate_left 1
  · (intro w' hSw; have c0 := hSw.c0; have c1 := hSw.c1; have c2 := hSw.c2; clear hSw; go_simp; try with_reducible rfl)
  try simp only [Act.put, p9a, p9z, p9s]
  refine wpAnyH_ready (rs := [2]) (by kernel_rfl) (by simp) ?_
  refine AllReadyH.cons (by simp only [q9a, q9s, q9z]; rfl) (fun K hK => ?_) AllReadyH.nil
  go_simp
  refine (F1.out _).mono ?_
  rintro _ w2 ⟨rfl, hb2⟩
  have hS := hHeld.later hb2
  clear hHeld hb2
  go_wp2_with fail
  refine hK.out _ _ ?_ (fun hHeld => ?_)
  · exact hS
  clear hK K
  try simp only [Act.put, p9a, p9z, p9s]
  refine wpAnyH_ready (rs := [5]) (by kernel_rfl) (by simp) ?_
  refine AllReadyH.cons (by simp only [q9a, q9s, q9z]; rfl) (fun K hK => ?_) AllReadyH.nil
  go_simp
  refine (F2.out _).mono ?_
  rintro _ w5 ⟨rfl, hb5⟩
  have hS := hHeld.later hb5
  clear hHeld hb5
  go_wp2_with fail
  refine hK.out _ _ ?_ (fun hHeld => ?_)
  · exact hS
  clear hK K
  try simp only [Act.put, p9a, p9z, p9s]
  refine k9 6 ?_ (y := ?_) (h := ?_)
  rotate_left 1
  · (intro w' hSw; have c0 := hSw.c0; have c1 := hSw.c1; have c2 := hSw.c2; clear hSw; go_simp; try with_reducible rfl)
  try simp only [Act.put, p9a, p9z, p9s]
  refine wpAnyH_ready (rs := [11]) (by kernel_rfl) (by simp) ?_
  refine AllReadyH.cons (by simp only [q9a, q9s, q9z]; rfl) (fun K hK => ?_) AllReadyH.nil
  go_simp
  refine (F3.out _).mono ?_
  rintro _ w11 ⟨rfl, hb11⟩
  have hS := hHeld.later hb11
  clear hHeld hb11
  go_wp2_with fail
  refine hK.out _ _ ?_ (fun hHeld => ?_)
  · exact hS
  clear hK K
  try simp only [Act.put, p9a, p9z, p9s]
  refine k9 12 ?_ (y := ?_) (h := ?_)
  rotate_left 1
  · (intro w' hSw; have c0 := hSw.c0; have c1 := hSw.c1; have c2 := hSw.c2; clear hSw; go_simp; try with_reducible rfl)
  try simp only [Act.put, p9a, p9z, p9s]
  refine wpAnyH_ready (rs := [16]) (by kernel_rfl) (by simp) ?_
  refine AllReadyH.cons (by simp only [q9a, q9s, q9z]; rfl) (fun K hK => ?_) AllReadyH.nil
  go_simp
  refine (F4.out _).mono ?_
  rintro _ w16 ⟨rfl, hb16⟩
  have hS := hHeld.later hb16
  clear hHeld hb16
  go_wp2_with fail
  refine hK.out _ _ ?_ (fun hHeld => ?_)
  · exact hS
  clear hK K
  try simp only [Act.put, p9a, p9z, p9s]
  refine k9 17 ?_ (y := ?_) (h := ?_)
  rotate_left 1
  · (intro w' hSw; have c0 := hSw.c0; have c1 := hSw.c1; have c2 := hSw.c2; clear hSw; go_simp; try with_reducible rfl)
  try simp only [Act.put, p9a, p9z, p9s]
  refine k9 18 ?_ (y := ?_) (h := ?_)
  rotate_left 1
  · (intro w' hSw; have c0 := hSw.c0; have c1 := hSw.c1; have c2 := hSw.c2; clear hSw; go_simp; try with_reducible rfl)
  try simp only [Act.put, p9a, p9z, p9s]
  refine k9 19 ?_ (y := ?_) (h := ?_)
  rotate_left 1
  · (intro w' hSw; have c0 := hSw.c0; have c1 := hSw.c1; have c2 := hSw.c2; clear hSw; go_simp; try with_reducible rfl)
  try simp only [Act.put, p9a, p9z, p9s]
  refine wpAnyH_done (by kernel_rfl) ?_ _
  refine NoPanic.normal ?_
  have HE := Lib.hid hHeld.below
  clear hHeld
  go_wp2_with fail
  go_ret
  exact ⟨by rw [← HR.out]; rfl, HE.out⟩
end Go.Proofs.YtlbaockipeojhaaGreat
