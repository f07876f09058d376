/-
  The document's answer to layer 9: a state's bytes: a contract.
-/
import Derived.Test.YthfiebdpoleeeaaDoorRg9
namespace Go.Proofs.YthfiebdpoleeeaaDoor
open Go.RowKit
set_option linter.unusedVariables false
set_option linter.unusedSimpArgs false

set_option maxHeartbeats 16000000 in
set_option maxRecDepth 100000 in
theorem rbytes_any9 (s : St) (hw : WfS s) (hr : RightS s) (w : World) : Calls Tryd.prog 29 #[.agg (cellsS s)] w fun e w' => e = .returned (.string (textS s)) ∧ Below w.heap.size w w' := by
  have hm := hr.made
  have hl := hr.life
  have hp := hr.peer
  have HS := Lib.hid (StS.new 32 s w)
  have N0 := Lib.hid (fun W => rnum_z (s.a0) 4 4 (by decide) (Nat.lt_trans hw.a0 (by decide)) (by decide) W)
  have N1 := Lib.hid (fun W => rnum_z (s.a1) 4 4 (by decide) (Nat.lt_trans hw.a1 (by decide)) (by decide) W)
  have N2 := Lib.hid (fun W => rnum_z (s.a2) 4 4 (by decide) (Nat.lt_trans hw.a2 (by decide)) (by decide) W)
  have N3 := Lib.hid (fun W => rnum_z (s.a3) 4 4 (by decide) (Nat.lt_trans hw.a3 (by decide)) (by decide) W)
  have N4 := Lib.hid (fun W => rnum_z (s.a4) 4 4 (by decide) (Nat.lt_trans hw.a4 (by decide)) (by decide) W)
  have N5 := Lib.hid (fun W => rnum_z (s.a5) 4 4 (by decide) (Nat.lt_trans hw.a5 (by decide)) (by decide) W)
  have N6 := Lib.hid (fun W => rnum_z (s.a6) 4 4 (by decide) (Nat.lt_trans hw.a6 (by decide)) (by decide) W)
  have N7 := Lib.hid (fun W => rnum_z (s.b0) 2 2 (by decide) (Nat.lt_trans hw.b0 (by decide)) (by decide) W)
  have N8 := Lib.hid (fun W => rnum_z (s.b1) 2 2 (by decide) (Nat.lt_trans hw.b1 (by decide)) (by decide) W)
  have N9 := Lib.hid (fun W => rnum_z (s.b2) 2 2 (by decide) (Nat.lt_trans hw.b2 (by decide)) (by decide) W)
  have N10 := Lib.hid (fun W => rnum_z (s.b3) 2 2 (by decide) (Nat.lt_trans hw.b3 (by decide)) (by decide) W)
  have N11 := Lib.hid (fun W => rnum_z (s.made.toNat) 8 8 (by decide) (by omega) (by decide) W)
  have N12 := Lib.hid (fun W => rnum_z (s.life.toNat) 8 8 (by decide) (by omega) (by decide) W)
  have N13 := Lib.hid (fun W => rnum_z (s.peer.size) 1 1 (by decide) (by omega) (by decide) W)
  have HTX := Lib.hid (show textS s = (((((((((((((⟨(beN 4 (s.a0)).toArray⟩ ++ ⟨(beN 4 (s.a1)).toArray⟩) ++ ⟨(beN 4 (s.a2)).toArray⟩) ++ ⟨(beN 4 (s.a3)).toArray⟩) ++ ⟨(beN 4 (s.a4)).toArray⟩) ++ ⟨(beN 4 (s.a5)).toArray⟩) ++ ⟨(beN 4 (s.a6)).toArray⟩) ++ ⟨(beN 2 (s.b0)).toArray⟩) ++ ⟨(beN 2 (s.b1)).toArray⟩) ++ ⟨(beN 2 (s.b2)).toArray⟩) ++ ⟨(beN 2 (s.b3)).toArray⟩) ++ ⟨(beN 8 (s.made.toNat)).toArray⟩) ++ ⟨(beN 8 (s.life.toNat)).toArray⟩) ++ ⟨(beN 1 (s.peer.size)).toArray⟩) ++ s.peer by
    apply bytes_ext
    show bytesS s = _
    simp only [bytes_parts, ByteArray.data_append, Array.toList_append, List.append_assoc])
  have z0 : (⟨(beN 4 (s.a0)).toArray⟩ : ByteArray).size = 4 := by rw [size_list]; exact beN_length _ _
  have z1 : (⟨(beN 4 (s.a1)).toArray⟩ : ByteArray).size = 4 := by rw [size_list]; exact beN_length _ _
  have z2 : (⟨(beN 4 (s.a2)).toArray⟩ : ByteArray).size = 4 := by rw [size_list]; exact beN_length _ _
  have z3 : (⟨(beN 4 (s.a3)).toArray⟩ : ByteArray).size = 4 := by rw [size_list]; exact beN_length _ _
  have z4 : (⟨(beN 4 (s.a4)).toArray⟩ : ByteArray).size = 4 := by rw [size_list]; exact beN_length _ _
  have z5 : (⟨(beN 4 (s.a5)).toArray⟩ : ByteArray).size = 4 := by rw [size_list]; exact beN_length _ _
  have z6 : (⟨(beN 4 (s.a6)).toArray⟩ : ByteArray).size = 4 := by rw [size_list]; exact beN_length _ _
  have z7 : (⟨(beN 2 (s.b0)).toArray⟩ : ByteArray).size = 2 := by rw [size_list]; exact beN_length _ _
  have z8 : (⟨(beN 2 (s.b1)).toArray⟩ : ByteArray).size = 2 := by rw [size_list]; exact beN_length _ _
  have z9 : (⟨(beN 2 (s.b2)).toArray⟩ : ByteArray).size = 2 := by rw [size_list]; exact beN_length _ _
  have z10 : (⟨(beN 2 (s.b3)).toArray⟩ : ByteArray).size = 2 := by rw [size_list]; exact beN_length _ _
  have z11 : (⟨(beN 8 (s.made.toNat)).toArray⟩ : ByteArray).size = 8 := by rw [size_list]; exact beN_length _ _
  have z12 : (⟨(beN 8 (s.life.toNat)).toArray⟩ : ByteArray).size = 8 := by rw [size_list]; exact beN_length _ _
  have z13 : (⟨(beN 1 (s.peer.size)).toArray⟩ : ByteArray).size = 1 := by rw [size_list]; exact beN_length _ _
  generalize (⟨(beN 4 (s.a0)).toArray⟩ : ByteArray) = x0 at *
  generalize (⟨(beN 4 (s.a1)).toArray⟩ : ByteArray) = x1 at *
  generalize (⟨(beN 4 (s.a2)).toArray⟩ : ByteArray) = x2 at *
  generalize (⟨(beN 4 (s.a3)).toArray⟩ : ByteArray) = x3 at *
  generalize (⟨(beN 4 (s.a4)).toArray⟩ : ByteArray) = x4 at *
  generalize (⟨(beN 4 (s.a5)).toArray⟩ : ByteArray) = x5 at *
  generalize (⟨(beN 4 (s.a6)).toArray⟩ : ByteArray) = x6 at *
  generalize (⟨(beN 2 (s.b0)).toArray⟩ : ByteArray) = x7 at *
  generalize (⟨(beN 2 (s.b1)).toArray⟩ : ByteArray) = x8 at *
  generalize (⟨(beN 2 (s.b2)).toArray⟩ : ByteArray) = x9 at *
  generalize (⟨(beN 2 (s.b3)).toArray⟩ : ByteArray) = x10 at *
  generalize (⟨(beN 8 (s.made.toNat)).toArray⟩ : ByteArray) = x11 at *
  generalize (⟨(beN 8 (s.life.toNat)).toArray⟩ : ByteArray) = x12 at *
  generalize (⟨(beN 1 (s.peer.size)).toArray⟩ : ByteArray) = x13 at *
  have ga0 : IntKind.i64.wrap (s.a0 : Int) = (s.a0 : Int) := by rw [IntKind.wrap_i64]; have := hw.a0; omega
  have ga1 : IntKind.i64.wrap (s.a1 : Int) = (s.a1 : Int) := by rw [IntKind.wrap_i64]; have := hw.a1; omega
  have ga2 : IntKind.i64.wrap (s.a2 : Int) = (s.a2 : Int) := by rw [IntKind.wrap_i64]; have := hw.a2; omega
  have ga3 : IntKind.i64.wrap (s.a3 : Int) = (s.a3 : Int) := by rw [IntKind.wrap_i64]; have := hw.a3; omega
  have ga4 : IntKind.i64.wrap (s.a4 : Int) = (s.a4 : Int) := by rw [IntKind.wrap_i64]; have := hw.a4; omega
  have ga5 : IntKind.i64.wrap (s.a5 : Int) = (s.a5 : Int) := by rw [IntKind.wrap_i64]; have := hw.a5; omega
  have ga6 : IntKind.i64.wrap (s.a6 : Int) = (s.a6 : Int) := by rw [IntKind.wrap_i64]; have := hw.a6; omega
  have gb0 : IntKind.i64.wrap (s.b0 : Int) = (s.b0 : Int) := by rw [IntKind.wrap_i64]; have := hw.b0; omega
  have gb1 : IntKind.i64.wrap (s.b1 : Int) = (s.b1 : Int) := by rw [IntKind.wrap_i64]; have := hw.b1; omega
  have gb2 : IntKind.i64.wrap (s.b2 : Int) = (s.b2 : Int) := by rw [IntKind.wrap_i64]; have := hw.b2; omega
  have gb3 : IntKind.i64.wrap (s.b3 : Int) = (s.b3 : Int) := by rw [IntKind.wrap_i64]; have := hw.b3; omega
  generalize textS s = r at *
  clear hr hw
  obtain ⟨a0, a1, a2, a3, a4, a5, a6, b0, b1, b2, b3, peer, made, life⟩ := s
  dsimp only at hm hl hp HTX N0 N1 N2 N3 N4 N5 N6 N7 N8 N9 N10 N11 N12 N13 ga0 ga1 ga2 ga3 ga4 ga5 ga6 gb0 gb1 gb2 gb3
  obtain ⟨m, rfl⟩ : ∃ m : Nat, made = (m : Int) := ⟨made.toNat, by omega⟩
  obtain ⟨f, rfl⟩ : ∃ f : Nat, life = (f : Int) := ⟨life.toNat, by omega⟩
  rw [Int.toNat_natCast] at N11 N12
  have zp : (peer.size : Int) ≤ 16 := by omega
  have zq : ¬ 9223372036854775807 < 53 + peer.size := by omega
  dsimp only [cellsS]
  go_enter Tryd.func29, Tryd.ntmps29
  go_wp2_with fail
  have HSd : Hid (StS 32 w.heap.size ⟨a0, a1, a2, a3, a4, a5, a6, b0, b1, b2, b3, peer, (m : Int), (f : Int)⟩ w (w.alloc (.cells (cellsS ⟨a0, a1, a2, a3, a4, a5, a6, b0, b1, b2, b3, peer, (m : Int), (f : Int)⟩) 32)).drew) := Lib.hid HS.out.drew
  refine wp_region_noPanic ?_
  refine wp_region_held_drew (S := fun W' => StS 32 w.heap.size ⟨a0, a1, a2, a3, a4, a5, a6, b0, b1, b2, b3, peer, (m : Int), (f : Int)⟩ w W') (by kernel_rfl) ?_ (fun hHeld => ?_)
  · exact HSd.out
  refine k9 0 ?_ (y := ?_) (h := ?_)
  rotate_left 1
  · (intro w' hSw; (try dsimp only at hSw); go_simp; try with_reducible rfl)
  try simp only [Act.put, List.setIfInBounds_toArray, List.set_cons_zero, List.set_cons_succ]
  refine k9 1 ?_ (y := ?_) (h := ?_)
  rotate_left 1
  · (intro w' hSw; have hq9 : w'.cell? ⟨w.heap.size, 0, none⟩ = some (.int .u32 (a0 : Int)) := (by rw [cell_in hSw.own]; rfl); clear hSw; (try dsimp only at hSw); go_simp; try with_reducible rfl)
  try simp only [Act.put, List.setIfInBounds_toArray, List.set_cons_zero, List.set_cons_succ]
  refine k9 2 ?_ (y := ?_) (h := ?_)
  rotate_left 1
  · (intro w' hSw; (try dsimp only at hSw); go_simp; try with_reducible rfl)
  try simp only [Act.put, List.setIfInBounds_toArray, List.set_cons_zero, List.set_cons_succ]
  refine k9 4 ?_ (y := ?_) (h := ?_)
  rotate_left 1
  · (intro w' hSw; (try dsimp only at hSw); go_simp; try with_reducible rfl)
  try simp only [Act.put, List.setIfInBounds_toArray, List.set_cons_zero, List.set_cons_succ]
  refine k9 5 ?_ (y := ?_) (h := ?_)
  rotate_left 1
  · (intro w' hSw; have hq9 : w'.cell? ⟨w.heap.size, 1, none⟩ = some (.int .u32 (a1 : Int)) := (by rw [cell_in hSw.own]; rfl); clear hSw; (try dsimp only at hSw); go_simp; try with_reducible rfl)
  try simp only [Act.put, List.setIfInBounds_toArray, List.set_cons_zero, List.set_cons_succ]
  refine k9 6 ?_ (y := ?_) (h := ?_)
  rotate_left 1
  · (intro w' hSw; (try dsimp only at hSw); go_simp; try with_reducible rfl)
  try simp only [Act.put, List.setIfInBounds_toArray, List.set_cons_zero, List.set_cons_succ]
  refine k9 9 ?_ (y := ?_) (h := ?_)
  rotate_left 1
  · (intro w' hSw; (try dsimp only at hSw); go_simp; try with_reducible rfl)
  try simp only [Act.put, List.setIfInBounds_toArray, List.set_cons_zero, List.set_cons_succ]
  refine k9 10 ?_ (y := ?_) (h := ?_)
  rotate_left 1
  · (intro w' hSw; have hq9 : w'.cell? ⟨w.heap.size, 2, none⟩ = some (.int .u32 (a2 : Int)) := (by rw [cell_in hSw.own]; rfl); clear hSw; (try dsimp only at hSw); go_simp; try with_reducible rfl)
  try simp only [Act.put, List.setIfInBounds_toArray, List.set_cons_zero, List.set_cons_succ]
  refine k9 11 ?_ (y := ?_) (h := ?_)
  rotate_left 1
  · (intro w' hSw; (try dsimp only at hSw); go_simp; try with_reducible rfl)
  try simp only [Act.put, List.setIfInBounds_toArray, List.set_cons_zero, List.set_cons_succ]
  refine k9 14 ?_ (y := ?_) (h := ?_)
  rotate_left 1
  · (intro w' hSw; (try dsimp only at hSw); go_simp; try with_reducible rfl)
  try simp only [Act.put, List.setIfInBounds_toArray, List.set_cons_zero, List.set_cons_succ]
  refine k9 15 ?_ (y := ?_) (h := ?_)
  rotate_left 1
  · (intro w' hSw; have hq9 : w'.cell? ⟨w.heap.size, 3, none⟩ = some (.int .u32 (a3 : Int)) := (by rw [cell_in hSw.own]; rfl); clear hSw; (try dsimp only at hSw); go_simp; try with_reducible rfl)
  try simp only [Act.put, List.setIfInBounds_toArray, List.set_cons_zero, List.set_cons_succ]
  refine k9 16 ?_ (y := ?_) (h := ?_)
  rotate_left 1
  · (intro w' hSw; (try dsimp only at hSw); go_simp; try with_reducible rfl)
  try simp only [Act.put, List.setIfInBounds_toArray, List.set_cons_zero, List.set_cons_succ]
  refine k9 19 ?_ (y := ?_) (h := ?_)
  rotate_left 1
  · (intro w' hSw; (try dsimp only at hSw); go_simp; try with_reducible rfl)
  try simp only [Act.put, List.setIfInBounds_toArray, List.set_cons_zero, List.set_cons_succ]
  refine k9 20 ?_ (y := ?_) (h := ?_)
  rotate_left 1
  · (intro w' hSw; have hq9 : w'.cell? ⟨w.heap.size, 4, none⟩ = some (.int .u32 (a4 : Int)) := (by rw [cell_in hSw.own]; rfl); clear hSw; (try dsimp only at hSw); go_simp; try with_reducible rfl)
  try simp only [Act.put, List.setIfInBounds_toArray, List.set_cons_zero, List.set_cons_succ]
  refine k9 21 ?_ (y := ?_) (h := ?_)
  rotate_left 1
  · (intro w' hSw; (try dsimp only at hSw); go_simp; try with_reducible rfl)
  try simp only [Act.put, List.setIfInBounds_toArray, List.set_cons_zero, List.set_cons_succ]
  refine k9 24 ?_ (y := ?_) (h := ?_)
  rotate_left 1
  · (intro w' hSw; (try dsimp only at hSw); go_simp; try with_reducible rfl)
  try simp only [Act.put, List.setIfInBounds_toArray, List.set_cons_zero, List.set_cons_succ]
  refine k9 25 ?_ (y := ?_) (h := ?_)
  rotate_left 1
  · (intro w' hSw; have hq9 : w'.cell? ⟨w.heap.size, 5, none⟩ = some (.int .u32 (a5 : Int)) := (by rw [cell_in hSw.own]; rfl); clear hSw; (try dsimp only at hSw); go_simp; try with_reducible rfl)
  try simp only [Act.put, List.setIfInBounds_toArray, List.set_cons_zero, List.set_cons_succ]
  refine k9 26 ?_ (y := ?_) (h := ?_)
  rotate_left 1
  · (intro w' hSw; (try dsimp only at hSw); go_simp; try with_reducible rfl)
  try simp only [Act.put, List.setIfInBounds_toArray, List.set_cons_zero, List.set_cons_succ]
  refine k9 29 ?_ (y := ?_) (h := ?_)
  rotate_left 1
  · (intro w' hSw; (try dsimp only at hSw); go_simp; try with_reducible rfl)
  try simp only [Act.put, List.setIfInBounds_toArray, List.set_cons_zero, List.set_cons_succ]
  refine k9 30 ?_ (y := ?_) (h := ?_)
  rotate_left 1
  · (intro w' hSw; have hq9 : w'.cell? ⟨w.heap.size, 6, none⟩ = some (.int .u32 (a6 : Int)) := (by rw [cell_in hSw.own]; rfl); clear hSw; (try dsimp only at hSw); go_simp; try with_reducible rfl)
  try simp only [Act.put, List.setIfInBounds_toArray, List.set_cons_zero, List.set_cons_succ]
  refine k9 31 ?_ (y := ?_) (h := ?_)
  rotate_left 1
  · (intro w' hSw; (try dsimp only at hSw); go_simp; try with_reducible rfl)
  try simp only [Act.put, List.setIfInBounds_toArray, List.set_cons_zero, List.set_cons_succ]
  refine wpAnyH_ready (rs := [3]) (by kernel_rfl) (by simp) ?_
  refine AllReadyH.cons (by simp only [q9a, q9s, q9z]; rfl) (fun K hK => ?_) AllReadyH.nil
  go_simp
  refine (N0.out _).mono ?_
  rintro _ w1 ⟨rfl, hb⟩
  have HS1 := Lib.hid (HSd.out.later hb)
  clear hb
  refine hK.out _ _ ?_ (fun hHeld => ?_)
  · exact HS1.out
  clear hK K
  try simp only [Act.put, List.setIfInBounds_toArray, List.set_cons_zero, List.set_cons_succ]
  refine wpAnyH_ready (rs := [7]) (by kernel_rfl) (by simp) ?_
  refine AllReadyH.cons (by simp only [q9a, q9s, q9z]; rfl) (fun K hK => ?_) AllReadyH.nil
  go_simp
  refine (N1.out _).mono ?_
  rintro _ w2 ⟨rfl, hb⟩
  have HS2 := Lib.hid (HS1.out.later hb)
  clear hb
  refine hK.out _ _ ?_ (fun hHeld => ?_)
  · exact HS2.out
  clear hK K
  try simp only [Act.put, List.setIfInBounds_toArray, List.set_cons_zero, List.set_cons_succ]
  refine k9 8 ?_ (y := ?_) (h := ?_)
  rotate_left 1
  · (intro w' hSw; (try dsimp only at hSw); go_simp; try with_reducible rfl)
  try simp only [Act.put, List.setIfInBounds_toArray, List.set_cons_zero, List.set_cons_succ]
  refine wpAnyH_ready (rs := [12]) (by kernel_rfl) (by simp) ?_
  refine AllReadyH.cons (by simp only [q9a, q9s, q9z]; rfl) (fun K hK => ?_) AllReadyH.nil
  go_simp
  refine (N2.out _).mono ?_
  rintro _ w3 ⟨rfl, hb⟩
  have HS3 := Lib.hid (HS2.out.later hb)
  clear hb
  refine hK.out _ _ ?_ (fun hHeld => ?_)
  · exact HS3.out
  clear hK K
  try simp only [Act.put, List.setIfInBounds_toArray, List.set_cons_zero, List.set_cons_succ]
  refine k9 13 ?_ (y := ?_) (h := ?_)
  rotate_left 1
  · (intro w' hSw; (try dsimp only at hSw); go_simp; try with_reducible rfl)
  try simp only [Act.put, List.setIfInBounds_toArray, List.set_cons_zero, List.set_cons_succ]
  refine wpAnyH_ready (rs := [17]) (by kernel_rfl) (by simp) ?_
  refine AllReadyH.cons (by simp only [q9a, q9s, q9z]; rfl) (fun K hK => ?_) AllReadyH.nil
  go_simp
  refine (N3.out _).mono ?_
  rintro _ w4 ⟨rfl, hb⟩
  have HS4 := Lib.hid (HS3.out.later hb)
  clear hb
  refine hK.out _ _ ?_ (fun hHeld => ?_)
  · exact HS4.out
  clear hK K
  try simp only [Act.put, List.setIfInBounds_toArray, List.set_cons_zero, List.set_cons_succ]
  refine k9 18 ?_ (y := ?_) (h := ?_)
  rotate_left 1
  · (intro w' hSw; (try dsimp only at hSw); go_simp; try with_reducible rfl)
  try simp only [Act.put, List.setIfInBounds_toArray, List.set_cons_zero, List.set_cons_succ]
  refine wpAnyH_ready (rs := [22]) (by kernel_rfl) (by simp) ?_
  refine AllReadyH.cons (by simp only [q9a, q9s, q9z]; rfl) (fun K hK => ?_) AllReadyH.nil
  go_simp
  refine (N4.out _).mono ?_
  rintro _ w5 ⟨rfl, hb⟩
  have HS5 := Lib.hid (HS4.out.later hb)
  clear hb
  refine hK.out _ _ ?_ (fun hHeld => ?_)
  · exact HS5.out
  clear hK K
  try simp only [Act.put, List.setIfInBounds_toArray, List.set_cons_zero, List.set_cons_succ]
  refine k9 23 ?_ (y := ?_) (h := ?_)
  rotate_left 1
  · (intro w' hSw; (try dsimp only at hSw); go_simp; try with_reducible rfl)
  try simp only [Act.put, List.setIfInBounds_toArray, List.set_cons_zero, List.set_cons_succ]
  refine wpAnyH_ready (rs := [27]) (by kernel_rfl) (by simp) ?_
  refine AllReadyH.cons (by simp only [q9a, q9s, q9z]; rfl) (fun K hK => ?_) AllReadyH.nil
  go_simp
  refine (N5.out _).mono ?_
  rintro _ w6 ⟨rfl, hb⟩
  have HS6 := Lib.hid (HS5.out.later hb)
  clear hb
  refine hK.out _ _ ?_ (fun hHeld => ?_)
  · exact HS6.out
  clear hK K
  try simp only [Act.put, List.setIfInBounds_toArray, List.set_cons_zero, List.set_cons_succ]
  refine k9 28 ?_ (y := ?_) (h := ?_)
  rotate_left 1
  · (intro w' hSw; (try dsimp only at hSw); go_simp; try with_reducible rfl)
  try simp only [Act.put, List.setIfInBounds_toArray, List.set_cons_zero, List.set_cons_succ]
  refine wpAnyH_ready (rs := [32]) (by kernel_rfl) (by simp) ?_
  refine AllReadyH.cons (by simp only [q9a, q9s, q9z]; rfl) (fun K hK => ?_) AllReadyH.nil
  go_simp
  refine (N6.out _).mono ?_
  rintro _ w7 ⟨rfl, hb⟩
  have HS7 := Lib.hid (HS6.out.later hb)
  clear hb
  refine hK.out _ _ ?_ (fun hHeld => ?_)
  · exact HS7.out
  clear hK K
  try simp only [Act.put, List.setIfInBounds_toArray, List.set_cons_zero, List.set_cons_succ]
  refine k9 33 ?_ (y := ?_) (h := ?_)
  rotate_left 1
  · (intro w' hSw; (try dsimp only at hSw); go_simp; try with_reducible rfl)
  try simp only [Act.put, List.setIfInBounds_toArray, List.set_cons_zero, List.set_cons_succ]
  refine k9 34 ?_ (y := ?_) (h := ?_)
  rotate_left 1
  · (intro w' hSw; (try dsimp only at hSw); go_simp; try with_reducible rfl)
  try simp only [Act.put, List.setIfInBounds_toArray, List.set_cons_zero, List.set_cons_succ]
  refine wpAnyH_done (by kernel_rfl) ?_ _
  refine NoPanic.normal ?_
  clear hHeld
  go_wp2_with fail
  have HSe := Lib.hid HS7.out.drew
  refine wp_region_noPanic ?_
  refine wp_region_held_drew (S := fun W' => StS 32 w.heap.size ⟨a0, a1, a2, a3, a4, a5, a6, b0, b1, b2, b3, peer, (m : Int), (f : Int)⟩ w W') (by kernel_rfl) ?_ (fun hHeld => ?_)
  · exact HSe.out
  refine k9 0 ?_ (y := ?_) (h := ?_)
  rotate_left 1
  · (intro w' hSw; (try dsimp only at hSw); go_simp; try with_reducible rfl)
  try simp only [Act.put, List.setIfInBounds_toArray, List.set_cons_zero, List.set_cons_succ]
  refine k9 1 ?_ (y := ?_) (h := ?_)
  rotate_left 1
  · (intro w' hSw; (try dsimp only at hSw); go_simp; try with_reducible rfl)
  try simp only [Act.put, List.setIfInBounds_toArray, List.set_cons_zero, List.set_cons_succ]
  refine k9 2 ?_ (y := ?_) (h := ?_)
  rotate_left 1
  · (intro w' hSw; have hq9 : w'.cell? ⟨w.heap.size, 7, none⟩ = some (.int .u16 (b0 : Int)) := (by rw [cell_in hSw.own]; rfl); clear hSw; (try dsimp only at hSw); go_simp; try with_reducible rfl)
  try simp only [Act.put, List.setIfInBounds_toArray, List.set_cons_zero, List.set_cons_succ]
  refine k9 3 ?_ (y := ?_) (h := ?_)
  rotate_left 1
  · (intro w' hSw; (try dsimp only at hSw); go_simp; try with_reducible rfl)
  try simp only [Act.put, List.setIfInBounds_toArray, List.set_cons_zero, List.set_cons_succ]
  refine k9 6 ?_ (y := ?_) (h := ?_)
  rotate_left 1
  · (intro w' hSw; (try dsimp only at hSw); go_simp; try with_reducible rfl)
  try simp only [Act.put, List.setIfInBounds_toArray, List.set_cons_zero, List.set_cons_succ]
  refine k9 7 ?_ (y := ?_) (h := ?_)
  rotate_left 1
  · (intro w' hSw; have hq9 : w'.cell? ⟨w.heap.size, 8, none⟩ = some (.int .u16 (b1 : Int)) := (by rw [cell_in hSw.own]; rfl); clear hSw; (try dsimp only at hSw); go_simp; try with_reducible rfl)
  try simp only [Act.put, List.setIfInBounds_toArray, List.set_cons_zero, List.set_cons_succ]
  refine k9 8 ?_ (y := ?_) (h := ?_)
  rotate_left 1
  · (intro w' hSw; (try dsimp only at hSw); go_simp; try with_reducible rfl)
  try simp only [Act.put, List.setIfInBounds_toArray, List.set_cons_zero, List.set_cons_succ]
  refine k9 11 ?_ (y := ?_) (h := ?_)
  rotate_left 1
  · (intro w' hSw; (try dsimp only at hSw); go_simp; try with_reducible rfl)
  try simp only [Act.put, List.setIfInBounds_toArray, List.set_cons_zero, List.set_cons_succ]
  refine k9 12 ?_ (y := ?_) (h := ?_)
  rotate_left 1
  · (intro w' hSw; have hq9 : w'.cell? ⟨w.heap.size, 9, none⟩ = some (.int .u16 (b2 : Int)) := (by rw [cell_in hSw.own]; rfl); clear hSw; (try dsimp only at hSw); go_simp; try with_reducible rfl)
  try simp only [Act.put, List.setIfInBounds_toArray, List.set_cons_zero, List.set_cons_succ]
  refine k9 13 ?_ (y := ?_) (h := ?_)
  rotate_left 1
  · (intro w' hSw; (try dsimp only at hSw); go_simp; try with_reducible rfl)
  try simp only [Act.put, List.setIfInBounds_toArray, List.set_cons_zero, List.set_cons_succ]
  refine k9 16 ?_ (y := ?_) (h := ?_)
  rotate_left 1
  · (intro w' hSw; (try dsimp only at hSw); go_simp; try with_reducible rfl)
  try simp only [Act.put, List.setIfInBounds_toArray, List.set_cons_zero, List.set_cons_succ]
  refine k9 17 ?_ (y := ?_) (h := ?_)
  rotate_left 1
  · (intro w' hSw; have hq9 : w'.cell? ⟨w.heap.size, 10, none⟩ = some (.int .u16 (b3 : Int)) := (by rw [cell_in hSw.own]; rfl); clear hSw; (try dsimp only at hSw); go_simp; try with_reducible rfl)
  try simp only [Act.put, List.setIfInBounds_toArray, List.set_cons_zero, List.set_cons_succ]
  refine k9 18 ?_ (y := ?_) (h := ?_)
  rotate_left 1
  · (intro w' hSw; (try dsimp only at hSw); go_simp; try with_reducible rfl)
  try simp only [Act.put, List.setIfInBounds_toArray, List.set_cons_zero, List.set_cons_succ]
  refine wpAnyH_ready (rs := [4]) (by kernel_rfl) (by simp) ?_
  refine AllReadyH.cons (by simp only [q9a, q9s, q9z]; rfl) (fun K hK => ?_) AllReadyH.nil
  go_simp
  refine (N7.out _).mono ?_
  rintro _ w8 ⟨rfl, hb⟩
  have HS8 := Lib.hid (HSe.out.later hb)
  clear hb
  refine hK.out _ _ ?_ (fun hHeld => ?_)
  · exact HS8.out
  clear hK K
  try simp only [Act.put, List.setIfInBounds_toArray, List.set_cons_zero, List.set_cons_succ]
  refine k9 5 ?_ (y := ?_) (h := ?_)
  rotate_left 1
  · (intro w' hSw; (try dsimp only at hSw); go_simp; try with_reducible rfl)
  try simp only [Act.put, List.setIfInBounds_toArray, List.set_cons_zero, List.set_cons_succ]
  refine wpAnyH_ready (rs := [9]) (by kernel_rfl) (by simp) ?_
  refine AllReadyH.cons (by simp only [q9a, q9s, q9z]; rfl) (fun K hK => ?_) AllReadyH.nil
  go_simp
  refine (N8.out _).mono ?_
  rintro _ w9 ⟨rfl, hb⟩
  have HS9 := Lib.hid (HS8.out.later hb)
  clear hb
  refine hK.out _ _ ?_ (fun hHeld => ?_)
  · exact HS9.out
  clear hK K
  try simp only [Act.put, List.setIfInBounds_toArray, List.set_cons_zero, List.set_cons_succ]
  refine k9 10 ?_ (y := ?_) (h := ?_)
  rotate_left 1
  · (intro w' hSw; (try dsimp only at hSw); go_simp; try with_reducible rfl)
  try simp only [Act.put, List.setIfInBounds_toArray, List.set_cons_zero, List.set_cons_succ]
  refine wpAnyH_ready (rs := [14]) (by kernel_rfl) (by simp) ?_
  refine AllReadyH.cons (by simp only [q9a, q9s, q9z]; rfl) (fun K hK => ?_) AllReadyH.nil
  go_simp
  refine (N9.out _).mono ?_
  rintro _ w10 ⟨rfl, hb⟩
  have HS10 := Lib.hid (HS9.out.later hb)
  clear hb
  refine hK.out _ _ ?_ (fun hHeld => ?_)
  · exact HS10.out
  clear hK K
  try simp only [Act.put, List.setIfInBounds_toArray, List.set_cons_zero, List.set_cons_succ]
  refine k9 15 ?_ (y := ?_) (h := ?_)
  rotate_left 1
  · (intro w' hSw; (try dsimp only at hSw); go_simp; try with_reducible rfl)
  try simp only [Act.put, List.setIfInBounds_toArray, List.set_cons_zero, List.set_cons_succ]
  refine wpAnyH_ready (rs := [19]) (by kernel_rfl) (by simp) ?_
  refine AllReadyH.cons (by simp only [q9a, q9s, q9z]; rfl) (fun K hK => ?_) AllReadyH.nil
  go_simp
  refine (N10.out _).mono ?_
  rintro _ w11 ⟨rfl, hb⟩
  have HS11 := Lib.hid (HS10.out.later hb)
  clear hb
  refine hK.out _ _ ?_ (fun hHeld => ?_)
  · exact HS11.out
  clear hK K
  try simp only [Act.put, List.setIfInBounds_toArray, List.set_cons_zero, List.set_cons_succ]
  refine k9 20 ?_ (y := ?_) (h := ?_)
  rotate_left 1
  · (intro w' hSw; (try dsimp only at hSw); go_simp; try with_reducible rfl)
  try simp only [Act.put, List.setIfInBounds_toArray, List.set_cons_zero, List.set_cons_succ]
  refine k9 21 ?_ (y := ?_) (h := ?_)
  rotate_left 1
  · (intro w' hSw; (try dsimp only at hSw); go_simp; try with_reducible rfl)
  try simp only [Act.put, List.setIfInBounds_toArray, List.set_cons_zero, List.set_cons_succ]
  refine wpAnyH_done (by kernel_rfl) ?_ _
  refine NoPanic.normal ?_
  clear hHeld
  go_wp2_with fail
  have HSg := Lib.hid HS11.out.drew
  refine wp_region_noPanic ?_
  refine wp_region_held_drew (S := fun W' => StS 32 w.heap.size ⟨a0, a1, a2, a3, a4, a5, a6, b0, b1, b2, b3, peer, (m : Int), (f : Int)⟩ w W') (by kernel_rfl) ?_ (fun hHeld => ?_)
  · exact HSg.out
  refine k9 0 ?_ (y := ?_) (h := ?_)
  rotate_left 1
  · (intro w' hSw; (try dsimp only at hSw); go_simp; try with_reducible rfl)
  try simp only [Act.put, List.setIfInBounds_toArray, List.set_cons_zero, List.set_cons_succ]
  refine k9 1 ?_ (y := ?_) (h := ?_)
  rotate_left 1
  · (intro w' hSw; (try dsimp only at hSw); go_simp; try with_reducible rfl)
  try simp only [Act.put, List.setIfInBounds_toArray, List.set_cons_zero, List.set_cons_succ]
  refine k9 2 ?_ (y := ?_) (h := ?_)
  rotate_left 1
  · (intro w' hSw; have hq9 : w'.cell? ⟨w.heap.size, 12, none⟩ = some (.int .i64 (m : Int)) := (by rw [cell_in hSw.own]; rfl); clear hSw; (try dsimp only at hSw); go_simp; try with_reducible rfl)
  try simp only [Act.put, List.setIfInBounds_toArray, List.set_cons_zero, List.set_cons_succ]
  refine k9 5 ?_ (y := ?_) (h := ?_)
  rotate_left 1
  · (intro w' hSw; (try dsimp only at hSw); go_simp; try with_reducible rfl)
  try simp only [Act.put, List.setIfInBounds_toArray, List.set_cons_zero, List.set_cons_succ]
  refine k9 6 ?_ (y := ?_) (h := ?_)
  rotate_left 1
  · (intro w' hSw; have hq9 : w'.cell? ⟨w.heap.size, 13, none⟩ = some (.int .i64 (f : Int)) := (by rw [cell_in hSw.own]; rfl); clear hSw; (try dsimp only at hSw); go_simp; try with_reducible rfl)
  try simp only [Act.put, List.setIfInBounds_toArray, List.set_cons_zero, List.set_cons_succ]
  refine k9 9 ?_ (y := ?_) (h := ?_)
  rotate_left 1
  · (intro w' hSw; (try dsimp only at hSw); go_simp; try with_reducible rfl)
  try simp only [Act.put, List.setIfInBounds_toArray, List.set_cons_zero, List.set_cons_succ]
  refine k9 10 ?_ (y := ?_) (h := ?_)
  rotate_left 1
  · (intro w' hSw; have hq9 : w'.cell? ⟨w.heap.size, 11, none⟩ = some (.string peer) := (by rw [cell_in hSw.own]; rfl); clear hSw; (try dsimp only at hSw); go_simp; try with_reducible rfl)
  try simp only [Act.put, List.setIfInBounds_toArray, List.set_cons_zero, List.set_cons_succ]
  refine k9 11 ?_ (y := ?_) (h := ?_)
  rotate_left 1
  · (intro w' hSw; (try dsimp only at hSw); go_simp; try with_reducible rfl)
  try simp only [Act.put, List.setIfInBounds_toArray, List.set_cons_zero, List.set_cons_succ]
  refine k9 14 ?_ (y := ?_) (h := ?_)
  rotate_left 1
  · (intro w' hSw; (try dsimp only at hSw); go_simp; try with_reducible rfl)
  try simp only [Act.put, List.setIfInBounds_toArray, List.set_cons_zero, List.set_cons_succ]
  refine k9 15 ?_ (y := ?_) (h := ?_)
  rotate_left 1
  · (intro w' hSw; have hq9 : w'.cell? ⟨w.heap.size, 11, none⟩ = some (.string peer) := (by rw [cell_in hSw.own]; rfl); clear hSw; (try dsimp only at hSw); go_simp; try with_reducible rfl)
  try simp only [Act.put, List.setIfInBounds_toArray, List.set_cons_zero, List.set_cons_succ]
  refine wpAnyH_ready (rs := [3]) (by kernel_rfl) (by simp) ?_
  refine AllReadyH.cons (by simp only [q9a, q9s, q9z]; rfl) (fun K hK => ?_) AllReadyH.nil
  go_simp
  refine (N11.out _).mono ?_
  rintro _ w12 ⟨rfl, hb⟩
  have HS12 := Lib.hid (HSg.out.later hb)
  clear hb
  refine hK.out _ _ ?_ (fun hHeld => ?_)
  · exact HS12.out
  clear hK K
  try simp only [Act.put, List.setIfInBounds_toArray, List.set_cons_zero, List.set_cons_succ]
  refine k9 4 ?_ (y := ?_) (h := ?_)
  rotate_left 1
  · (intro w' hSw; (try dsimp only at hSw); go_simp; try with_reducible rfl)
  try simp only [Act.put, List.setIfInBounds_toArray, List.set_cons_zero, List.set_cons_succ]
  refine wpAnyH_ready (rs := [7]) (by kernel_rfl) (by simp) ?_
  refine AllReadyH.cons (by simp only [q9a, q9s, q9z]; rfl) (fun K hK => ?_) AllReadyH.nil
  go_simp
  refine (N12.out _).mono ?_
  rintro _ w13 ⟨rfl, hb⟩
  have HS13 := Lib.hid (HS12.out.later hb)
  clear hb
  refine hK.out _ _ ?_ (fun hHeld => ?_)
  · exact HS13.out
  clear hK K
  try simp only [Act.put, List.setIfInBounds_toArray, List.set_cons_zero, List.set_cons_succ]
  refine k9 8 ?_ (y := ?_) (h := ?_)
  rotate_left 1
  · (intro w' hSw; (try dsimp only at hSw); go_simp; try with_reducible rfl)
  try simp only [Act.put, List.setIfInBounds_toArray, List.set_cons_zero, List.set_cons_succ]
  refine wpAnyH_ready (rs := [12]) (by kernel_rfl) (by simp) ?_
  refine AllReadyH.cons (by simp only [q9a, q9s, q9z]; rfl) (fun K hK => ?_) AllReadyH.nil
  go_simp
  refine (N13.out _).mono ?_
  rintro _ w14 ⟨rfl, hb⟩
  have HS14 := Lib.hid (HS13.out.later hb)
  clear hb
  refine hK.out _ _ ?_ (fun hHeld => ?_)
  · exact HS14.out
  clear hK K
  try simp only [Act.put, List.setIfInBounds_toArray, List.set_cons_zero, List.set_cons_succ]
  refine k9 13 ?_ (y := ?_) (h := ?_)
  rotate_left 1
  · (intro w' hSw; (try dsimp only at hSw); go_simp; try with_reducible rfl)
  try simp only [Act.put, List.setIfInBounds_toArray, List.set_cons_zero, List.set_cons_succ]
  refine k9 16 ?_ (y := ?_) (h := ?_)
  rotate_left 1
  · (intro w' hSw; (try dsimp only at hSw); go_simp; try with_reducible rfl)
  try simp only [Act.put, List.setIfInBounds_toArray, List.set_cons_zero, List.set_cons_succ]
  refine k9 17 ?_ (y := ?_) (h := ?_)
  rotate_left 1
  · (intro w' hSw; (try dsimp only at hSw); go_simp; try with_reducible rfl)
  try simp only [Act.put, List.setIfInBounds_toArray, List.set_cons_zero, List.set_cons_succ]
  refine wpAnyH_done (by kernel_rfl) ?_ _
  refine NoPanic.normal ?_
  clear hHeld
  go_wp2_with fail
  go_ret
  exact ⟨by rw [HTX.out]; rfl, HS14.out.below⟩
end Go.Proofs.YthfiebdpoleeeaaDoor
