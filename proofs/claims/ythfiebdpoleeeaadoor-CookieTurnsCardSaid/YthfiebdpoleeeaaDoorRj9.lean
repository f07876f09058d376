/-
  The document's answer to layer 9: Read: a contract.
-/
import Derived.Test.YthfiebdpoleeeaaDoorRi9
namespace Go.Proofs.YthfiebdpoleeeaaDoor
open Go.RowKit
set_option linter.unusedVariables false
set_option linter.unusedSimpArgs false

/-- What several ways come to, proved once. -/
theorem share {G T : Prop} (p : G) (h : Hid G → T) : T := h (Lib.hid p)
theorem StS.set9 {T n0 : Nat} {s : St} {w W : World} (h : StS T n0 s w W) (a i : Nat) (v : Value) (ha : n0 < a) : StS T n0 s w (W.setCell ⟨a, i, none⟩ v) :=
  have hg := grown_set W a i v
  ⟨(hg.block n0 h.lt (by simp; omega)).trans h.own, h.below.trans (below_of_grown hg h.below.size (by have := h.base; omega)), h.base⟩

set_option maxHeartbeats 16000000 in
set_option maxRecDepth 100000 in
theorem rread_rest (key c : ByteArray) (hk : key.size ≤ 900000) (hc : c.size ≤ 900000) (h1 : 32 ≤ c.size) (h2 : sameB (hmacOf key (behindB c)) (c.extract 0 32) = true) (h3 : 53 ≤ (behindB c).size) (w : World) :
    Calls Tryd.prog 15 #[.string key, .string c] w fun e w' => e = .returned (.tuple #[.agg (cellsS (readK key c).1), .int .i64 ((readK key c).2 : Nat)]) ∧ Below w.heap.size w w' := by
  have HI := Lib.hid (sizeSr zeroS)
  have HE := Lib.hid (cellsS_one zeroS)
  have HS : Hid (StS 32 w.heap.size zeroS w (w.alloc (.cells #[.int .u32 0, .int .u32 0, .int .u32 0, .int .u32 0, .int .u32 0, .int .u32 0, .int .u32 0, .int .u16 0, .int .u16 0, .int .u16 0, .int .u16 0, .string ⟨#[]⟩, .int .i64 0, .int .i64 0] 32))) := Lib.hid (StS.new 32 zeroS w)
  obtain ⟨R, hR⟩ : ∃ R, R = readK key c := ⟨_, rfl⟩
  have hR1 : R = if okS (behindB c) then (parseS (behindB c), 0) else (zeroS, 2) := by rw [hR]; unfold readK; rw [if_neg (by omega), if_pos h2]
  have HRw : Hid (rightS (parseS (behindB c)) = false → R = (zeroS, 2)) := Lib.hid fun h => by
    have ho : okS (behindB c) = false := by unfold okS; rw [h, Bool.and_false]
    rw [hR1, ho]; rfl
  have HRo : Hid (okS (behindB c) = false → R = (zeroS, 2)) := Lib.hid fun h => by rw [hR1, h]; rfl
  have HRg : Hid (okS (behindB c) = true → R = (parseS (behindB c), 0)) := Lib.hid fun h => by rw [hR1, h]; rfl
  rw [← hR]
  clear hR hR1
  have h3' : (53 : Int) ≤ ((c.extract 32 c.size).size : Int) := by unfold behindB at h3; omega
  have HG := Lib.hid (fun W => rright_any9 (parseS (behindB c)) W)
  have HBy := Lib.hid (fun (h4 : rightS (parseS (behindB c)) = true) W => rbytes_any9 (parseS (behindB c)) (parseS_wf _) (right_of h4) W)
  have HXX : Hid (rightS (parseS (behindB c)) = true → ((textS (parseS (behindB c))).toList == (behindB c).toList) = okS (behindB c)) := Lib.hid fun h4 => by
    rw [eqB_same, ← text_parse_ok h3 h4]
    rfl
  obtain ⟨ps, hps⟩ : ∃ ps, ps = parseS (behindB c) := ⟨_, rfl⟩
  rw [← hps] at HG HBy HXX HRw HRg
  generalize textS ps = ts at *
  generalize rightS ps = g at *
  generalize okS (behindB c) = ok at *
  have HPX := Lib.hid hps
  unfold behindB at HPX HXX
  clear hps h3
  have h1' : (32 : Int) ≤ (c.size : Int) := by omega
  have hb0 := behindB_size c
  have HC := Lib.hid (fun W => rhmac_any key (behindB c) hk (by omega) W)
  have heq := eqB_same (hmacOf key (behindB c)) (c.extract 0 32)
  rw [h2] at heq
  unfold behindB at HC heq hb0 h2
  generalize hmacOf key (c.extract 32 c.size) = d at *
  clear hk hc h2
  go_enter Tryd.func15, Tryd.ntmps15
  go_wp2_with fail
  refine wp_region_noPanic ?_
  refine wp_region_held_drew (S := fun _ => True) (by kernel_rfl) ?_ (fun hHeld => ?_)
  · trivial
  refine k9 0 ?_ (y := ?_) (h := ?_)
  rotate_left 1
  · (intro w' hSw; (try dsimp only at hSw); go_simp; try with_reducible rfl)
  try simp only [Act.put, List.setIfInBounds_toArray, List.set_cons_zero, List.set_cons_succ]
  refine k9 1 ?_ (y := ?_) (h := ?_)
  rotate_left 1
  · (intro w' hSw; (try dsimp only at hSw); go_simp; try with_reducible rfl)
  try simp only [Act.put, List.setIfInBounds_toArray, List.set_cons_zero, List.set_cons_succ]
  refine k9 3 ?_ (y := ?_) (h := ?_)
  rotate_left 1
  · (intro w' hSw; (try dsimp only at hSw); go_simp; try with_reducible rfl)
  try simp only [Act.put, List.setIfInBounds_toArray, List.set_cons_zero, List.set_cons_succ]
  refine k9 4 ?_ (y := ?_) (h := ?_)
  rotate_left 1
  · (intro w' hSw; (try dsimp only at hSw); go_simp; try with_reducible rfl)
  try simp only [Act.put, List.setIfInBounds_toArray, List.set_cons_zero, List.set_cons_succ]
  refine wpAnyH_ready (rs := [2]) (by kernel_rfl) (by simp) ?_
  refine AllReadyH.cons (by simp only [q9a, q9s, q9z]; rfl) (fun K hK => ?_) AllReadyH.nil
  go_simp
  refine (HC.out _).mono ?_
  rintro _ w2 ⟨rfl, hb⟩
  have HS2 := Lib.hid (HS.out.drew.later hb)
  clear hb HS HC
  refine hK.out _ _ ?_ (fun hHeld => ?_)
  · trivial
  clear hK K
  try simp only [Act.put, List.setIfInBounds_toArray, List.set_cons_zero, List.set_cons_succ]
  refine k9 5 ?_ (y := ?_) (h := ?_)
  rotate_left 1
  · (intro w' hSw; (try dsimp only at hSw); go_simp; try with_reducible rfl)
  try simp only [Act.put, List.setIfInBounds_toArray, List.set_cons_zero, List.set_cons_succ]
  refine wpAnyH_done (by kernel_rfl) ?_ _
  refine NoPanic.normal ?_
  clear hHeld
  generalize hB : c.extract 32 c.size = B at *
  clear heq hB h1 h1' hb0
  obtain ⟨x0, hx0⟩ : ∃ x, x = at9 B.data.toList 0 4 := ⟨_, rfl⟩
  obtain ⟨x1, hx1⟩ : ∃ x, x = at9 B.data.toList 4 4 := ⟨_, rfl⟩
  obtain ⟨x2, hx2⟩ : ∃ x, x = at9 B.data.toList 8 4 := ⟨_, rfl⟩
  obtain ⟨x3, hx3⟩ : ∃ x, x = at9 B.data.toList 12 4 := ⟨_, rfl⟩
  obtain ⟨x4, hx4⟩ : ∃ x, x = at9 B.data.toList 16 4 := ⟨_, rfl⟩
  obtain ⟨x5, hx5⟩ : ∃ x, x = at9 B.data.toList 20 4 := ⟨_, rfl⟩
  obtain ⟨x6, hx6⟩ : ∃ x, x = at9 B.data.toList 24 4 := ⟨_, rfl⟩
  obtain ⟨x7, hx7⟩ : ∃ x, x = at9 B.data.toList 28 2 := ⟨_, rfl⟩
  obtain ⟨x8, hx8⟩ : ∃ x, x = at9 B.data.toList 30 2 := ⟨_, rfl⟩
  obtain ⟨x9, hx9⟩ : ∃ x, x = at9 B.data.toList 32 2 := ⟨_, rfl⟩
  obtain ⟨x10, hx10⟩ : ∃ x, x = at9 B.data.toList 34 2 := ⟨_, rfl⟩
  obtain ⟨x11, hx11⟩ : ∃ x, x = at9 B.data.toList 36 8 := ⟨_, rfl⟩
  obtain ⟨x12, hx12⟩ : ∃ x, x = at9 B.data.toList 44 8 := ⟨_, rfl⟩
  have HPS := Lib.hid (show ps = ⟨x0, x1, x2, x3, x4, x5, x6, x7, x8, x9, x10, B.extract 53 B.size, wrap64 (x11 : Int), wrap64 (x12 : Int)⟩ by rw [HPX.out, hx0, hx1, hx2, hx3, hx4, hx5, hx6, hx7, hx8, hx9, hx10, hx11, hx12, ← wrap64_is, ← wrap64_is]; rfl)
  have V0 := Lib.hid (fun W => rcut_any B 0 4 4 x0 (by decide) hx0 (by decide) W)
  have V1 := Lib.hid (fun W => rcut_any B 4 8 4 x1 (by decide) hx1 (by decide) W)
  have V2 := Lib.hid (fun W => rcut_any B 8 12 4 x2 (by decide) hx2 (by decide) W)
  have V3 := Lib.hid (fun W => rcut_any B 12 16 4 x3 (by decide) hx3 (by decide) W)
  have V4 := Lib.hid (fun W => rcut_any B 16 20 4 x4 (by decide) hx4 (by decide) W)
  have V5 := Lib.hid (fun W => rcut_any B 20 24 4 x5 (by decide) hx5 (by decide) W)
  have V6 := Lib.hid (fun W => rcut_any B 24 28 4 x6 (by decide) hx6 (by decide) W)
  have V7 := Lib.hid (fun W => rcut_any B 28 30 2 x7 (by decide) hx7 (by decide) W)
  have V8 := Lib.hid (fun W => rcut_any B 30 32 2 x8 (by decide) hx8 (by decide) W)
  have V9 := Lib.hid (fun W => rcut_any B 32 34 2 x9 (by decide) hx9 (by decide) W)
  have V10 := Lib.hid (fun W => rcut_any B 34 36 2 x10 (by decide) hx10 (by decide) W)
  have V11 := Lib.hid (fun W => rcut8_any B 36 44 x11 (by decide) hx11 W)
  have V12 := Lib.hid (fun W => rcut8_any B 44 52 x12 (by decide) hx12 W)
  have y0 : IntKind.u32.wrap (x0 : Int) = (x0 : Int) := by rw [IntKind.wrap_u32]; have h := at9_lt B.data.toList 0 4; rw [← hx0] at h; omega
  have y1 : IntKind.u32.wrap (x1 : Int) = (x1 : Int) := by rw [IntKind.wrap_u32]; have h := at9_lt B.data.toList 4 4; rw [← hx1] at h; omega
  have y2 : IntKind.u32.wrap (x2 : Int) = (x2 : Int) := by rw [IntKind.wrap_u32]; have h := at9_lt B.data.toList 8 4; rw [← hx2] at h; omega
  have y3 : IntKind.u32.wrap (x3 : Int) = (x3 : Int) := by rw [IntKind.wrap_u32]; have h := at9_lt B.data.toList 12 4; rw [← hx3] at h; omega
  have y4 : IntKind.u32.wrap (x4 : Int) = (x4 : Int) := by rw [IntKind.wrap_u32]; have h := at9_lt B.data.toList 16 4; rw [← hx4] at h; omega
  have y5 : IntKind.u32.wrap (x5 : Int) = (x5 : Int) := by rw [IntKind.wrap_u32]; have h := at9_lt B.data.toList 20 4; rw [← hx5] at h; omega
  have y6 : IntKind.u32.wrap (x6 : Int) = (x6 : Int) := by rw [IntKind.wrap_u32]; have h := at9_lt B.data.toList 24 4; rw [← hx6] at h; omega
  have y7 : x7 < 65536 := by have h := at9_lt B.data.toList 28 2; rw [← hx7] at h; omega
  have y8 : x8 < 65536 := by have h := at9_lt B.data.toList 30 2; rw [← hx8] at h; omega
  have y9 : x9 < 65536 := by have h := at9_lt B.data.toList 32 2; rw [← hx9] at h; omega
  have y10 : x10 < 65536 := by have h := at9_lt B.data.toList 34 2; rw [← hx10] at h; omega
  clear HPX
  clear hx0 hx1 hx2 hx3 hx4 hx5 hx6 hx7 hx8 hx9 hx10 hx11 hx12
  go_wp2_with fail
  refine share (G := ?_) ?_ ?_
  rotate_left 2
  intro HEND
  refine wp_region_noPanic ?_
  refine wp_region_held_drew (S := fun _ => True) (by kernel_rfl) ?_ (fun hHeld => ?_)
  · trivial
  refine k9 0 ?_ (y := ?_) (h := ?_)
  rotate_left 1
  · (intro w' hSw; (try dsimp only at hSw); go_simp; try with_reducible rfl)
  try simp only [Act.put, List.setIfInBounds_toArray, List.set_cons_zero, List.set_cons_succ]
  refine k9 1 ?_ (y := ?_) (h := ?_)
  rotate_left 1
  · (intro w' hSw; have hb8 : (4 : Int) ≤ (B.size : Int):= (by omega); (try dsimp only at hSw); go_simp; try with_reducible rfl)
  try simp only [Act.put, List.setIfInBounds_toArray, List.set_cons_zero, List.set_cons_succ]
  refine k9 4 ?_ (y := ?_) (h := ?_)
  rotate_left 1
  · (intro w' hSw; (try dsimp only at hSw); go_simp; try with_reducible rfl)
  try simp only [Act.put, List.setIfInBounds_toArray, List.set_cons_zero, List.set_cons_succ]
  refine k9 5 ?_ (y := ?_) (h := ?_)
  rotate_left 1
  · (intro w' hSw; have hb8 : (8 : Int) ≤ (B.size : Int):= (by omega); (try dsimp only at hSw); go_simp; try with_reducible rfl)
  try simp only [Act.put, List.setIfInBounds_toArray, List.set_cons_zero, List.set_cons_succ]
  refine k9 8 ?_ (y := ?_) (h := ?_)
  rotate_left 1
  · (intro w' hSw; (try dsimp only at hSw); go_simp; try with_reducible rfl)
  try simp only [Act.put, List.setIfInBounds_toArray, List.set_cons_zero, List.set_cons_succ]
  refine k9 9 ?_ (y := ?_) (h := ?_)
  rotate_left 1
  · (intro w' hSw; have hb8 : (12 : Int) ≤ (B.size : Int):= (by omega); (try dsimp only at hSw); go_simp; try with_reducible rfl)
  try simp only [Act.put, List.setIfInBounds_toArray, List.set_cons_zero, List.set_cons_succ]
  refine k9 12 ?_ (y := ?_) (h := ?_)
  rotate_left 1
  · (intro w' hSw; (try dsimp only at hSw); go_simp; try with_reducible rfl)
  try simp only [Act.put, List.setIfInBounds_toArray, List.set_cons_zero, List.set_cons_succ]
  refine k9 13 ?_ (y := ?_) (h := ?_)
  rotate_left 1
  · (intro w' hSw; have hb8 : (16 : Int) ≤ (B.size : Int):= (by omega); (try dsimp only at hSw); go_simp; try with_reducible rfl)
  try simp only [Act.put, List.setIfInBounds_toArray, List.set_cons_zero, List.set_cons_succ]
  refine k9 16 ?_ (y := ?_) (h := ?_)
  rotate_left 1
  · (intro w' hSw; (try dsimp only at hSw); go_simp; try with_reducible rfl)
  try simp only [Act.put, List.setIfInBounds_toArray, List.set_cons_zero, List.set_cons_succ]
  refine k9 17 ?_ (y := ?_) (h := ?_)
  rotate_left 1
  · (intro w' hSw; have hb8 : (20 : Int) ≤ (B.size : Int):= (by omega); (try dsimp only at hSw); go_simp; try with_reducible rfl)
  try simp only [Act.put, List.setIfInBounds_toArray, List.set_cons_zero, List.set_cons_succ]
  refine k9 20 ?_ (y := ?_) (h := ?_)
  rotate_left 1
  · (intro w' hSw; (try dsimp only at hSw); go_simp; try with_reducible rfl)
  try simp only [Act.put, List.setIfInBounds_toArray, List.set_cons_zero, List.set_cons_succ]
  refine k9 21 ?_ (y := ?_) (h := ?_)
  rotate_left 1
  · (intro w' hSw; have hb8 : (24 : Int) ≤ (B.size : Int):= (by omega); (try dsimp only at hSw); go_simp; try with_reducible rfl)
  try simp only [Act.put, List.setIfInBounds_toArray, List.set_cons_zero, List.set_cons_succ]
  refine k9 24 ?_ (y := ?_) (h := ?_)
  rotate_left 1
  · (intro w' hSw; (try dsimp only at hSw); go_simp; try with_reducible rfl)
  try simp only [Act.put, List.setIfInBounds_toArray, List.set_cons_zero, List.set_cons_succ]
  refine k9 25 ?_ (y := ?_) (h := ?_)
  rotate_left 1
  · (intro w' hSw; have hb8 : (28 : Int) ≤ (B.size : Int):= (by omega); (try dsimp only at hSw); go_simp; try with_reducible rfl)
  try simp only [Act.put, List.setIfInBounds_toArray, List.set_cons_zero, List.set_cons_succ]
  have HI0 := Lib.hid (sizeSr ⟨x0, x1, x2, x3, x4, x5, x6, 0, 0, 0, 0, ⟨#[]⟩, 0, 0⟩)
  have HE0 := Lib.hid (cellsS_one ⟨x0, x1, x2, x3, x4, x5, x6, 0, 0, 0, 0, ⟨#[]⟩, 0, 0⟩)
  refine wpAnyH_ready (rs := [2, 29]) (by kernel_rfl) (by simp) ?_
  refine AllReadyH.cons (by simp only [q9a, q9s, q9z]; rfl) (fun K hK => ?_) (AllReadyH.cons (by simp only [q9a, q9s, q9z]; rfl) (fun K hK => ?_) AllReadyH.nil)
  rotate_left 1
  go_simp
  refine hK.out _ _ ?_ (fun hHeld => ?_)
  · trivial
  clear hK K
  try simp only [Act.put, List.setIfInBounds_toArray, List.set_cons_zero, List.set_cons_succ]
  refine wpAnyH_ready (rs := [2]) (by kernel_rfl) (by simp) ?_
  refine AllReadyH.cons (by simp only [q9a, q9s, q9z]; rfl) (fun K hK => ?_) AllReadyH.nil
  go_simp
  refine (V0.out _).mono ?_
  rintro _ _ ⟨rfl, rfl⟩
  refine hK.out _ _ ?_ (fun hHeld => ?_)
  · trivial
  clear hK K
  try simp only [Act.put, List.setIfInBounds_toArray, List.set_cons_zero, List.set_cons_succ]
  refine k9 3 ?_ (y := ?_) (h := ?_)
  rotate_left 1
  · (intro w' hSw; (try dsimp only at hSw); go_simp; try with_reducible rfl)
  try simp only [Act.put, List.setIfInBounds_toArray, List.set_cons_zero, List.set_cons_succ]
  refine wpAnyH_ready (rs := [6]) (by kernel_rfl) (by simp) ?_
  refine AllReadyH.cons (by simp only [q9a, q9s, q9z]; rfl) (fun K hK => ?_) AllReadyH.nil
  go_simp
  refine (V1.out _).mono ?_
  rintro _ _ ⟨rfl, rfl⟩
  refine hK.out _ _ ?_ (fun hHeld => ?_)
  · trivial
  clear hK K
  try simp only [Act.put, List.setIfInBounds_toArray, List.set_cons_zero, List.set_cons_succ]
  refine k9 7 ?_ (y := ?_) (h := ?_)
  rotate_left 1
  · (intro w' hSw; (try dsimp only at hSw); go_simp; try with_reducible rfl)
  try simp only [Act.put, List.setIfInBounds_toArray, List.set_cons_zero, List.set_cons_succ]
  refine wpAnyH_ready (rs := [10]) (by kernel_rfl) (by simp) ?_
  refine AllReadyH.cons (by simp only [q9a, q9s, q9z]; rfl) (fun K hK => ?_) AllReadyH.nil
  go_simp
  refine (V2.out _).mono ?_
  rintro _ _ ⟨rfl, rfl⟩
  refine hK.out _ _ ?_ (fun hHeld => ?_)
  · trivial
  clear hK K
  try simp only [Act.put, List.setIfInBounds_toArray, List.set_cons_zero, List.set_cons_succ]
  refine k9 11 ?_ (y := ?_) (h := ?_)
  rotate_left 1
  · (intro w' hSw; (try dsimp only at hSw); go_simp; try with_reducible rfl)
  try simp only [Act.put, List.setIfInBounds_toArray, List.set_cons_zero, List.set_cons_succ]
  refine wpAnyH_ready (rs := [14]) (by kernel_rfl) (by simp) ?_
  refine AllReadyH.cons (by simp only [q9a, q9s, q9z]; rfl) (fun K hK => ?_) AllReadyH.nil
  go_simp
  refine (V3.out _).mono ?_
  rintro _ _ ⟨rfl, rfl⟩
  refine hK.out _ _ ?_ (fun hHeld => ?_)
  · trivial
  clear hK K
  try simp only [Act.put, List.setIfInBounds_toArray, List.set_cons_zero, List.set_cons_succ]
  refine k9 15 ?_ (y := ?_) (h := ?_)
  rotate_left 1
  · (intro w' hSw; (try dsimp only at hSw); go_simp; try with_reducible rfl)
  try simp only [Act.put, List.setIfInBounds_toArray, List.set_cons_zero, List.set_cons_succ]
  refine wpAnyH_ready (rs := [18]) (by kernel_rfl) (by simp) ?_
  refine AllReadyH.cons (by simp only [q9a, q9s, q9z]; rfl) (fun K hK => ?_) AllReadyH.nil
  go_simp
  refine (V4.out _).mono ?_
  rintro _ _ ⟨rfl, rfl⟩
  refine hK.out _ _ ?_ (fun hHeld => ?_)
  · trivial
  clear hK K
  try simp only [Act.put, List.setIfInBounds_toArray, List.set_cons_zero, List.set_cons_succ]
  refine k9 19 ?_ (y := ?_) (h := ?_)
  rotate_left 1
  · (intro w' hSw; (try dsimp only at hSw); go_simp; try with_reducible rfl)
  try simp only [Act.put, List.setIfInBounds_toArray, List.set_cons_zero, List.set_cons_succ]
  refine wpAnyH_ready (rs := [22]) (by kernel_rfl) (by simp) ?_
  refine AllReadyH.cons (by simp only [q9a, q9s, q9z]; rfl) (fun K hK => ?_) AllReadyH.nil
  go_simp
  refine (V5.out _).mono ?_
  rintro _ _ ⟨rfl, rfl⟩
  refine hK.out _ _ ?_ (fun hHeld => ?_)
  · trivial
  clear hK K
  try simp only [Act.put, List.setIfInBounds_toArray, List.set_cons_zero, List.set_cons_succ]
  refine k9 23 ?_ (y := ?_) (h := ?_)
  rotate_left 1
  · (intro w' hSw; (try dsimp only at hSw); go_simp; try with_reducible rfl)
  try simp only [Act.put, List.setIfInBounds_toArray, List.set_cons_zero, List.set_cons_succ]
  refine wpAnyH_ready (rs := [26]) (by kernel_rfl) (by simp) ?_
  refine AllReadyH.cons (by simp only [q9a, q9s, q9z]; rfl) (fun K hK => ?_) AllReadyH.nil
  go_simp
  refine (V6.out _).mono ?_
  rintro _ _ ⟨rfl, rfl⟩
  refine hK.out _ _ ?_ (fun hHeld => ?_)
  · trivial
  clear hK K
  try simp only [Act.put, List.setIfInBounds_toArray, List.set_cons_zero, List.set_cons_succ]
  refine k9 27 ?_ (y := ?_) (h := ?_)
  rotate_left 1
  · (intro w' hSw; (try dsimp only at hSw); go_simp; try with_reducible rfl)
  try simp only [Act.put, List.setIfInBounds_toArray, List.set_cons_zero, List.set_cons_succ]
  refine k9 28 ?_ (y := ?_) (h := ?_)
  rotate_left 1
  · (intro w' hSw; (try dsimp only at hSw); go_simp; try with_reducible rfl)
  try simp only [Act.put, List.setIfInBounds_toArray, List.set_cons_zero, List.set_cons_succ]
  refine wpAnyH_ready (rs := [30]) (by kernel_rfl) (by simp) ?_
  refine AllReadyH.cons (by simp only [q9a, q9s, q9z]; rfl) (fun K hK => ?_) AllReadyH.nil
  rw [if_pos (by rfl)]
  refine wp_store_row 32 (.tmp 7) (.tmp 54) rfl w2.heap.size (cellsS ⟨x0, x1, x2, x3, x4, x5, x6, 0, 0, 0, 0, ⟨#[]⟩, 0, 0⟩) (by rfl) (by rfl) 32 #[.int .u32 0, .int .u32 0, .int .u32 0, .int .u32 0, .int .u32 0, .int .u32 0, .int .u32 0, .int .u16 0, .int .u16 0, .int .u16 0, .int .u16 0, .string ⟨#[]⟩, .int .i64 0, .int .i64 0] (heap_alloc_new w2.drew _) HI0.out rfl HE0.out ?_
  refine hK.out _ _ ?_ (fun hHeld => ?_)
  · trivial
  clear hK K
  try simp only [Act.put, List.setIfInBounds_toArray, List.set_cons_zero, List.set_cons_succ]
  refine wpAnyH_done (by kernel_rfl) ?_ _
  refine NoPanic.normal ?_
  clear hHeld
  rotate_right 1
  go_simp
  refine (V0.out _).mono ?_
  rintro _ _ ⟨rfl, rfl⟩
  refine hK.out _ _ ?_ (fun hHeld => ?_)
  · trivial
  clear hK K
  try simp only [Act.put, List.setIfInBounds_toArray, List.set_cons_zero, List.set_cons_succ]
  refine k9 3 ?_ (y := ?_) (h := ?_)
  rotate_left 1
  · (intro w' hSw; (try dsimp only at hSw); go_simp; try with_reducible rfl)
  try simp only [Act.put, List.setIfInBounds_toArray, List.set_cons_zero, List.set_cons_succ]
  refine wpAnyH_ready (rs := [6, 29]) (by kernel_rfl) (by simp) ?_
  refine AllReadyH.cons (by simp only [q9a, q9s, q9z]; rfl) (fun K hK => ?_) (AllReadyH.cons (by simp only [q9a, q9s, q9z]; rfl) (fun K hK => ?_) AllReadyH.nil)
  rotate_left 1
  go_simp
  refine hK.out _ _ ?_ (fun hHeld => ?_)
  · trivial
  clear hK K
  try simp only [Act.put, List.setIfInBounds_toArray, List.set_cons_zero, List.set_cons_succ]
  refine wpAnyH_ready (rs := [6]) (by kernel_rfl) (by simp) ?_
  refine AllReadyH.cons (by simp only [q9a, q9s, q9z]; rfl) (fun K hK => ?_) AllReadyH.nil
  go_simp
  refine (V1.out _).mono ?_
  rintro _ _ ⟨rfl, rfl⟩
  refine hK.out _ _ ?_ (fun hHeld => ?_)
  · trivial
  clear hK K
  try simp only [Act.put, List.setIfInBounds_toArray, List.set_cons_zero, List.set_cons_succ]
  refine k9 7 ?_ (y := ?_) (h := ?_)
  rotate_left 1
  · (intro w' hSw; (try dsimp only at hSw); go_simp; try with_reducible rfl)
  try simp only [Act.put, List.setIfInBounds_toArray, List.set_cons_zero, List.set_cons_succ]
  refine wpAnyH_ready (rs := [10]) (by kernel_rfl) (by simp) ?_
  refine AllReadyH.cons (by simp only [q9a, q9s, q9z]; rfl) (fun K hK => ?_) AllReadyH.nil
  go_simp
  refine (V2.out _).mono ?_
  rintro _ _ ⟨rfl, rfl⟩
  refine hK.out _ _ ?_ (fun hHeld => ?_)
  · trivial
  clear hK K
  try simp only [Act.put, List.setIfInBounds_toArray, List.set_cons_zero, List.set_cons_succ]
  refine k9 11 ?_ (y := ?_) (h := ?_)
  rotate_left 1
  · (intro w' hSw; (try dsimp only at hSw); go_simp; try with_reducible rfl)
  try simp only [Act.put, List.setIfInBounds_toArray, List.set_cons_zero, List.set_cons_succ]
  refine wpAnyH_ready (rs := [14]) (by kernel_rfl) (by simp) ?_
  refine AllReadyH.cons (by simp only [q9a, q9s, q9z]; rfl) (fun K hK => ?_) AllReadyH.nil
  go_simp
  refine (V3.out _).mono ?_
  rintro _ _ ⟨rfl, rfl⟩
  refine hK.out _ _ ?_ (fun hHeld => ?_)
  · trivial
  clear hK K
  try simp only [Act.put, List.setIfInBounds_toArray, List.set_cons_zero, List.set_cons_succ]
  refine k9 15 ?_ (y := ?_) (h := ?_)
  rotate_left 1
  · (intro w' hSw; (try dsimp only at hSw); go_simp; try with_reducible rfl)
  try simp only [Act.put, List.setIfInBounds_toArray, List.set_cons_zero, List.set_cons_succ]
  refine wpAnyH_ready (rs := [18]) (by kernel_rfl) (by simp) ?_
  refine AllReadyH.cons (by simp only [q9a, q9s, q9z]; rfl) (fun K hK => ?_) AllReadyH.nil
  go_simp
  refine (V4.out _).mono ?_
  rintro _ _ ⟨rfl, rfl⟩
  refine hK.out _ _ ?_ (fun hHeld => ?_)
  · trivial
  clear hK K
  try simp only [Act.put, List.setIfInBounds_toArray, List.set_cons_zero, List.set_cons_succ]
  refine k9 19 ?_ (y := ?_) (h := ?_)
  rotate_left 1
  · (intro w' hSw; (try dsimp only at hSw); go_simp; try with_reducible rfl)
  try simp only [Act.put, List.setIfInBounds_toArray, List.set_cons_zero, List.set_cons_succ]
  refine wpAnyH_ready (rs := [22]) (by kernel_rfl) (by simp) ?_
  refine AllReadyH.cons (by simp only [q9a, q9s, q9z]; rfl) (fun K hK => ?_) AllReadyH.nil
  go_simp
  refine (V5.out _).mono ?_
  rintro _ _ ⟨rfl, rfl⟩
  refine hK.out _ _ ?_ (fun hHeld => ?_)
  · trivial
  clear hK K
  try simp only [Act.put, List.setIfInBounds_toArray, List.set_cons_zero, List.set_cons_succ]
  refine k9 23 ?_ (y := ?_) (h := ?_)
  rotate_left 1
  · (intro w' hSw; (try dsimp only at hSw); go_simp; try with_reducible rfl)
  try simp only [Act.put, List.setIfInBounds_toArray, List.set_cons_zero, List.set_cons_succ]
  refine wpAnyH_ready (rs := [26]) (by kernel_rfl) (by simp) ?_
  refine AllReadyH.cons (by simp only [q9a, q9s, q9z]; rfl) (fun K hK => ?_) AllReadyH.nil
  go_simp
  refine (V6.out _).mono ?_
  rintro _ _ ⟨rfl, rfl⟩
  refine hK.out _ _ ?_ (fun hHeld => ?_)
  · trivial
  clear hK K
  try simp only [Act.put, List.setIfInBounds_toArray, List.set_cons_zero, List.set_cons_succ]
  refine k9 27 ?_ (y := ?_) (h := ?_)
  rotate_left 1
  · (intro w' hSw; (try dsimp only at hSw); go_simp; try with_reducible rfl)
  try simp only [Act.put, List.setIfInBounds_toArray, List.set_cons_zero, List.set_cons_succ]
  refine k9 28 ?_ (y := ?_) (h := ?_)
  rotate_left 1
  · (intro w' hSw; (try dsimp only at hSw); go_simp; try with_reducible rfl)
  try simp only [Act.put, List.setIfInBounds_toArray, List.set_cons_zero, List.set_cons_succ]
  refine wpAnyH_ready (rs := [30]) (by kernel_rfl) (by simp) ?_
  refine AllReadyH.cons (by simp only [q9a, q9s, q9z]; rfl) (fun K hK => ?_) AllReadyH.nil
  rw [if_pos (by rfl)]
  refine wp_store_row 32 (.tmp 7) (.tmp 54) rfl w2.heap.size (cellsS ⟨x0, x1, x2, x3, x4, x5, x6, 0, 0, 0, 0, ⟨#[]⟩, 0, 0⟩) (by rfl) (by rfl) 32 #[.int .u32 0, .int .u32 0, .int .u32 0, .int .u32 0, .int .u32 0, .int .u32 0, .int .u32 0, .int .u16 0, .int .u16 0, .int .u16 0, .int .u16 0, .string ⟨#[]⟩, .int .i64 0, .int .i64 0] (heap_alloc_new w2.drew _) HI0.out rfl HE0.out ?_
  refine hK.out _ _ ?_ (fun hHeld => ?_)
  · trivial
  clear hK K
  try simp only [Act.put, List.setIfInBounds_toArray, List.set_cons_zero, List.set_cons_succ]
  refine wpAnyH_done (by kernel_rfl) ?_ _
  refine NoPanic.normal ?_
  clear hHeld
  rotate_right 1
  go_simp
  refine (V1.out _).mono ?_
  rintro _ _ ⟨rfl, rfl⟩
  refine hK.out _ _ ?_ (fun hHeld => ?_)
  · trivial
  clear hK K
  try simp only [Act.put, List.setIfInBounds_toArray, List.set_cons_zero, List.set_cons_succ]
  refine k9 7 ?_ (y := ?_) (h := ?_)
  rotate_left 1
  · (intro w' hSw; (try dsimp only at hSw); go_simp; try with_reducible rfl)
  try simp only [Act.put, List.setIfInBounds_toArray, List.set_cons_zero, List.set_cons_succ]
  refine wpAnyH_ready (rs := [10, 29]) (by kernel_rfl) (by simp) ?_
  refine AllReadyH.cons (by simp only [q9a, q9s, q9z]; rfl) (fun K hK => ?_) (AllReadyH.cons (by simp only [q9a, q9s, q9z]; rfl) (fun K hK => ?_) AllReadyH.nil)
  rotate_left 1
  go_simp
  refine hK.out _ _ ?_ (fun hHeld => ?_)
  · trivial
  clear hK K
  try simp only [Act.put, List.setIfInBounds_toArray, List.set_cons_zero, List.set_cons_succ]
  refine wpAnyH_ready (rs := [10]) (by kernel_rfl) (by simp) ?_
  refine AllReadyH.cons (by simp only [q9a, q9s, q9z]; rfl) (fun K hK => ?_) AllReadyH.nil
  go_simp
  refine (V2.out _).mono ?_
  rintro _ _ ⟨rfl, rfl⟩
  refine hK.out _ _ ?_ (fun hHeld => ?_)
  · trivial
  clear hK K
  try simp only [Act.put, List.setIfInBounds_toArray, List.set_cons_zero, List.set_cons_succ]
  refine k9 11 ?_ (y := ?_) (h := ?_)
  rotate_left 1
  · (intro w' hSw; (try dsimp only at hSw); go_simp; try with_reducible rfl)
  try simp only [Act.put, List.setIfInBounds_toArray, List.set_cons_zero, List.set_cons_succ]
  refine wpAnyH_ready (rs := [14]) (by kernel_rfl) (by simp) ?_
  refine AllReadyH.cons (by simp only [q9a, q9s, q9z]; rfl) (fun K hK => ?_) AllReadyH.nil
  go_simp
  refine (V3.out _).mono ?_
  rintro _ _ ⟨rfl, rfl⟩
  refine hK.out _ _ ?_ (fun hHeld => ?_)
  · trivial
  clear hK K
  try simp only [Act.put, List.setIfInBounds_toArray, List.set_cons_zero, List.set_cons_succ]
  refine k9 15 ?_ (y := ?_) (h := ?_)
  rotate_left 1
  · (intro w' hSw; (try dsimp only at hSw); go_simp; try with_reducible rfl)
  try simp only [Act.put, List.setIfInBounds_toArray, List.set_cons_zero, List.set_cons_succ]
  refine wpAnyH_ready (rs := [18]) (by kernel_rfl) (by simp) ?_
  refine AllReadyH.cons (by simp only [q9a, q9s, q9z]; rfl) (fun K hK => ?_) AllReadyH.nil
  go_simp
  refine (V4.out _).mono ?_
  rintro _ _ ⟨rfl, rfl⟩
  refine hK.out _ _ ?_ (fun hHeld => ?_)
  · trivial
  clear hK K
  try simp only [Act.put, List.setIfInBounds_toArray, List.set_cons_zero, List.set_cons_succ]
  refine k9 19 ?_ (y := ?_) (h := ?_)
  rotate_left 1
  · (intro w' hSw; (try dsimp only at hSw); go_simp; try with_reducible rfl)
  try simp only [Act.put, List.setIfInBounds_toArray, List.set_cons_zero, List.set_cons_succ]
  refine wpAnyH_ready (rs := [22]) (by kernel_rfl) (by simp) ?_
  refine AllReadyH.cons (by simp only [q9a, q9s, q9z]; rfl) (fun K hK => ?_) AllReadyH.nil
  go_simp
  refine (V5.out _).mono ?_
  rintro _ _ ⟨rfl, rfl⟩
  refine hK.out _ _ ?_ (fun hHeld => ?_)
  · trivial
  clear hK K
  try simp only [Act.put, List.setIfInBounds_toArray, List.set_cons_zero, List.set_cons_succ]
  refine k9 23 ?_ (y := ?_) (h := ?_)
  rotate_left 1
  · (intro w' hSw; (try dsimp only at hSw); go_simp; try with_reducible rfl)
  try simp only [Act.put, List.setIfInBounds_toArray, List.set_cons_zero, List.set_cons_succ]
  refine wpAnyH_ready (rs := [26]) (by kernel_rfl) (by simp) ?_
  refine AllReadyH.cons (by simp only [q9a, q9s, q9z]; rfl) (fun K hK => ?_) AllReadyH.nil
  go_simp
  refine (V6.out _).mono ?_
  rintro _ _ ⟨rfl, rfl⟩
  refine hK.out _ _ ?_ (fun hHeld => ?_)
  · trivial
  clear hK K
  try simp only [Act.put, List.setIfInBounds_toArray, List.set_cons_zero, List.set_cons_succ]
  refine k9 27 ?_ (y := ?_) (h := ?_)
  rotate_left 1
  · (intro w' hSw; (try dsimp only at hSw); go_simp; try with_reducible rfl)
  try simp only [Act.put, List.setIfInBounds_toArray, List.set_cons_zero, List.set_cons_succ]
  refine k9 28 ?_ (y := ?_) (h := ?_)
  rotate_left 1
  · (intro w' hSw; (try dsimp only at hSw); go_simp; try with_reducible rfl)
  try simp only [Act.put, List.setIfInBounds_toArray, List.set_cons_zero, List.set_cons_succ]
  refine wpAnyH_ready (rs := [30]) (by kernel_rfl) (by simp) ?_
  refine AllReadyH.cons (by simp only [q9a, q9s, q9z]; rfl) (fun K hK => ?_) AllReadyH.nil
  rw [if_pos (by rfl)]
  refine wp_store_row 32 (.tmp 7) (.tmp 54) rfl w2.heap.size (cellsS ⟨x0, x1, x2, x3, x4, x5, x6, 0, 0, 0, 0, ⟨#[]⟩, 0, 0⟩) (by rfl) (by rfl) 32 #[.int .u32 0, .int .u32 0, .int .u32 0, .int .u32 0, .int .u32 0, .int .u32 0, .int .u32 0, .int .u16 0, .int .u16 0, .int .u16 0, .int .u16 0, .string ⟨#[]⟩, .int .i64 0, .int .i64 0] (heap_alloc_new w2.drew _) HI0.out rfl HE0.out ?_
  refine hK.out _ _ ?_ (fun hHeld => ?_)
  · trivial
  clear hK K
  try simp only [Act.put, List.setIfInBounds_toArray, List.set_cons_zero, List.set_cons_succ]
  refine wpAnyH_done (by kernel_rfl) ?_ _
  refine NoPanic.normal ?_
  clear hHeld
  rotate_right 1
  go_simp
  refine (V2.out _).mono ?_
  rintro _ _ ⟨rfl, rfl⟩
  refine hK.out _ _ ?_ (fun hHeld => ?_)
  · trivial
  clear hK K
  try simp only [Act.put, List.setIfInBounds_toArray, List.set_cons_zero, List.set_cons_succ]
  refine k9 11 ?_ (y := ?_) (h := ?_)
  rotate_left 1
  · (intro w' hSw; (try dsimp only at hSw); go_simp; try with_reducible rfl)
  try simp only [Act.put, List.setIfInBounds_toArray, List.set_cons_zero, List.set_cons_succ]
  refine wpAnyH_ready (rs := [14, 29]) (by kernel_rfl) (by simp) ?_
  refine AllReadyH.cons (by simp only [q9a, q9s, q9z]; rfl) (fun K hK => ?_) (AllReadyH.cons (by simp only [q9a, q9s, q9z]; rfl) (fun K hK => ?_) AllReadyH.nil)
  rotate_left 1
  go_simp
  refine hK.out _ _ ?_ (fun hHeld => ?_)
  · trivial
  clear hK K
  try simp only [Act.put, List.setIfInBounds_toArray, List.set_cons_zero, List.set_cons_succ]
  refine wpAnyH_ready (rs := [14]) (by kernel_rfl) (by simp) ?_
  refine AllReadyH.cons (by simp only [q9a, q9s, q9z]; rfl) (fun K hK => ?_) AllReadyH.nil
  go_simp
  refine (V3.out _).mono ?_
  rintro _ _ ⟨rfl, rfl⟩
  refine hK.out _ _ ?_ (fun hHeld => ?_)
  · trivial
  clear hK K
  try simp only [Act.put, List.setIfInBounds_toArray, List.set_cons_zero, List.set_cons_succ]
  refine k9 15 ?_ (y := ?_) (h := ?_)
  rotate_left 1
  · (intro w' hSw; (try dsimp only at hSw); go_simp; try with_reducible rfl)
  try simp only [Act.put, List.setIfInBounds_toArray, List.set_cons_zero, List.set_cons_succ]
  refine wpAnyH_ready (rs := [18]) (by kernel_rfl) (by simp) ?_
  refine AllReadyH.cons (by simp only [q9a, q9s, q9z]; rfl) (fun K hK => ?_) AllReadyH.nil
  go_simp
  refine (V4.out _).mono ?_
  rintro _ _ ⟨rfl, rfl⟩
  refine hK.out _ _ ?_ (fun hHeld => ?_)
  · trivial
  clear hK K
  try simp only [Act.put, List.setIfInBounds_toArray, List.set_cons_zero, List.set_cons_succ]
  refine k9 19 ?_ (y := ?_) (h := ?_)
  rotate_left 1
  · (intro w' hSw; (try dsimp only at hSw); go_simp; try with_reducible rfl)
  try simp only [Act.put, List.setIfInBounds_toArray, List.set_cons_zero, List.set_cons_succ]
  refine wpAnyH_ready (rs := [22]) (by kernel_rfl) (by simp) ?_
  refine AllReadyH.cons (by simp only [q9a, q9s, q9z]; rfl) (fun K hK => ?_) AllReadyH.nil
  go_simp
  refine (V5.out _).mono ?_
  rintro _ _ ⟨rfl, rfl⟩
  refine hK.out _ _ ?_ (fun hHeld => ?_)
  · trivial
  clear hK K
  try simp only [Act.put, List.setIfInBounds_toArray, List.set_cons_zero, List.set_cons_succ]
  refine k9 23 ?_ (y := ?_) (h := ?_)
  rotate_left 1
  · (intro w' hSw; (try dsimp only at hSw); go_simp; try with_reducible rfl)
  try simp only [Act.put, List.setIfInBounds_toArray, List.set_cons_zero, List.set_cons_succ]
  refine wpAnyH_ready (rs := [26]) (by kernel_rfl) (by simp) ?_
  refine AllReadyH.cons (by simp only [q9a, q9s, q9z]; rfl) (fun K hK => ?_) AllReadyH.nil
  go_simp
  refine (V6.out _).mono ?_
  rintro _ _ ⟨rfl, rfl⟩
  refine hK.out _ _ ?_ (fun hHeld => ?_)
  · trivial
  clear hK K
  try simp only [Act.put, List.setIfInBounds_toArray, List.set_cons_zero, List.set_cons_succ]
  refine k9 27 ?_ (y := ?_) (h := ?_)
  rotate_left 1
  · (intro w' hSw; (try dsimp only at hSw); go_simp; try with_reducible rfl)
  try simp only [Act.put, List.setIfInBounds_toArray, List.set_cons_zero, List.set_cons_succ]
  refine k9 28 ?_ (y := ?_) (h := ?_)
  rotate_left 1
  · (intro w' hSw; (try dsimp only at hSw); go_simp; try with_reducible rfl)
  try simp only [Act.put, List.setIfInBounds_toArray, List.set_cons_zero, List.set_cons_succ]
  refine wpAnyH_ready (rs := [30]) (by kernel_rfl) (by simp) ?_
  refine AllReadyH.cons (by simp only [q9a, q9s, q9z]; rfl) (fun K hK => ?_) AllReadyH.nil
  rw [if_pos (by rfl)]
  refine wp_store_row 32 (.tmp 7) (.tmp 54) rfl w2.heap.size (cellsS ⟨x0, x1, x2, x3, x4, x5, x6, 0, 0, 0, 0, ⟨#[]⟩, 0, 0⟩) (by rfl) (by rfl) 32 #[.int .u32 0, .int .u32 0, .int .u32 0, .int .u32 0, .int .u32 0, .int .u32 0, .int .u32 0, .int .u16 0, .int .u16 0, .int .u16 0, .int .u16 0, .string ⟨#[]⟩, .int .i64 0, .int .i64 0] (heap_alloc_new w2.drew _) HI0.out rfl HE0.out ?_
  refine hK.out _ _ ?_ (fun hHeld => ?_)
  · trivial
  clear hK K
  try simp only [Act.put, List.setIfInBounds_toArray, List.set_cons_zero, List.set_cons_succ]
  refine wpAnyH_done (by kernel_rfl) ?_ _
  refine NoPanic.normal ?_
  clear hHeld
  rotate_right 1
  go_simp
  refine (V3.out _).mono ?_
  rintro _ _ ⟨rfl, rfl⟩
  refine hK.out _ _ ?_ (fun hHeld => ?_)
  · trivial
  clear hK K
  try simp only [Act.put, List.setIfInBounds_toArray, List.set_cons_zero, List.set_cons_succ]
  refine k9 15 ?_ (y := ?_) (h := ?_)
  rotate_left 1
  · (intro w' hSw; (try dsimp only at hSw); go_simp; try with_reducible rfl)
  try simp only [Act.put, List.setIfInBounds_toArray, List.set_cons_zero, List.set_cons_succ]
  refine wpAnyH_ready (rs := [18, 29]) (by kernel_rfl) (by simp) ?_
  refine AllReadyH.cons (by simp only [q9a, q9s, q9z]; rfl) (fun K hK => ?_) (AllReadyH.cons (by simp only [q9a, q9s, q9z]; rfl) (fun K hK => ?_) AllReadyH.nil)
  rotate_left 1
  go_simp
  refine hK.out _ _ ?_ (fun hHeld => ?_)
  · trivial
  clear hK K
  try simp only [Act.put, List.setIfInBounds_toArray, List.set_cons_zero, List.set_cons_succ]
  refine wpAnyH_ready (rs := [18]) (by kernel_rfl) (by simp) ?_
  refine AllReadyH.cons (by simp only [q9a, q9s, q9z]; rfl) (fun K hK => ?_) AllReadyH.nil
  go_simp
  refine (V4.out _).mono ?_
  rintro _ _ ⟨rfl, rfl⟩
  refine hK.out _ _ ?_ (fun hHeld => ?_)
  · trivial
  clear hK K
  try simp only [Act.put, List.setIfInBounds_toArray, List.set_cons_zero, List.set_cons_succ]
  refine k9 19 ?_ (y := ?_) (h := ?_)
  rotate_left 1
  · (intro w' hSw; (try dsimp only at hSw); go_simp; try with_reducible rfl)
  try simp only [Act.put, List.setIfInBounds_toArray, List.set_cons_zero, List.set_cons_succ]
  refine wpAnyH_ready (rs := [22]) (by kernel_rfl) (by simp) ?_
  refine AllReadyH.cons (by simp only [q9a, q9s, q9z]; rfl) (fun K hK => ?_) AllReadyH.nil
  go_simp
  refine (V5.out _).mono ?_
  rintro _ _ ⟨rfl, rfl⟩
  refine hK.out _ _ ?_ (fun hHeld => ?_)
  · trivial
  clear hK K
  try simp only [Act.put, List.setIfInBounds_toArray, List.set_cons_zero, List.set_cons_succ]
  refine k9 23 ?_ (y := ?_) (h := ?_)
  rotate_left 1
  · (intro w' hSw; (try dsimp only at hSw); go_simp; try with_reducible rfl)
  try simp only [Act.put, List.setIfInBounds_toArray, List.set_cons_zero, List.set_cons_succ]
  refine wpAnyH_ready (rs := [26]) (by kernel_rfl) (by simp) ?_
  refine AllReadyH.cons (by simp only [q9a, q9s, q9z]; rfl) (fun K hK => ?_) AllReadyH.nil
  go_simp
  refine (V6.out _).mono ?_
  rintro _ _ ⟨rfl, rfl⟩
  refine hK.out _ _ ?_ (fun hHeld => ?_)
  · trivial
  clear hK K
  try simp only [Act.put, List.setIfInBounds_toArray, List.set_cons_zero, List.set_cons_succ]
  refine k9 27 ?_ (y := ?_) (h := ?_)
  rotate_left 1
  · (intro w' hSw; (try dsimp only at hSw); go_simp; try with_reducible rfl)
  try simp only [Act.put, List.setIfInBounds_toArray, List.set_cons_zero, List.set_cons_succ]
  refine k9 28 ?_ (y := ?_) (h := ?_)
  rotate_left 1
  · (intro w' hSw; (try dsimp only at hSw); go_simp; try with_reducible rfl)
  try simp only [Act.put, List.setIfInBounds_toArray, List.set_cons_zero, List.set_cons_succ]
  refine wpAnyH_ready (rs := [30]) (by kernel_rfl) (by simp) ?_
  refine AllReadyH.cons (by simp only [q9a, q9s, q9z]; rfl) (fun K hK => ?_) AllReadyH.nil
  rw [if_pos (by rfl)]
  refine wp_store_row 32 (.tmp 7) (.tmp 54) rfl w2.heap.size (cellsS ⟨x0, x1, x2, x3, x4, x5, x6, 0, 0, 0, 0, ⟨#[]⟩, 0, 0⟩) (by rfl) (by rfl) 32 #[.int .u32 0, .int .u32 0, .int .u32 0, .int .u32 0, .int .u32 0, .int .u32 0, .int .u32 0, .int .u16 0, .int .u16 0, .int .u16 0, .int .u16 0, .string ⟨#[]⟩, .int .i64 0, .int .i64 0] (heap_alloc_new w2.drew _) HI0.out rfl HE0.out ?_
  refine hK.out _ _ ?_ (fun hHeld => ?_)
  · trivial
  clear hK K
  try simp only [Act.put, List.setIfInBounds_toArray, List.set_cons_zero, List.set_cons_succ]
  refine wpAnyH_done (by kernel_rfl) ?_ _
  refine NoPanic.normal ?_
  clear hHeld
  rotate_right 1
  go_simp
  refine (V4.out _).mono ?_
  rintro _ _ ⟨rfl, rfl⟩
  refine hK.out _ _ ?_ (fun hHeld => ?_)
  · trivial
  clear hK K
  try simp only [Act.put, List.setIfInBounds_toArray, List.set_cons_zero, List.set_cons_succ]
  refine k9 19 ?_ (y := ?_) (h := ?_)
  rotate_left 1
  · (intro w' hSw; (try dsimp only at hSw); go_simp; try with_reducible rfl)
  try simp only [Act.put, List.setIfInBounds_toArray, List.set_cons_zero, List.set_cons_succ]
  refine wpAnyH_ready (rs := [22, 29]) (by kernel_rfl) (by simp) ?_
  refine AllReadyH.cons (by simp only [q9a, q9s, q9z]; rfl) (fun K hK => ?_) (AllReadyH.cons (by simp only [q9a, q9s, q9z]; rfl) (fun K hK => ?_) AllReadyH.nil)
  rotate_left 1
  go_simp
  refine hK.out _ _ ?_ (fun hHeld => ?_)
  · trivial
  clear hK K
  try simp only [Act.put, List.setIfInBounds_toArray, List.set_cons_zero, List.set_cons_succ]
  refine wpAnyH_ready (rs := [22]) (by kernel_rfl) (by simp) ?_
  refine AllReadyH.cons (by simp only [q9a, q9s, q9z]; rfl) (fun K hK => ?_) AllReadyH.nil
  go_simp
  refine (V5.out _).mono ?_
  rintro _ _ ⟨rfl, rfl⟩
  refine hK.out _ _ ?_ (fun hHeld => ?_)
  · trivial
  clear hK K
  try simp only [Act.put, List.setIfInBounds_toArray, List.set_cons_zero, List.set_cons_succ]
  refine k9 23 ?_ (y := ?_) (h := ?_)
  rotate_left 1
  · (intro w' hSw; (try dsimp only at hSw); go_simp; try with_reducible rfl)
  try simp only [Act.put, List.setIfInBounds_toArray, List.set_cons_zero, List.set_cons_succ]
  refine wpAnyH_ready (rs := [26]) (by kernel_rfl) (by simp) ?_
  refine AllReadyH.cons (by simp only [q9a, q9s, q9z]; rfl) (fun K hK => ?_) AllReadyH.nil
  go_simp
  refine (V6.out _).mono ?_
  rintro _ _ ⟨rfl, rfl⟩
  refine hK.out _ _ ?_ (fun hHeld => ?_)
  · trivial
  clear hK K
  try simp only [Act.put, List.setIfInBounds_toArray, List.set_cons_zero, List.set_cons_succ]
  refine k9 27 ?_ (y := ?_) (h := ?_)
  rotate_left 1
  · (intro w' hSw; (try dsimp only at hSw); go_simp; try with_reducible rfl)
  try simp only [Act.put, List.setIfInBounds_toArray, List.set_cons_zero, List.set_cons_succ]
  refine k9 28 ?_ (y := ?_) (h := ?_)
  rotate_left 1
  · (intro w' hSw; (try dsimp only at hSw); go_simp; try with_reducible rfl)
  try simp only [Act.put, List.setIfInBounds_toArray, List.set_cons_zero, List.set_cons_succ]
  refine wpAnyH_ready (rs := [30]) (by kernel_rfl) (by simp) ?_
  refine AllReadyH.cons (by simp only [q9a, q9s, q9z]; rfl) (fun K hK => ?_) AllReadyH.nil
  rw [if_pos (by rfl)]
  refine wp_store_row 32 (.tmp 7) (.tmp 54) rfl w2.heap.size (cellsS ⟨x0, x1, x2, x3, x4, x5, x6, 0, 0, 0, 0, ⟨#[]⟩, 0, 0⟩) (by rfl) (by rfl) 32 #[.int .u32 0, .int .u32 0, .int .u32 0, .int .u32 0, .int .u32 0, .int .u32 0, .int .u32 0, .int .u16 0, .int .u16 0, .int .u16 0, .int .u16 0, .string ⟨#[]⟩, .int .i64 0, .int .i64 0] (heap_alloc_new w2.drew _) HI0.out rfl HE0.out ?_
  refine hK.out _ _ ?_ (fun hHeld => ?_)
  · trivial
  clear hK K
  try simp only [Act.put, List.setIfInBounds_toArray, List.set_cons_zero, List.set_cons_succ]
  refine wpAnyH_done (by kernel_rfl) ?_ _
  refine NoPanic.normal ?_
  clear hHeld
  rotate_right 1
  go_simp
  refine (V5.out _).mono ?_
  rintro _ _ ⟨rfl, rfl⟩
  refine hK.out _ _ ?_ (fun hHeld => ?_)
  · trivial
  clear hK K
  try simp only [Act.put, List.setIfInBounds_toArray, List.set_cons_zero, List.set_cons_succ]
  refine k9 23 ?_ (y := ?_) (h := ?_)
  rotate_left 1
  · (intro w' hSw; (try dsimp only at hSw); go_simp; try with_reducible rfl)
  try simp only [Act.put, List.setIfInBounds_toArray, List.set_cons_zero, List.set_cons_succ]
  refine wpAnyH_ready (rs := [26, 29]) (by kernel_rfl) (by simp) ?_
  refine AllReadyH.cons (by simp only [q9a, q9s, q9z]; rfl) (fun K hK => ?_) (AllReadyH.cons (by simp only [q9a, q9s, q9z]; rfl) (fun K hK => ?_) AllReadyH.nil)
  rotate_left 1
  go_simp
  refine hK.out _ _ ?_ (fun hHeld => ?_)
  · trivial
  clear hK K
  try simp only [Act.put, List.setIfInBounds_toArray, List.set_cons_zero, List.set_cons_succ]
  refine wpAnyH_ready (rs := [26]) (by kernel_rfl) (by simp) ?_
  refine AllReadyH.cons (by simp only [q9a, q9s, q9z]; rfl) (fun K hK => ?_) AllReadyH.nil
  go_simp
  refine (V6.out _).mono ?_
  rintro _ _ ⟨rfl, rfl⟩
  refine hK.out _ _ ?_ (fun hHeld => ?_)
  · trivial
  clear hK K
  try simp only [Act.put, List.setIfInBounds_toArray, List.set_cons_zero, List.set_cons_succ]
  refine k9 27 ?_ (y := ?_) (h := ?_)
  rotate_left 1
  · (intro w' hSw; (try dsimp only at hSw); go_simp; try with_reducible rfl)
  try simp only [Act.put, List.setIfInBounds_toArray, List.set_cons_zero, List.set_cons_succ]
  refine k9 28 ?_ (y := ?_) (h := ?_)
  rotate_left 1
  · (intro w' hSw; (try dsimp only at hSw); go_simp; try with_reducible rfl)
  try simp only [Act.put, List.setIfInBounds_toArray, List.set_cons_zero, List.set_cons_succ]
  refine wpAnyH_ready (rs := [30]) (by kernel_rfl) (by simp) ?_
  refine AllReadyH.cons (by simp only [q9a, q9s, q9z]; rfl) (fun K hK => ?_) AllReadyH.nil
  rw [if_pos (by rfl)]
  refine wp_store_row 32 (.tmp 7) (.tmp 54) rfl w2.heap.size (cellsS ⟨x0, x1, x2, x3, x4, x5, x6, 0, 0, 0, 0, ⟨#[]⟩, 0, 0⟩) (by rfl) (by rfl) 32 #[.int .u32 0, .int .u32 0, .int .u32 0, .int .u32 0, .int .u32 0, .int .u32 0, .int .u32 0, .int .u16 0, .int .u16 0, .int .u16 0, .int .u16 0, .string ⟨#[]⟩, .int .i64 0, .int .i64 0] (heap_alloc_new w2.drew _) HI0.out rfl HE0.out ?_
  refine hK.out _ _ ?_ (fun hHeld => ?_)
  · trivial
  clear hK K
  try simp only [Act.put, List.setIfInBounds_toArray, List.set_cons_zero, List.set_cons_succ]
  refine wpAnyH_done (by kernel_rfl) ?_ _
  refine NoPanic.normal ?_
  clear hHeld
  rotate_right 1
  go_simp
  refine (V6.out _).mono ?_
  rintro _ _ ⟨rfl, rfl⟩
  refine hK.out _ _ ?_ (fun hHeld => ?_)
  · trivial
  clear hK K
  try simp only [Act.put, List.setIfInBounds_toArray, List.set_cons_zero, List.set_cons_succ]
  refine k9 27 ?_ (y := ?_) (h := ?_)
  rotate_left 1
  · (intro w' hSw; (try dsimp only at hSw); go_simp; try with_reducible rfl)
  try simp only [Act.put, List.setIfInBounds_toArray, List.set_cons_zero, List.set_cons_succ]
  refine k9 28 ?_ (y := ?_) (h := ?_)
  rotate_left 1
  · (intro w' hSw; (try dsimp only at hSw); go_simp; try with_reducible rfl)
  try simp only [Act.put, List.setIfInBounds_toArray, List.set_cons_zero, List.set_cons_succ]
  refine wpAnyH_ready (rs := [29]) (by kernel_rfl) (by simp) ?_
  refine AllReadyH.cons (by simp only [q9a, q9s, q9z]; rfl) (fun K hK => ?_) AllReadyH.nil
  go_simp
  refine hK.out _ _ ?_ (fun hHeld => ?_)
  · trivial
  clear hK K
  try simp only [Act.put, List.setIfInBounds_toArray, List.set_cons_zero, List.set_cons_succ]
  refine wpAnyH_ready (rs := [30]) (by kernel_rfl) (by simp) ?_
  refine AllReadyH.cons (by simp only [q9a, q9s, q9z]; rfl) (fun K hK => ?_) AllReadyH.nil
  rw [if_pos (by rfl)]
  refine wp_store_row 32 (.tmp 7) (.tmp 54) rfl w2.heap.size (cellsS ⟨x0, x1, x2, x3, x4, x5, x6, 0, 0, 0, 0, ⟨#[]⟩, 0, 0⟩) (by rfl) (by rfl) 32 #[.int .u32 0, .int .u32 0, .int .u32 0, .int .u32 0, .int .u32 0, .int .u32 0, .int .u32 0, .int .u16 0, .int .u16 0, .int .u16 0, .int .u16 0, .string ⟨#[]⟩, .int .i64 0, .int .i64 0] (heap_alloc_new w2.drew _) HI0.out rfl HE0.out ?_
  refine hK.out _ _ ?_ (fun hHeld => ?_)
  · trivial
  clear hK K
  try simp only [Act.put, List.setIfInBounds_toArray, List.set_cons_zero, List.set_cons_succ]
  refine wpAnyH_done (by kernel_rfl) ?_ _
  refine NoPanic.normal ?_
  clear hHeld
  all_goals (try exact HEND.out)
  rw [show ((w2.alloc (.cells #[.int .u32 0, .int .u32 0, .int .u32 0, .int .u32 0, .int .u32 0, .int .u32 0, .int .u32 0, .int .u16 0, .int .u16 0, .int .u16 0, .int .u16 0, .string ⟨#[]⟩, .int .i64 0, .int .i64 0] 32)).drew).setRow w2.heap.size (cellsS ⟨x0, x1, x2, x3, x4, x5, x6, 0, 0, 0, 0, ⟨#[]⟩, 0, 0⟩) = w2.drew.alloc (.cells (cellsS ⟨x0, x1, x2, x3, x4, x5, x6, 0, 0, 0, 0, ⟨#[]⟩, 0, 0⟩) 32) from World.setRow_alloc_new w2.drew _ _ _]
  have HS0 : Hid (StS 32 w.heap.size zeroS w (w2.drew.alloc (.cells (cellsS ⟨x0, x1, x2, x3, x4, x5, x6, 0, 0, 0, 0, ⟨#[]⟩, 0, 0⟩) 32))) := Lib.hid (HS2.out.drew.later ((Below.refl _ _).alloc (Nat.le_refl _) _))
  have H0 : (w2.drew.alloc (.cells (cellsS ⟨x0, x1, x2, x3, x4, x5, x6, 0, 0, 0, 0, ⟨#[]⟩, 0, 0⟩) 32)).heap[w2.heap.size]? = some (.cells (cellsS ⟨x0, x1, x2, x3, x4, x5, x6, 0, 0, 0, 0, ⟨#[]⟩, 0, 0⟩) 32 (0, 0)) := heap_alloc_new w2.drew _
  have hlt : w.heap.size < w2.heap.size := HS2.out.lt
  clear HS2
  obtain ⟨W0, hW0⟩ : ∃ W, W = w2.drew.alloc (.cells (cellsS ⟨x0, x1, x2, x3, x4, x5, x6, 0, 0, 0, 0, ⟨#[]⟩, 0, 0⟩) 32) := ⟨_, rfl⟩
  rw [← hW0] at H0 HS0
  rw [← hW0]
  clear hW0
  generalize w2.heap.size = N at *
  have d7 : W0.cell? ⟨N, 7, none⟩ = some (.int .u16 0) := by rw [cell_in H0]; rfl
  have e7 : W0.frozen? ⟨N, 7, none⟩ = false := frozen_of_row H0 7
  have H1 := row_set9 H0 7 (.int .u16 x7)
  have HS1 := Lib.hid (StS.set9 HS0.out N 7 (.int .u16 x7) hlt)
  obtain ⟨W1, hW1⟩ : ∃ W, W = W0.setCell ⟨N, 7, none⟩ (.int .u16 x7) := ⟨_, rfl⟩
  rw [← hW1] at H1 HS1
  have s1 := hW1.symm
  have d8 : W1.cell? ⟨N, 8, none⟩ = some (.int .u16 0) := by rw [cell_in H1]; rfl
  have e8 : W1.frozen? ⟨N, 8, none⟩ = false := frozen_of_row H1 8
  have H2 := row_set9 H1 8 (.int .u16 x8)
  have HS2 := Lib.hid (StS.set9 HS1.out N 8 (.int .u16 x8) hlt)
  obtain ⟨W2, hW2⟩ : ∃ W, W = W1.setCell ⟨N, 8, none⟩ (.int .u16 x8) := ⟨_, rfl⟩
  rw [← hW2] at H2 HS2
  have s2 := hW2.symm
  have d9 : W2.cell? ⟨N, 9, none⟩ = some (.int .u16 0) := by rw [cell_in H2]; rfl
  have e9 : W2.frozen? ⟨N, 9, none⟩ = false := frozen_of_row H2 9
  have H3 := row_set9 H2 9 (.int .u16 x9)
  have HS3 := Lib.hid (StS.set9 HS2.out N 9 (.int .u16 x9) hlt)
  obtain ⟨W3, hW3⟩ : ∃ W, W = W2.setCell ⟨N, 9, none⟩ (.int .u16 x9) := ⟨_, rfl⟩
  rw [← hW3] at H3 HS3
  have s3 := hW3.symm
  have d10 : W3.cell? ⟨N, 10, none⟩ = some (.int .u16 0) := by rw [cell_in H3]; rfl
  have e10 : W3.frozen? ⟨N, 10, none⟩ = false := frozen_of_row H3 10
  have H4 := row_set9 H3 10 (.int .u16 x10)
  have HS4 := Lib.hid (StS.set9 HS3.out N 10 (.int .u16 x10) hlt)
  obtain ⟨W4, hW4⟩ : ∃ W, W = W3.setCell ⟨N, 10, none⟩ (.int .u16 x10) := ⟨_, rfl⟩
  rw [← hW4] at H4 HS4
  have s4 := hW4.symm
  have d12 : W4.cell? ⟨N, 12, none⟩ = some (.int .i64 0) := by rw [cell_in H4]; rfl
  have e12 : W4.frozen? ⟨N, 12, none⟩ = false := frozen_of_row H4 12
  have H5 := row_set9 H4 12 (.int .i64 (wrap64 (x11 : Int)))
  have HS5 := Lib.hid (StS.set9 HS4.out N 12 (.int .i64 (wrap64 (x11 : Int))) hlt)
  obtain ⟨W5, hW5⟩ : ∃ W, W = W4.setCell ⟨N, 12, none⟩ (.int .i64 (wrap64 (x11 : Int))) := ⟨_, rfl⟩
  rw [← hW5] at H5 HS5
  have s5 := hW5.symm
  have d13 : W5.cell? ⟨N, 13, none⟩ = some (.int .i64 0) := by rw [cell_in H5]; rfl
  have e13 : W5.frozen? ⟨N, 13, none⟩ = false := frozen_of_row H5 13
  have H6 := row_set9 H5 13 (.int .i64 (wrap64 (x12 : Int)))
  have HS6 := Lib.hid (StS.set9 HS5.out N 13 (.int .i64 (wrap64 (x12 : Int))) hlt)
  obtain ⟨W6, hW6⟩ : ∃ W, W = W5.setCell ⟨N, 13, none⟩ (.int .i64 (wrap64 (x12 : Int))) := ⟨_, rfl⟩
  rw [← hW6] at H6 HS6
  have s6 := hW6.symm
  have d11 : W6.cell? ⟨N, 11, none⟩ = some (.string ⟨#[]⟩) := by rw [cell_in H6]; rfl
  have e11 : W6.frozen? ⟨N, 11, none⟩ = false := frozen_of_row H6 11
  have H7 := row_set9 H6 11 (.string (B.extract 53 B.size))
  have HS7 := Lib.hid (StS.set9 HS6.out N 11 (.string (B.extract 53 B.size)) hlt)
  obtain ⟨W7, hW7⟩ : ∃ W, W = W6.setCell ⟨N, 11, none⟩ (.string (B.extract 53 B.size)) := ⟨_, rfl⟩
  rw [← hW7] at H7 HS7
  have s7 := hW7.symm
  clear hW1 hW2 hW3 hW4 hW5 hW6 hW7
  have HO : Hid (W7.heap[N]? = some (.cells (cellsS ps) 32 (0, 0))) := Lib.hid (by rw [HPS.out]; exact H7)
  clear H0 H1 H2 H3 H4 H5 H6 H7 HS0 HS1 HS2 HS3 HS4 HS5 HS6 HPS
  have HIp := Lib.hid (sizeSr ps)
  have HEp := Lib.hid (cellsS_one ps)
  have hb9 : (53 : Int) ≤ (B.size : Int) := h3'
  have hb1 : (30 : Int) ≤ (B.size : Int) := by omega
  have hb2 : (32 : Int) ≤ (B.size : Int) := by omega
  have hb3 : (34 : Int) ≤ (B.size : Int) := by omega
  have hb4 : (36 : Int) ≤ (B.size : Int) := by omega
  have hb5 : (44 : Int) ≤ (B.size : Int) := by omega
  have hb6 : (52 : Int) ≤ (B.size : Int) := by omega
  clear h3'
  go_wp2_with (first
    | (go_at_call 32; ((with_reducible refine (V7.out _).mono ?_); rintro _ _ ⟨rfl, rfl⟩))
    | (go_at_call 32; ((with_reducible refine (V8.out _).mono ?_); rintro _ _ ⟨rfl, rfl⟩))
    | (go_at_call 32; ((with_reducible refine (V9.out _).mono ?_); rintro _ _ ⟨rfl, rfl⟩))
    | (go_at_call 32; ((with_reducible refine (V10.out _).mono ?_); rintro _ _ ⟨rfl, rfl⟩))
    | (go_at_call 32; ((with_reducible refine (V11.out _).mono ?_); rintro _ _ ⟨rfl, rfl⟩))
    | (go_at_call 32; ((with_reducible refine (V12.out _).mono ?_); rintro _ _ ⟨rfl, rfl⟩))
    | (refine wpList_load_want (by rfl) 32 (.tmp 7) rfl N rfl 32 (cellsS ps) (0, 0) _ HO.out Tryd.underlying32 rfl HIp.out ?_))
  refine (HG.out _).mono ?_
  rintro e w5 ⟨rfl, hb5⟩
  have HSa := Lib.hid (HS7.out.later hb5)
  have HOa := Lib.hid ((hb5.block N (Array.getElem?_eq_some_iff.1 HO.out).1).trans HO.out)
  clear hb5 HS7 HO HG
  cases g with
  | false =>
    have HRX := Lib.hid (HRw.out rfl)
    go_wp2_with (refine wpList_store_row rfl 32 (.tmp 4) (.tmp 96) rfl w.heap.size (cellsS zeroS) rfl rfl 32 (cellsS zeroS) HSa.out.own HI.out rfl HE.out ?_)
    refine bodyPost_ret (results_row1 (P := Tryd.prog) rfl _ _ w.heap.size 32 (cellsS zeroS) (0, 0) _ rfl (setRow_at HSa.out.own) Tryd.underlying32 rfl HI.out) rfl ⟨by rw [HRX.out]; rfl, below_setRow HSa.out.below _ _ (Nat.le_refl _)⟩
  | true =>
    have HB := Lib.hid (HBy.out rfl)
    have hxx := HXX.out rfl
    clear HBy HXX HRw
    cases ok with
    | false =>
      have HRX := Lib.hid (HRo.out rfl)
      go_wp2_with (refine wpList_load_want (by rfl) 32 (.tmp 7) rfl N rfl 32 (cellsS ps) (0, 0) _ HOa.out Tryd.underlying32 rfl HIp.out ?_)
      refine (HB.out _).mono ?_
      rintro e w6 ⟨rfl, hb6⟩
      have HSb := Lib.hid (HSa.out.later hb6)
      go_wp2_with (refine wpList_store_row rfl 32 (.tmp 4) (.tmp 96) rfl w.heap.size (cellsS zeroS) rfl rfl 32 (cellsS zeroS) HSb.out.own HI.out rfl HE.out ?_)
      refine bodyPost_ret (results_row1 (P := Tryd.prog) rfl _ _ w.heap.size 32 (cellsS zeroS) (0, 0) _ rfl (setRow_at HSb.out.own) Tryd.underlying32 rfl HI.out) rfl ⟨by rw [HRX.out]; rfl, below_setRow HSb.out.below _ _ (Nat.le_refl _)⟩
    | true =>
      have HRX := Lib.hid (HRg.out rfl)
      go_wp2_with (refine wpList_load_want (by rfl) 32 (.tmp 7) rfl N rfl 32 (cellsS ps) (0, 0) _ HOa.out Tryd.underlying32 rfl HIp.out ?_)
      refine (HB.out _).mono ?_
      rintro e w6 ⟨rfl, hb6⟩
      have HSb := Lib.hid (HSa.out.later hb6)
      have HOb := Lib.hid ((hb6.block N (Array.getElem?_eq_some_iff.1 HOa.out).1).trans HOa.out)
      go_wp2_with (first
        | (refine wpList_load_want (by rfl) 32 (.tmp 7) rfl N rfl 32 (cellsS ps) (0, 0) _ HOb.out Tryd.underlying32 rfl HIp.out ?_)
        | (refine wpList_store_row rfl 32 (.tmp 4) (.tmp 97) rfl w.heap.size (cellsS ps) rfl rfl 32 (cellsS zeroS) HSb.out.own HIp.out rfl HEp.out ?_))
      refine bodyPost_ret (results_row1 (P := Tryd.prog) rfl _ _ w.heap.size 32 (cellsS ps) (0, 0) _ rfl (setRow_at HSb.out.own) Tryd.underlying32 rfl HIp.out) rfl ⟨by rw [HRX.out]; rfl, below_setRow HSb.out.below _ _ (Nat.le_refl _)⟩

/-- The document's Read, whatever comes. -/
theorem rread_any9 (key c : ByteArray) (hk : key.size ≤ 900000) (hc : c.size ≤ 900000) (w : World) :
    Calls Tryd.prog 15 #[.string key, .string c] w fun e w' => e = .returned (.tuple #[.agg (cellsS (readK key c).1), .int .i64 ((readK key c).2 : Nat)]) ∧ Below w.heap.size w w' := by
  by_cases h : c.size < 32
  · exact rread_short key c hk hc h w
  cases h2 : sameB (hmacOf key (behindB c)) (c.extract 0 32) with
  | false => exact rread_sum key c hk hc (by omega) h2 (by unfold readK; rw [if_neg h, if_neg (by simp [h2])]) w
  | true =>
    by_cases h3 : (behindB c).size < 53
    · exact rread_less key c hk hc (by omega) h2 h3 (by
        have ho : okS (behindB c) = false := by unfold okS; rw [decide_eq_false (by omega)]; rfl
        unfold readK
        rw [if_neg h, if_pos h2, if_neg (by simp [ho])]) w
    · exact rread_rest key c hk hc (by omega) h2 (by omega) w

end Go.Proofs.YthfiebdpoleeeaaDoor
