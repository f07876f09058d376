/-
  The document's answer to layer 9: Build and Read: contracts.
-/
import Derived.Test.YthfiebdpoleeeaaDoorRh9
import Derived.Test.YthfiebdpoleeeaaDoorAr9
import Derived.Test.YthfiebdpoleeeaaDoorHmac
namespace Go.Proofs.YthfiebdpoleeeaaDoor
open Go.RowKit
set_option linter.unusedVariables false
set_option linter.unusedSimpArgs false

set_option maxHeartbeats 2000000 in
set_option maxRecDepth 100000 in
theorem rbuild_any9 (key : ByteArray) (s : St) (hw : WfS s) (hk : key.size ≤ 900000) (w : World) :
    Calls Tryd.prog 12 #[.string key, .agg (cellsS s)] w fun e w' => e = .returned (.tuple #[.string (buildK key s).1, .int .i64 ((buildK key s).2 : Nat)]) ∧ Below w.heap.size w w' := by
  have CR := Lib.hid (fun W => rright_any9 s W)
  have HS := Lib.hid (StS.new 32 s w)
  have HI := Lib.hid (sizeSr s)
  by_cases hr : rightS s = true
  · rw [buildK_right key hr]
    have hp := (right_of hr).peer
    have hts := textS_size s
    have CT := Lib.hid (fun W => rbytes_any9 s hw (right_of hr) W)
    have CS := Lib.hid (fun W => rhmac_any key (textS s) hk (by omega) W)
    have hz := hmacOf_size key (textS s)
    have HCB := Lib.hid (show cookieB key s = hmacOf key (textS s) ++ textS s from rfl)
    rw [hr] at CR
    generalize cookieB key s = r at *
    generalize hmacOf key (textS s) = d at *
    generalize textS s = t at *
    have q1 : ¬ 9223372036854775807 < d.size + t.size := by omega
    clear hr hw hk
    go_enter Tryd.func12, Tryd.ntmps12
    go_wp2_with (first
      | (refine wpList_load_row rfl 32 (.tmp 3) rfl w.heap.size rfl 32 (cellsS s) (0, 0) _ HS.out.own Tryd.underlying32 rfl HI.out ?_)
      | (go_at_call 18; ((with_reducible refine (CR.out _).mono ?_); rintro e w1 ⟨rfl, hb1⟩); replace HS := Lib.hid (HS.out.later hb1); clear hb1)
      | (go_at_call 29; ((with_reducible refine (CT.out _).mono ?_); rintro e w2 ⟨rfl, hb1⟩); replace HS := Lib.hid (HS.out.later hb1); clear hb1)
      | (go_at_call 16; ((with_reducible refine (CS.out _).mono ?_); rintro e w3 ⟨rfl, hb1⟩); replace HS := Lib.hid (HS.out.later hb1); clear hb1))
    go_ret2
    exact ⟨by rw [HCB.out]; rfl, HS.out.below⟩
  · rw [buildK_wrong key (by simpa using hr)]
    rw [show rightS s = false by simpa using hr] at CR
    clear hr hw hk
    go_enter Tryd.func12, Tryd.ntmps12
    go_wp2_with (first
      | (refine wpList_load_row rfl 32 (.tmp 3) rfl w.heap.size rfl 32 (cellsS s) (0, 0) _ HS.out.own Tryd.underlying32 rfl HI.out ?_)
      | (go_at_call 18; ((with_reducible refine (CR.out _).mono ?_); rintro e w1 ⟨rfl, hb1⟩); replace HS := Lib.hid (HS.out.later hb1); clear hb1))
    go_ret2
    exact ⟨rfl, HS.out.below⟩
theorem cut_at (B : ByteArray) (i k : Nat) : valN (B.extract i (i + k)).data.toList = at9 B.data.toList i k := by
  unfold at9 cutL
  rw [extract_list, show i + k - i = k by omega]
theorem rcut_any (B : ByteArray) (i j k x : Nat) (hj : j = i + k) (hx : x = at9 B.data.toList i k) (hk : k ≤ 4) (W : World) : Calls Tryd.prog 32 #[.string (B.extract i j)] W fun e w' => e = .returned (.int .i64 (x : Int)) ∧ w' = W := by
  subst hj hx
  refine (rvalue_any (B.extract i (i + k)) (by rw [ByteArray.size_extract]; omega) W).mono ?_
  rintro e w' ⟨he, hw⟩
  refine ⟨he.trans ?_, hw⟩
  rw [cut_at]
  have h := at9_lt B.data.toList i k
  have h2 : 256 ^ k ≤ 256 ^ 4 := Nat.pow_le_pow_right (by decide) hk
  have h3 : (256 : Nat) ^ 4 = 4294967296 := by decide
  have e2 : wrap64 ((at9 B.data.toList i k : Nat) : Int) = ((at9 B.data.toList i k : Nat) : Int) := by unfold wrap64; omega
  rw [e2]
theorem rcut8_any (B : ByteArray) (i j x : Nat) (hj : j = i + 8) (hx : x = at9 B.data.toList i 8) (W : World) : Calls Tryd.prog 32 #[.string (B.extract i j)] W fun e w' => e = .returned (.int .i64 (wrap64 (x : Int))) ∧ w' = W := by
  subst hj hx
  refine (rvalue_any (B.extract i (i + 8)) (by rw [ByteArray.size_extract]; omega) W).mono ?_
  rintro e w' ⟨he, hw⟩
  exact ⟨he.trans (by rw [cut_at]), hw⟩

set_option maxHeartbeats 16000000 in
set_option maxRecDepth 100000 in
theorem rread_short (key c : ByteArray) (hk : key.size ≤ 900000) (hc : c.size ≤ 900000) (h : c.size < 32) (w : World) :
    Calls Tryd.prog 15 #[.string key, .string c] w fun e w' => e = .returned (.tuple #[.agg (cellsS (readK key c).1), .int .i64 ((readK key c).2 : Nat)]) ∧ Below w.heap.size w w' := by
  have HI := Lib.hid (sizeSr zeroS)
  have HE := Lib.hid (cellsS_one zeroS)
  have HS : Hid (StS 32 w.heap.size zeroS w (w.alloc (.cells #[.int .u32 0, .int .u32 0, .int .u32 0, .int .u32 0, .int .u32 0, .int .u32 0, .int .u32 0, .int .u16 0, .int .u16 0, .int .u16 0, .int .u16 0, .string ⟨#[]⟩, .int .i64 0, .int .i64 0] 32))) := Lib.hid (StS.new 32 zeroS w)
  rw [readK_short key h]
  have h1' : (c.size : Int) < 32 := by omega
  clear h hk hc
  go_enter Tryd.func15, Tryd.ntmps15
  go_wp2_with fail
  refine bodyPost_ret (results_row1 (P := Tryd.prog) rfl _ _ w.heap.size 32 (cellsS zeroS) (0, 0) _ rfl HS.out.own Tryd.underlying32 rfl HI.out) rfl ⟨rfl, HS.out.below⟩

set_option maxHeartbeats 16000000 in
set_option maxRecDepth 100000 in
theorem rread_sum (key c : ByteArray) (hk : key.size ≤ 900000) (hc : c.size ≤ 900000) (h1 : 32 ≤ c.size) (h2 : sameB (hmacOf key (behindB c)) (c.extract 0 32) = false) (hr : readK key c = (zeroS, 5)) (w : World) :
    Calls Tryd.prog 15 #[.string key, .string c] w fun e w' => e = .returned (.tuple #[.agg (cellsS (readK key c).1), .int .i64 ((readK key c).2 : Nat)]) ∧ Below w.heap.size w w' := by
  have HI := Lib.hid (sizeSr zeroS)
  have HE := Lib.hid (cellsS_one zeroS)
  have HS : Hid (StS 32 w.heap.size zeroS w (w.alloc (.cells #[.int .u32 0, .int .u32 0, .int .u32 0, .int .u32 0, .int .u32 0, .int .u32 0, .int .u32 0, .int .u16 0, .int .u16 0, .int .u16 0, .int .u16 0, .string ⟨#[]⟩, .int .i64 0, .int .i64 0] 32))) := Lib.hid (StS.new 32 zeroS w)
  rw [hr]
  clear hr
  have h1' : (32 : Int) ≤ (c.size : Int) := by omega
  have hb0 := behindB_size c
  have HC := Lib.hid (fun W => rhmac_any key (behindB c) hk (by omega) W)
  have heq := eqB_same (hmacOf key (behindB c)) (c.extract 0 32)
  rw [h2] at heq
  unfold behindB at HC heq hb0 h2
  generalize hmacOf key (c.extract 32 c.size) = d at *
  clear hk hc h2
  go_enter Tryd.func15, Tryd.ntmps15
  go_wp2_with fail
  refine wp_region_noPanic ?_
  refine wp_region_held_drew (S := fun _ => True) (by kernel_rfl) ?_ (fun hHeld => ?_)
  · trivial
  refine k9 0 ?_ (y := ?_) (h := ?_)
  rotate_left 1
  · (intro w' hSw; (try dsimp only at hSw); go_simp; try with_reducible rfl)
  try simp only [Act.put, List.setIfInBounds_toArray, List.set_cons_zero, List.set_cons_succ]
  refine k9 1 ?_ (y := ?_) (h := ?_)
  rotate_left 1
  · (intro w' hSw; (try dsimp only at hSw); go_simp; try with_reducible rfl)
  try simp only [Act.put, List.setIfInBounds_toArray, List.set_cons_zero, List.set_cons_succ]
  refine k9 3 ?_ (y := ?_) (h := ?_)
  rotate_left 1
  · (intro w' hSw; (try dsimp only at hSw); go_simp; try with_reducible rfl)
  try simp only [Act.put, List.setIfInBounds_toArray, List.set_cons_zero, List.set_cons_succ]
  refine k9 4 ?_ (y := ?_) (h := ?_)
  rotate_left 1
  · (intro w' hSw; (try dsimp only at hSw); go_simp; try with_reducible rfl)
  try simp only [Act.put, List.setIfInBounds_toArray, List.set_cons_zero, List.set_cons_succ]
  refine wpAnyH_ready (rs := [2]) (by kernel_rfl) (by simp) ?_
  refine AllReadyH.cons (by simp only [q9a, q9s, q9z]; rfl) (fun K hK => ?_) AllReadyH.nil
  go_simp
  refine (HC.out _).mono ?_
  rintro _ w2 ⟨rfl, hb⟩
  have HS2 := Lib.hid (HS.out.drew.later hb)
  clear hb HS HC
  refine hK.out _ _ ?_ (fun hHeld => ?_)
  · trivial
  clear hK K
  try simp only [Act.put, List.setIfInBounds_toArray, List.set_cons_zero, List.set_cons_succ]
  refine k9 5 ?_ (y := ?_) (h := ?_)
  rotate_left 1
  · (intro w' hSw; (try dsimp only at hSw); go_simp; try with_reducible rfl)
  try simp only [Act.put, List.setIfInBounds_toArray, List.set_cons_zero, List.set_cons_succ]
  refine wpAnyH_done (by kernel_rfl) ?_ _
  refine NoPanic.normal ?_
  clear hHeld
  go_wp2_with (refine wpList_store_row rfl 32 (.tmp 4) (.tmp 21) rfl w.heap.size (cellsS zeroS) rfl rfl 32 (cellsS zeroS) HS2.out.own HI.out rfl HE.out ?_)
  refine bodyPost_ret (results_row1 (P := Tryd.prog) rfl _ _ w.heap.size 32 (cellsS zeroS) (0, 0) _ rfl (setRow_at HS2.out.own) Tryd.underlying32 rfl HI.out) rfl ⟨rfl, below_setRow HS2.out.below _ _ (Nat.le_refl _)⟩

set_option maxHeartbeats 16000000 in
set_option maxRecDepth 100000 in
theorem rread_less (key c : ByteArray) (hk : key.size ≤ 900000) (hc : c.size ≤ 900000) (h1 : 32 ≤ c.size) (h2 : sameB (hmacOf key (behindB c)) (c.extract 0 32) = true) (h3 : (behindB c).size < 53) (hr : readK key c = (zeroS, 2)) (w : World) :
    Calls Tryd.prog 15 #[.string key, .string c] w fun e w' => e = .returned (.tuple #[.agg (cellsS (readK key c).1), .int .i64 ((readK key c).2 : Nat)]) ∧ Below w.heap.size w w' := by
  have HI := Lib.hid (sizeSr zeroS)
  have HE := Lib.hid (cellsS_one zeroS)
  have HS : Hid (StS 32 w.heap.size zeroS w (w.alloc (.cells #[.int .u32 0, .int .u32 0, .int .u32 0, .int .u32 0, .int .u32 0, .int .u32 0, .int .u32 0, .int .u16 0, .int .u16 0, .int .u16 0, .int .u16 0, .string ⟨#[]⟩, .int .i64 0, .int .i64 0] 32))) := Lib.hid (StS.new 32 zeroS w)
  rw [hr]
  have h3' : ((c.extract 32 c.size).size : Int) < 53 := by unfold behindB at h3; omega
  clear hr h3
  have h1' : (32 : Int) ≤ (c.size : Int) := by omega
  have hb0 := behindB_size c
  have HC := Lib.hid (fun W => rhmac_any key (behindB c) hk (by omega) W)
  have heq := eqB_same (hmacOf key (behindB c)) (c.extract 0 32)
  rw [h2] at heq
  unfold behindB at HC heq hb0 h2
  generalize hmacOf key (c.extract 32 c.size) = d at *
  clear hk hc h2
  go_enter Tryd.func15, Tryd.ntmps15
  go_wp2_with fail
  refine wp_region_noPanic ?_
  refine wp_region_held_drew (S := fun _ => True) (by kernel_rfl) ?_ (fun hHeld => ?_)
  · trivial
  refine k9 0 ?_ (y := ?_) (h := ?_)
  rotate_left 1
  · (intro w' hSw; (try dsimp only at hSw); go_simp; try with_reducible rfl)
  try simp only [Act.put, List.setIfInBounds_toArray, List.set_cons_zero, List.set_cons_succ]
  refine k9 1 ?_ (y := ?_) (h := ?_)
  rotate_left 1
  · (intro w' hSw; (try dsimp only at hSw); go_simp; try with_reducible rfl)
  try simp only [Act.put, List.setIfInBounds_toArray, List.set_cons_zero, List.set_cons_succ]
  refine k9 3 ?_ (y := ?_) (h := ?_)
  rotate_left 1
  · (intro w' hSw; (try dsimp only at hSw); go_simp; try with_reducible rfl)
  try simp only [Act.put, List.setIfInBounds_toArray, List.set_cons_zero, List.set_cons_succ]
  refine k9 4 ?_ (y := ?_) (h := ?_)
  rotate_left 1
  · (intro w' hSw; (try dsimp only at hSw); go_simp; try with_reducible rfl)
  try simp only [Act.put, List.setIfInBounds_toArray, List.set_cons_zero, List.set_cons_succ]
  refine wpAnyH_ready (rs := [2]) (by kernel_rfl) (by simp) ?_
  refine AllReadyH.cons (by simp only [q9a, q9s, q9z]; rfl) (fun K hK => ?_) AllReadyH.nil
  go_simp
  refine (HC.out _).mono ?_
  rintro _ w2 ⟨rfl, hb⟩
  have HS2 := Lib.hid (HS.out.drew.later hb)
  clear hb HS HC
  refine hK.out _ _ ?_ (fun hHeld => ?_)
  · trivial
  clear hK K
  try simp only [Act.put, List.setIfInBounds_toArray, List.set_cons_zero, List.set_cons_succ]
  refine k9 5 ?_ (y := ?_) (h := ?_)
  rotate_left 1
  · (intro w' hSw; (try dsimp only at hSw); go_simp; try with_reducible rfl)
  try simp only [Act.put, List.setIfInBounds_toArray, List.set_cons_zero, List.set_cons_succ]
  refine wpAnyH_done (by kernel_rfl) ?_ _
  refine NoPanic.normal ?_
  clear hHeld
  go_wp2_with (refine wpList_store_row rfl 32 (.tmp 4) (.tmp 25) rfl w.heap.size (cellsS zeroS) rfl rfl 32 (cellsS zeroS) HS2.out.own HI.out rfl HE.out ?_)
  refine bodyPost_ret (results_row1 (P := Tryd.prog) rfl _ _ w.heap.size 32 (cellsS zeroS) (0, 0) _ rfl (setRow_at HS2.out.own) Tryd.underlying32 rfl HI.out) rfl ⟨rfl, below_setRow HS2.out.below _ _ (Nat.le_refl _)⟩

end Go.Proofs.YthfiebdpoleeeaaDoor
