/-
  Chapter 9's examples; small functions of the laws: contracts.
-/
import Derived.Test.YthfiebdpoleeeaaDoorEq9
import Derived.Test.YthfiebdpoleeeaaDoorLift
namespace Go.Proofs.YthfiebdpoleeeaaDoor
open Go.RowKit
set_option linter.unusedVariables false
set_option linter.unusedSimpArgs false

def plainS : St := ⟨1, 2, 0, 0, 0, 0, 0, 3, 4, 5, 6, ⟨#[97, 98, 99, 100]⟩, 100, 50⟩
theorem plain_wf : WfS plainS := by constructor <;> decide
theorem plain_right : rightS plainS = true := by decide
set_option maxRecDepth 100000 in
theorem plain_any (w : World) : Calls Tryd.prog 26 #[] w fun e w' => e = .returned (.agg (cellsS plainS)) ∧ Below w.heap.size w w' := by
  have HI := Lib.hid (sizeS plainS)
  have HE := Lib.hid (cellsS_one plainS)
  have HSA : Hid ((w.alloc (.cells #[.int .u32 0, .int .u32 0, .int .u32 0, .int .u32 0, .int .u32 0, .int .u32 0, .int .u32 0, .int .u16 0, .int .u16 0, .int .u16 0, .int .u16 0, .string ⟨#[]⟩, .int .i64 0, .int .i64 0] 25)).setRow w.heap.size (cellsS plainS) = w.alloc (.cells (cellsS plainS) 25)) := Lib.hid (World.setRow_alloc_new _ _ _ _)
  go_enter Tryd.func26, Tryd.ntmps26
  go_wp2_with (refine wpList_store_row rfl 25 (.tmp 0) (.tmp 1) rfl w.heap.size (cellsS plainS) rfl rfl 25 #[.int .u32 0, .int .u32 0, .int .u32 0, .int .u32 0, .int .u32 0, .int .u32 0, .int .u32 0, .int .u16 0, .int .u16 0, .int .u16 0, .int .u16 0, .string ⟨#[]⟩, .int .i64 0, .int .i64 0] (heap_alloc_new _ _) HI.out rfl HE.out ?_; rw [HSA.out])
  refine bodyPost_ret (results_cell_row (P := Tryd.prog) rfl _ _ w.heap.size 25 (cellsS plainS) (0, 0) _ rfl (heap_alloc_new w _) Tryd.underlying25 rfl HI.out) rfl ⟨rfl, (Below.refl _ _).alloc (Nat.le_refl _) _⟩
def shortB (s : St) : Bool := decide ((s.peer.size : Int) ≤ 300)
theorem short_any (s : St) (w : World) : Calls Tryd.prog 10 #[.agg (cellsS s)] w fun e w' => e = .returned (.bool (shortB s)) ∧ Below w.heap.size w w' := by
  have HB := Lib.hid (show shortB s = decide ((s.peer.size : Int) ≤ 300) from rfl)
  generalize shortB s = r at *
  obtain ⟨a0, a1, a2, a3, a4, a5, a6, b0, b1, b2, b3, peer, made, life⟩ := s
  dsimp only [cellsS] at *
  go_enter Tryd.func10, Tryd.ntmps10
  go_wp2_with fail
  go_ret
  exact ⟨by rw [HB.out]; rfl, (Below.refl _ _).alloc (Nat.le_refl _) _⟩
def pickN (c : Int) (n : Nat) : Nat := (if c < 0 then (-(c + 1)) else c).toNat % n
theorem pick_any (c : Int) (hc : -9223372036854775808 ≤ c ∧ c ≤ 9223372036854775807) (n : Nat) (hn : 0 < n) (hm : n ≤ 1000000) (z : Int) (hz : z = (n : Int)) (w : World) :
    Calls Tryd.prog 19 #[.int .i64 c, .int .i64 z] w fun e w' => e = .returned (.int .i64 (pickN c n : Nat)) ∧ w' = w := by
  subst hz
  by_cases h : c < 0
  · obtain ⟨m, rfl⟩ : ∃ m : Nat, c = -((m : Int) + 1) := ⟨(-(c + 1)).toNat, by omega⟩
    have e : pickN (-((m : Int) + 1)) n = m % n := by
      unfold pickN
      rw [if_pos h]
      congr 1
      omega
    rw [e]
    have hw1 : wrap64 (-((m : Int) + 1) + 1) = -(m : Int) := by unfold wrap64; omega
    have hw2 : wrap64 (-(-(m : Int))) = (m : Int) := by unfold wrap64; omega
    have hw3 : IntKind.i64.wrap (-((m : Int) + 1) + 1) = -(m : Int) := by rw [wrap64_is]; exact hw1
    have hw4 : IntKind.i64.wrap (-(-(m : Int))) = (m : Int) := by rw [wrap64_is]; exact hw2
    have hn0 : ¬ (n : Int) = 0 := by omega
    have hr : Int.tmod (m : Int) (n : Int) = ((m % n : Nat) : Int) := rfl
    have hlt : m % n < n := Nat.mod_lt _ hn
    go_enter Tryd.func19, Tryd.ntmps19
    go_wp2_with fail
    go_ret
    exact ⟨rfl, rfl⟩
  · obtain ⟨m, rfl⟩ : ∃ m : Nat, c = (m : Int) := ⟨c.toNat, by omega⟩
    have e : pickN (m : Int) n = m % n := by
      unfold pickN
      rw [if_neg h, Int.toNat_natCast]
    rw [e]
    have hn0 : ¬ (n : Int) = 0 := by omega
    have hr : Int.tmod (m : Int) (n : Int) = ((m % n : Nat) : Int) := rfl
    have hlt : m % n < n := Nat.mod_lt _ hn
    go_enter Tryd.func19, Tryd.ntmps19
    go_wp2_with fail
    go_ret
    exact ⟨rfl, rfl⟩

set_option maxHeartbeats 4000000 in
set_option maxRecDepth 100000 in
theorem shown_any (w : World) (hK : Kub w) : Calls Tryd.prog 9 #[] w fun e w' => e = .returned (.bool true) ∧ Below w.heap.size w w' := by
  have HK := Lib.hid hK
  have HB := Lib.hid (Below.refl w.heap.size w)
  have HI := Lib.hid (sizeS zeroS)
  have HE := Lib.hid (cellsS_one zeroS)
  have HIp := Lib.hid (sizeS plainS)
  have HEp := Lib.hid (cellsS_one plainS)
  have b1 := fun W (h : Kub W) => build_any9 ⟨#[107, 101, 121]⟩ plainS plain_wf (by decide) W h
  rw [buildK_right _ plain_right] at b1
  have hsz : (cookieB ⟨#[107, 101, 121]⟩ plainS).size = 89 := by rw [cookie_size]; rfl
  have r1 := fun W (h : Kub W) => read_any9 ⟨#[107, 101, 121]⟩ ⟨#[120]⟩ (by decide) (by decide) W h
  rw [readK_short ⟨#[107, 101, 121]⟩ (c := ⟨#[120]⟩) (by decide)] at r1
  have r2 := fun W (h : Kub W) => read_any9 ⟨#[107, 101, 121]⟩ (cookieB ⟨#[107, 101, 121]⟩ plainS) (by decide) (by omega) W h
  rw [read_back plain_wf plain_right] at r2
  have r3 := fun (a : Nat) W (h : KyS W a zeroKy) => kread_none a zeroKy ⟨#[120]⟩ 0 rfl W h
  rw [ky_none ⟨#[120]⟩ 0 (k := zeroKy) rfl] at r3
  have HB1 := Lib.hid b1
  have HR1 := Lib.hid r1
  have HR2 := Lib.hid r2
  have HR3 := Lib.hid r3
  generalize cookieB ⟨#[107, 101, 121]⟩ plainS = C at *
  have hsz' : (C.size : Int) = 89 := by omega
  have hQ := fun W => eql_same plainS W
  clear b1 r1 r2 r3 hK hsz
  go_enter Tryd.func9, Tryd.ntmps9
  go_wp2_with fail
  refine (plain_any _).mono ?_
  rintro e w1 ⟨rfl, hb1⟩
  replace HB := Lib.hid (HB.out.trans (hb1.mono HB.out.size))
  clear hb1
  go_wp2_with fail
  refine (HB1.out _ (HK.out.later HB.out)).mono ?_
  rintro e w2 ⟨rfl, hb1⟩
  replace HB := Lib.hid (HB.out.trans (hb1.mono HB.out.size))
  clear hb1
  go_wp2_with fail
  refine (HR1.out _ (HK.out.later HB.out)).mono ?_
  rintro e w3 ⟨rfl, hb1⟩
  replace HB := Lib.hid ((HB.out.trans (hb1.mono HB.out.size)))
  clear hb1
  have HB3 := Lib.hid (HB.out.alloc HB.out.size (.cells (cellsS zeroS) 25))
  have HB3k : Hid (Below w.heap.size w ((w3.alloc (.cells (cellsS zeroS) 25)).alloc (.cells #[.string ⟨#[]⟩, .bool false, .string ⟨#[]⟩, .bool false, .int .i64 0] 46))) := Lib.hid (HB3.out.alloc HB3.out.size _)
  have HY3 : Hid (KyS ((w3.alloc (.cells (cellsS zeroS) 25)).alloc (.cells #[.string ⟨#[]⟩, .bool false, .string ⟨#[]⟩, .bool false, .int .i64 0] 46)) (w3.heap.size + 1) zeroKy) := Lib.hid (by
    have := heap_alloc_new (w3.alloc (.cells (cellsS zeroS) 25)) (.cells #[.string ⟨#[]⟩, .bool false, .string ⟨#[]⟩, .bool false, .int .i64 0] 46)
    rw [World.size_alloc] at this
    exact this)
  go_wp2_with (refine wpList_store_row rfl 25 (.tmp 3) (.tmp 16) rfl w3.heap.size (cellsS zeroS) rfl rfl 25 #[.int .u32 0, .int .u32 0, .int .u32 0, .int .u32 0, .int .u32 0, .int .u32 0, .int .u32 0, .int .u16 0, .int .u16 0, .int .u16 0, .int .u16 0, .string ⟨#[]⟩, .int .i64 0, .int .i64 0] (heap_alloc_new _ _) HI.out rfl HE.out ?_; rw [World.setRow_alloc_new])
  refine (HR3.out _ _ HY3.out).mono ?_
  rintro e w4 ⟨rfl, hb1⟩
  replace HB := Lib.hid (HB3k.out.trans (hb1.mono HB3k.out.size))
  clear hb1 HB3 HB3k HY3
  have HB4 := Lib.hid (HB.out.alloc HB.out.size (.cells (cellsS zeroS) 25))
  go_wp2_with (refine wpList_store_row rfl 25 (.tmp 5) (.tmp 22) rfl w4.heap.size (cellsS zeroS) rfl rfl 25 #[.int .u32 0, .int .u32 0, .int .u32 0, .int .u32 0, .int .u32 0, .int .u32 0, .int .u32 0, .int .u16 0, .int .u16 0, .int .u16 0, .int .u16 0, .string ⟨#[]⟩, .int .i64 0, .int .i64 0] (heap_alloc_new _ _) HI.out rfl HE.out ?_; rw [World.setRow_alloc_new])
  refine (HR2.out _ (HK.out.later HB4.out)).mono ?_
  rintro e w5 ⟨rfl, hb1⟩
  replace HB := Lib.hid (HB4.out.trans (hb1.mono HB4.out.size))
  clear hb1 HB4
  have HB5 := Lib.hid (HB.out.alloc HB.out.size (.cells (cellsS plainS) 25))
  have HO := Lib.hid (heap_alloc_new w5 (.cells (cellsS plainS) 25))
  go_wp2_with (refine wpList_store_row rfl 25 (.tmp 7) (.tmp 27) rfl w5.heap.size (cellsS plainS) rfl rfl 25 #[.int .u32 0, .int .u32 0, .int .u32 0, .int .u32 0, .int .u32 0, .int .u32 0, .int .u32 0, .int .u16 0, .int .u16 0, .int .u16 0, .int .u16 0, .string ⟨#[]⟩, .int .i64 0, .int .i64 0] (heap_alloc_new _ _) HIp.out rfl HEp.out ?_; rw [World.setRow_alloc_new])
  refine wp_region_noPanic ?_
  refine wp_region_held_drew (S := fun W' => W'.heap[w5.heap.size]? = some (.cells (cellsS plainS) 25 (0, 0))) (by kernel_rfl) ?_ (fun hHeld => ?_)
  · exact HO.out
  refine k9 0 ?_ (y := ?_) (h := ?_)
  rotate_left 1
  · (intro w' hSw; (try dsimp only at hSw); go_simp; try with_reducible rfl)
  try simp only [Act.put, List.setIfInBounds_toArray, List.set_cons_zero, List.set_cons_succ]
  refine k9 1 ?_ (y := ?_) (h := ?_)
  rotate_left 1
  · (intro w' hSw; (try dsimp only at hSw); go_simp; try with_reducible rfl)
  try simp only [Act.put, List.setIfInBounds_toArray, List.set_cons_zero, List.set_cons_succ]
  refine k9 2 ?_ (y := ?_) (h := ?_)
  rotate_left 1
  · (intro w' hSw; (try dsimp only at hSw); go_simp; try with_reducible rfl)
  try simp only [Act.put, List.setIfInBounds_toArray, List.set_cons_zero, List.set_cons_succ]
  refine k9 3 ?_ (y := ?_) (h := ?_)
  rotate_left 1
  · (intro w' hSw; (try dsimp only at hSw); go_simp; try with_reducible rfl)
  try simp only [Act.put, List.setIfInBounds_toArray, List.set_cons_zero, List.set_cons_succ]
  refine k9 4 ?_ (y := ?_) (h := ?_)
  rotate_left 1
  · (intro w' hSw; (try dsimp only at hSw); go_simp; try with_reducible rfl)
  try simp only [Act.put, List.setIfInBounds_toArray, List.set_cons_zero, List.set_cons_succ]
  refine k9 5 ?_ (y := ?_) (h := ?_)
  rotate_left 1
  · (intro w' hSw; (try dsimp only at hSw); go_simp; try with_reducible rfl)
  try simp only [Act.put, List.setIfInBounds_toArray, List.set_cons_zero, List.set_cons_succ]
  refine k9 6 ?_ (y := ?_) (h := ?_)
  rotate_left 1
  · (intro w' hSw; (try dsimp only at hSw); go_simp; try with_reducible rfl)
  try simp only [Act.put, List.setIfInBounds_toArray, List.set_cons_zero, List.set_cons_succ]
  refine k9 7 ?_ (y := ?_) (h := ?_)
  rotate_left 1
  · (intro w' hSw; (try dsimp only at hSw); go_simp; try with_reducible rfl)
  try simp only [Act.put, List.setIfInBounds_toArray, List.set_cons_zero, List.set_cons_succ]
  refine k9 8 ?_ (y := ?_) (h := ?_)
  rotate_left 1
  · (intro w' hSw; (try dsimp only at hSw); go_simp; try with_reducible rfl)
  try simp only [Act.put, List.setIfInBounds_toArray, List.set_cons_zero, List.set_cons_succ]
  refine k9 9 ?_ (y := ?_) (h := ?_)
  rotate_left 1
  · (intro w' hSw; (try dsimp only at hSw); go_simp; try with_reducible rfl)
  try simp only [Act.put, List.setIfInBounds_toArray, List.set_cons_zero, List.set_cons_succ]
  refine k9 10 ?_ (y := ?_) (h := ?_)
  rotate_left 1
  · (intro w' hSw; (try dsimp only at hSw); go_simp; try with_reducible rfl)
  try simp only [Act.put, List.setIfInBounds_toArray, List.set_cons_zero, List.set_cons_succ]
  refine k9 11 ?_ (y := ?_) (h := ?_)
  rotate_left 1
  · (intro w' hSw; (try dsimp only at hSw); go_simp; try with_reducible rfl)
  try simp only [Act.put, List.setIfInBounds_toArray, List.set_cons_zero, List.set_cons_succ]
  refine k9 12 ?_ (y := ?_) (h := ?_)
  rotate_left 1
  · (intro w' hSw; (try dsimp only at hSw); go_simp; try with_reducible rfl)
  try simp only [Act.put, List.setIfInBounds_toArray, List.set_cons_zero, List.set_cons_succ]
  refine k9 13 ?_ (y := ?_) (h := ?_)
  rotate_left 1
  · (intro w' hSw; (try dsimp only at hSw); go_simp; try with_reducible rfl)
  try simp only [Act.put, List.setIfInBounds_toArray, List.set_cons_zero, List.set_cons_succ]
  refine k9 14 ?_ (y := ?_) (h := ?_)
  rotate_left 1
  · (intro w' hSw; (try dsimp only at hSw); go_simp; try with_reducible rfl)
  try simp only [Act.put, List.setIfInBounds_toArray, List.set_cons_zero, List.set_cons_succ]
  refine k9 15 ?_ (y := ?_) (h := ?_)
  rotate_left 1
  · (intro w' hSw; (try dsimp only at hSw); go_simp; try with_reducible rfl)
  try simp only [Act.put, List.setIfInBounds_toArray, List.set_cons_zero, List.set_cons_succ]
  refine k7 16 _ (y := yieldsIf_load_mid (by rfl) 25 (.tmp 7) rfl _ 0 (by rfl) _ _ (fun W h => range_of_row h) Tryd.underlying25 rfl HIp.out) (h := ?_)
  try simp only [Act.put, List.setIfInBounds_toArray, List.set_cons_zero, List.set_cons_succ]
  refine wpAnyH_ready (rs := [17]) (by kernel_rfl) (by simp) ?_
  refine AllReadyH.cons (by simp only [q9a, q9s, q9z]; rfl) (fun K hK => ?_) AllReadyH.nil
  go_simp
  refine (plain_any _).mono ?_
  rintro _ w6 ⟨rfl, hb6⟩
  have HO6 := Lib.hid ((hb6.block w5.heap.size (Array.getElem?_eq_some_iff.1 hHeld).1).trans hHeld)
  have HB6 := Lib.hid (HB5.out.drew.trans (hb6.mono HB5.out.size))
  refine hK.out _ _ ?_ (fun hHeld => ?_)
  · exact HO6.out
  clear hK K
  try simp only [Act.put, List.setIfInBounds_toArray, List.set_cons_zero, List.set_cons_succ]
  refine k9 18 ?_ (y := ?_) (h := ?_)
  rotate_left 1
  · (intro w' hSw; (try dsimp only at hSw); go_simp; try with_reducible rfl)
  try simp only [Act.put, List.setIfInBounds_toArray, List.set_cons_zero, List.set_cons_succ]
  refine k9 19 ?_ (y := ?_) (h := ?_)
  rotate_left 1
  · (intro w' hSw; (try dsimp only at hSw); go_simp; try with_reducible rfl)
  try simp only [Act.put, List.setIfInBounds_toArray, List.set_cons_zero, List.set_cons_succ]
  refine k9 20 ?_ (y := ?_) (h := ?_)
  rotate_left 1
  · (intro w' hSw; (try dsimp only at hSw); go_simp; try with_reducible rfl)
  try simp only [Act.put, List.setIfInBounds_toArray, List.set_cons_zero, List.set_cons_succ]
  refine k9 21 ?_ (y := ?_) (h := ?_)
  rotate_left 1
  · (intro w' hSw; (try dsimp only at hSw); go_simp; try with_reducible rfl)
  try simp only [Act.put, List.setIfInBounds_toArray, List.set_cons_zero, List.set_cons_succ]
  refine k9 22 ?_ (y := ?_) (h := ?_)
  rotate_left 1
  · (intro w' hSw; (try dsimp only at hSw); go_simp; try with_reducible rfl)
  try simp only [Act.put, List.setIfInBounds_toArray, List.set_cons_zero, List.set_cons_succ]
  refine k9 23 ?_ (y := ?_) (h := ?_)
  rotate_left 1
  · (intro w' hSw; (try dsimp only at hSw); go_simp; try with_reducible rfl)
  try simp only [Act.put, List.setIfInBounds_toArray, List.set_cons_zero, List.set_cons_succ]
  refine k9 24 ?_ (y := ?_) (h := ?_)
  rotate_left 1
  · (intro w' hSw; (try dsimp only at hSw); go_simp; try with_reducible rfl)
  try simp only [Act.put, List.setIfInBounds_toArray, List.set_cons_zero, List.set_cons_succ]
  refine wpAnyH_done (by kernel_rfl) ?_ _
  refine NoPanic.normal ?_
  clear hHeld
  go_wp2_with fail
  go_ret
  exact ⟨rfl, HB6.out⟩
end Go.Proofs.YthfiebdpoleeeaaDoor
