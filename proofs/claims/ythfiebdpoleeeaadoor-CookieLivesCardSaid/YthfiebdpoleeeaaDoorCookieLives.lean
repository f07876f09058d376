/-
  A cookie is read till it is stale, if its key was turned but once meanwhile, and its life is no more than 60000 milliseconds; it is stale after that, and ahead of the time at which it was made: any two texts as keys (of at most 300 bytes), any state (with a text of at most 300), any three numbers; others are not asked of.
-/
import Derived.Test.YthfiebdpoleeeaaDoorLift
import Derived.Test.YthfiebdpoleeeaaDoorSn9
import Derived.Test.YthfiebdpoleeeaaDoorLaid
import Derived.Test.YthfiebdpoleeeaaDoorCards
import Derived.Test.YthfiebdpoleeeaaDoorTie
import Derived.SevenTiedAt
import Derived.Test.YthfiebdpoleeeaaDoorAr9
namespace Go.Proofs.YthfiebdpoleeeaaDoor.cookieLives
open Go.ChangeShapes Go.WideShapes Go.ChangeAt Go.RowKit
set_option linter.unusedVariables false

theorem StS.grown {T n0 : Nat} {s : St} {w W W' : World} {a : Nat} (h : StS T n0 s w W) (hg : W.grownBy W' (some a)) (ha : n0 < a) : StS T n0 s w W' :=
  ⟨(hg.block n0 h.lt (by simp; omega)).trans h.own, h.below.trans (below_of_grown hg h.below.size (by have := h.base; omega)), h.base⟩
/-- What is read of a cookie of its own key. -/
theorem lives_new {k : Ky} {s : St} {c : ByteArray} {p L : Nat} (hn : k.nt = true) (hc : readK k.nk c = (s, 0)) (hL : s.life = (L : Int)) :
    (L < p → readKy k c (s.made + (p : Int)) = (zeroS, 7)) ∧ (p ≤ L → readKy k c (s.made + (p : Int)) = (s, 0)) := by
  refine ⟨fun h => ?_, fun h => ?_⟩
  · rw [ky_stale (now := s.made + (p : Int)) hn (try_new (by rw [hc]; show (0 : Nat) ≠ 5; decide)) (by rw [hc]) (by rw [hc]; unfold staleB; exact decide_eq_true (by dsimp only; omega))]
  · rw [ky_good (now := s.made + (p : Int)) hn (try_new (by rw [hc]; show (0 : Nat) ≠ 5; decide)) (by rw [hc]) (by rw [hc]; unfold staleB; exact decide_eq_false (by dsimp only; omega)), hc]
/-- .. with the key turned once. -/
theorem lives_old {k : Ky} {s : St} {c : ByteArray} {p L q : Nat} (hn : k.nt = true) (hot : k.ot = true) (hs : k.since = s.made + (q : Int)) (hqp : q ≤ p) (hc : readK k.ok c = (s, 0)) (hd : readK k.nk c = (s, 0) ∨ readK k.nk c = (zeroS, 5)) (hL : s.life = (L : Int)) :
    (readKy k c (s.made + (p : Int)) = (zeroS, 5) ∧ 60000 < p - q) ∨ (L < p → readKy k c (s.made + (p : Int)) = (zeroS, 7)) ∧ (p ≤ L → readKy k c (s.made + (p : Int)) = (s, 0)) := by
  rcases hd with hd | hd
  · exact .inr (lives_new hn hd hL)
  · by_cases hst : p - q ≤ 60000
    · have e : stillB k (s.made + (p : Int)) = true := by unfold stillB; rw [hot, hs]; exact decide_eq_true (by omega)
      refine .inr ⟨fun h => ?_, fun h => ?_⟩
      · rw [ky_stale (now := s.made + (p : Int)) hn (try_old (by rw [hd]) e) (by rw [hc]) (by rw [hc]; unfold staleB; exact decide_eq_true (by dsimp only; omega))]
      · rw [ky_good (now := s.made + (p : Int)) hn (try_old (by rw [hd]) e) (by rw [hc]) (by rw [hc]; unfold staleB; exact decide_eq_false (by dsimp only; omega)), hc]
    · have e : stillB k (s.made + (p : Int)) = false := by unfold stillB; rw [hot, hs, Bool.true_and]; exact decide_eq_false (by omega)
      refine .inl ⟨?_, by omega⟩
      rw [ky_bad (now := s.made + (p : Int)) hn (try_no e) (by rw [hd]; show (5 : Nat) ≠ 0; decide), hd]
theorem lives_early {k : Ky} {s : St} {c : ByteArray} (hn : k.nt = true) (hc : readK k.nk c = (s, 0)) : readKy k c (s.made - 1) = (zeroS, 7) := by
  rw [ky_stale (now := s.made - 1) hn (try_new (by rw [hc]; show (0 : Nat) ≠ 5; decide)) (by rw [hc]) (by rw [hc]; unfold staleB; exact decide_eq_true (by dsimp only; omega))]
theorem neq_zero9 (W : World) : (binOp .neq 25 (.agg (cellsS zeroS)) (.agg #[.int .u32 0, .int .u32 0, .int .u32 0, .int .u32 0, .int .u32 0, .int .u32 0, .int .u32 0, .int .u16 0, .int .u16 0, .int .u16 0, .int .u16 0, .string ⟨#[]⟩, .int .i64 0, .int .i64 0])).run Tryd.prog W = .ok (.bool false) W := neq_same zeroS W
set_option maxHeartbeats 1000000 in
set_option maxRecDepth 100000 in
theorem main_kept_stale (key other : ByteArray) (s : St) (hs : InS s) (l u n : Int) (hl : -9223372036854775808 ≤ l ∧ l ≤ 9223372036854775807) (hu : -9223372036854775808 ≤ u ∧ u ≤ 9223372036854775807) (hn : -9223372036854775808 ≤ n ∧ n ≤ 9223372036854775807) (hk1 : key.size ≤ 300) (hk2 : other.size ≤ 300) (hp : (s.peer.size : Int) ≤ 300) (hsh : shortB s = true) (hr : rightS s = true) (hq : pickN n 61000 < pickN u 60001) (ho : pickN l 60001 < pickN n 61000) (hrd : readKy (turnKy zeroKy key 0) (cookieB key { s with life := (pickN l 60001 : Nat) }) (s.made + (pickN n 61000 : Nat)) = (zeroS, 7)) (w : World) (hK : Kub w) :
    Calls Tryd.prog 6 #[.string key, .string other, .agg (cellsS s), .int .i64 l, .int .i64 u, .int .i64 n] w fun e w' => e = .returned (.bool true) ∧ Below w.heap.size w w' := by
  have HS := Lib.hid (StS.new 25 s w)
  have HI := Lib.hid (sizeS s)
  have HE := Lib.hid (cellsS_one s)
  have HIz := Lib.hid (sizeS zeroS)
  have HEz := Lib.hid (cellsS_one zeroS)
  have HK := Lib.hid hK
  have HSH := Lib.hid (fun W => short_any s W)
  have HRG := Lib.hid (fun W => right_any9 s W)
  clear hK
  rw [hsh] at HSH
  rw [hr] at HRG
  have hR := right_of hr
  have hmade := hR.made
  have HPL := Lib.hid (fun W => pick_any l hl 60001 (by decide) (by decide) 60001 (by decide) W)
  have HPU := Lib.hid (fun W => pick_any u hu 60001 (by decide) (by decide) 60001 (by decide) W)
  have HPN := Lib.hid (fun W => pick_any n hn 61000 (by decide) (by decide) 61000 (by decide) W)
  have bL : pickN l 60001 < 60001 := Nat.mod_lt _ (by decide)
  have bU : pickN u 60001 < 60001 := Nat.mod_lt _ (by decide)
  have bN : pickN n 61000 < 61000 := Nat.mod_lt _ (by decide)
  generalize pickN l 60001 = L at *
  generalize pickN u 60001 = Q at *
  generalize pickN n 61000 = P at *
  have hwf : WfS { s with life := (L : Int) } := ⟨hs.wf.a0, hs.wf.a1, hs.wf.a2, hs.wf.a3, hs.wf.a4, hs.wf.a5, hs.wf.a6, hs.wf.b0, hs.wf.b1, hs.wf.b2, hs.wf.b3⟩
  have hr1 : rightS { s with life := (L : Int) } = true := right_mk ⟨hR.a0, hR.a1, hR.b0, hR.b1, hR.b2, hR.b3, hR.peer, hR.made, by dsimp only; omega⟩
  have HOWN : Hid (∀ W : World, W.heap[w.heap.size]? = some (.cells (cellsS s) 25 (0, 0)) → (W.setCell ⟨w.heap.size, 13, none⟩ (.int .i64 (L : Int))).heap[w.heap.size]? = some (.cells (cellsS { s with life := (L : Int) }) 25 (0, 0))) := Lib.hid fun W h => row_set9 h 13 _
  have hcs := cookie_size key { s with life := (L : Int) }
  obtain ⟨s1, hs1⟩ : ∃ s1 : St, s1 = { s with life := (L : Int) } := ⟨_, rfl⟩
  rw [← hs1] at hwf hr1 HOWN hcs hrd
  have hm1 : s1.made = s.made := by rw [hs1]
  have hl1 : s1.life = (L : Int) := by rw [hs1]
  have hp1 : s1.peer.size = s.peer.size := by rw [hs1]
  have hb := fun (a : Nat) W (h : Kub W) (hY : KyS W a (turnKy zeroKy key 0)) => kbuild_any a (turnKy zeroKy key 0) s1 hwf (by show key.size ≤ _; omega) W h hY
  have ebk : buildKy (turnKy zeroKy key 0) s1 = (cookieB key s1, 0) := (if_pos rfl).trans (buildK_right key hr1)
  rw [ebk] at hb
  have hread : readK (turnKy zeroKy key 0).nk (cookieB key s1) = (s1, 0) := read_back hwf hr1 key
  have hrd0 := fun (a : Nat) W (h : Kub W) (hY : KyS W a (turnKy zeroKy key 0)) => kread_any a (turnKy zeroKy key 0) (cookieB key s1) (s1.made - 1) (by show key.size ≤ _; omega) (by show (⟨#[]⟩ : ByteArray).size ≤ 900000; decide) (by omega) (.inr ⟨by unfold BoundN; omega, by show BoundN 0; unfold BoundN; omega⟩) W h hY
  rw [lives_early rfl hread] at hrd0
  have hrd1 := fun (a : Nat) W (h : Kub W) (hY : KyS W a (turnKy zeroKy key 0)) => kread_any a (turnKy zeroKy key 0) (cookieB key s1) (s.made + (P : Int)) (by show key.size ≤ _; omega) (by show (⟨#[]⟩ : ByteArray).size ≤ 900000; decide) (by omega) (.inr ⟨by unfold BoundN; omega, by show BoundN 0; unfold BoundN; omega⟩) W h hY
  rw [hrd] at hrd1
  have HT1 := Lib.hid (fun (a : Nat) W (hY : KyS W a zeroKy) => turn_any a zeroKy key (by omega) 0 W hY)
  skip
  have HB := Lib.hid hb
  have HR0 := Lib.hid hrd0
  have HR1 := Lib.hid hrd1
  rw [hm1] at HR0
  have HI1 := Lib.hid (sizeS s1)
  have HE1 := Lib.hid (cellsS_one s1)
  have HCM : Hid (∀ W, StS 25 w.heap.size s1 w W → W.cell? ⟨w.heap.size, 12, none⟩ = some (.int .i64 s.made)) := Lib.hid fun W h => by rw [cell_in h.own, ← hm1]; rfl
  have HCL : Hid (∀ W, StS 25 w.heap.size s1 w W → W.cell? ⟨w.heap.size, 13, none⟩ = some (.int .i64 (L : Int))) := Lib.hid fun W h => by rw [cell_in h.own, ← hl1]; rfl
  have HC13 : Hid (∀ W, StS 25 w.heap.size s w W → W.cell? ⟨w.heap.size, 13, none⟩ = some (.int .i64 s.life)) := Lib.hid fun W h => by rw [cell_in h.own]; rfl
  have k1' : decide ((300 : Int) < (key.size : Int)) = false := decide_eq_false (by omega)
  have k2' : decide ((300 : Int) < (other.size : Int)) = false := decide_eq_false (by omega)
  generalize cookieB key s1 = C at *
  have hz := fun W => neq_zero9 W
  have hq9 := fun W => eql_same s1 W
  clear hb hrd0 hrd1 hread ebk hwf hr1 hcs hrd hs1 hm1 hl1 hp1 hR hsh hr hs hl hu hn hp hk1 hk2
  generalize s.made = md at *
  have v1 : IntKind.i64.wrap (md + (Q : Int)) = md + (Q : Int) := by rw [IntKind.wrap_i64]; omega
  have v2 : IntKind.i64.wrap (md + (P : Int)) = md + (P : Int) := by rw [IntKind.wrap_i64]; omega
  have v3 : md + (P : Int) - md = (P : Int) := by omega
  have v4 : md + (P : Int) - (md + (Q : Int)) = (P : Int) - (Q : Int) := by omega
  have v5 : ¬ md + (Q : Int) ≤ md + (P : Int) := by omega
  have v6 : (L : Int) < (P : Int) := by omega
  go_enter Tryd.func6, Tryd.ntmps6
  go_wp2_with fail
  refine (shown_any _ (HK.out.later HS.out.below)).mono ?_
  rintro e w1 ⟨rfl, hb1⟩
  replace HS := Lib.hid (HS.out.later hb1)
  clear hb1
  go_wp2_with (refine wpList_load_want (by rfl) 25 (.tmp 8) rfl w.heap.size rfl 25 (cellsS s) (0, 0) _ HS.out.own Tryd.underlying25 rfl HI.out ?_)
  refine (HSH.out _).mono ?_
  rintro e w2 ⟨rfl, hb1⟩
  replace HS := Lib.hid (HS.out.later hb1)
  clear hb1
  go_wp2_with (refine wpList_load_want (by rfl) 25 (.tmp 8) rfl w.heap.size rfl 25 (cellsS s) (0, 0) _ HS.out.own Tryd.underlying25 rfl HI.out ?_)
  refine (HRG.out _).mono ?_
  rintro e w3 ⟨rfl, hb1⟩
  replace HS := Lib.hid (HS.out.later hb1)
  clear hb1
  have c13 := HC13.out w3 HS.out
  have f13 : w3.frozen? ⟨w.heap.size, 13, none⟩ = false := frozen_of_row HS.out.own 13
  go_wp2_with fail
  refine (HPL.out _).mono ?_
  rintro e w4 ⟨rfl, rfl⟩
  have HS4 : Hid (StS 25 w.heap.size s1 w (w4.setCell ⟨w.heap.size, 13, none⟩ (.int .i64 (L : Int)))) := Lib.hid ⟨HOWN.out _ HS.out.own, below_setCell9 HS.out.below _ _ _ (Nat.le_refl _), Nat.le_refl _⟩
  have hsz4 : (w4.setCell ⟨w.heap.size, 13, none⟩ (.int .i64 (L : Int))).heap.size = w4.heap.size := set_size _ _ _
  have hlt4 : w.heap.size < w4.heap.size := HS.out.lt
  have HS5 : Hid (StS 25 w.heap.size s1 w ((w4.setCell ⟨w.heap.size, 13, none⟩ (.int .i64 (L : Int))).alloc (.cells #[.string ⟨#[]⟩, .bool false, .string ⟨#[]⟩, .bool false, .int .i64 0] 46))) := Lib.hid (HS4.out.later ((Below.refl _ _).alloc (Nat.le_refl _) _))
  have HY5 : Hid (KyS ((w4.setCell ⟨w.heap.size, 13, none⟩ (.int .i64 (L : Int))).alloc (.cells #[.string ⟨#[]⟩, .bool false, .string ⟨#[]⟩, .bool false, .int .i64 0] 46)) w4.heap.size zeroKy) := Lib.hid (by
    have := heap_alloc_new (w4.setCell ⟨w.heap.size, 13, none⟩ (.int .i64 (L : Int))) (.cells #[.string ⟨#[]⟩, .bool false, .string ⟨#[]⟩, .bool false, .int .i64 0] 46)
    rw [hsz4] at this
    exact this)
  clear HS HS4
  go_wp2_with fail
  refine (HT1.out _ _ HY5.out).mono ?_
  rintro e w6 ⟨rfl, hY6, hg6⟩
  have HS6 := Lib.hid (StS.grown HS5.out hg6 hlt4)
  have HY6 := Lib.hid hY6
  clear hY6 hg6 HS5 HY5 c13 f13 hsz4
  generalize w4.heap.size = a at *
  go_wp2_with (refine wpList_load_want (by rfl) 25 (.tmp 8) rfl w.heap.size rfl 25 (cellsS s1) (0, 0) _ HS6.out.own Tryd.underlying25 rfl HI1.out ?_)
  refine (HB.out _ _ (HK.out.later HS6.out.below) HY6.out).mono ?_
  rintro e w7 ⟨rfl, hb7⟩
  have HS7 := Lib.hid (HS6.out.later hb7)
  have HY7 := Lib.hid (HY6.out.later hb7)
  clear hb7 HS6 HY6 HB
  go_wp2_with fail
  refine wp_region_noPanic ?_
  refine wp_region_held_drew (S := fun W' => W'.cell? ⟨w.heap.size, 12, none⟩ = some (.int .i64 md)) (by kernel_rfl) ?_ (fun hHeld => ?_)
  · exact HCM.out _ HS7.out.drew
  refine k9 0 ?_ (y := ?_) (h := ?_)
  rotate_left 1
  · (intro w' hSw; (try dsimp only at hSw); go_simp; try with_reducible rfl)
  try simp only [Act.put, List.setIfInBounds_toArray, List.set_cons_zero, List.set_cons_succ]
  refine k9 1 ?_ (y := ?_) (h := ?_)
  rotate_left 1
  · (intro w' hSw; (try dsimp only at hSw); go_simp; try with_reducible rfl)
  try simp only [Act.put, List.setIfInBounds_toArray, List.set_cons_zero, List.set_cons_succ]
  refine k9 2 ?_ (y := ?_) (h := ?_)
  rotate_left 1
  · (intro w' hSw; (try dsimp only at hSw); go_simp; try with_reducible rfl)
  try simp only [Act.put, List.setIfInBounds_toArray, List.set_cons_zero, List.set_cons_succ]
  refine wpAnyH_ready (rs := [3]) (by kernel_rfl) (by simp) ?_
  refine AllReadyH.cons (by simp only [q9a, q9s, q9z]; rfl) (fun K hK => ?_) AllReadyH.nil
  go_simp
  refine (HPU.out _).mono ?_
  rintro _ w8 ⟨rfl, rfl⟩
  have HSw8 := Lib.hid HS7.out.drew
  have HYw8 : Hid (KyS w7.drew a (turnKy zeroKy key 0)) := Lib.hid HY7.out
  refine hK.out _ _ ?_ (fun hHeld => ?_)
  · exact HCM.out _ HS7.out.drew
  clear hK K
  try simp only [Act.put, List.setIfInBounds_toArray, List.set_cons_zero, List.set_cons_succ]
  refine k9 4 ?_ (y := ?_) (h := ?_)
  rotate_left 1
  · (intro w' hSw; (try dsimp only at hSw); go_simp; try with_reducible rfl)
  try simp only [Act.put, List.setIfInBounds_toArray, List.set_cons_zero, List.set_cons_succ]
  refine k9 5 ?_ (y := ?_) (h := ?_)
  rotate_left 1
  · (intro w' hSw; (try dsimp only at hSw); go_simp; try with_reducible rfl)
  try simp only [Act.put, List.setIfInBounds_toArray, List.set_cons_zero, List.set_cons_succ]
  refine wpAnyH_done (by kernel_rfl) ?_ _
  refine NoPanic.normal ?_
  clear hHeld
  clear HS7 HY7
  have m8 := HCM.out _ HSw8.out
  go_wp2_with fail
  refine (HR0.out _ _ (HK.out.later HSw8.out.below) HYw8.out).mono ?_
  rintro e w9 ⟨rfl, hb9⟩
  have HS9 := Lib.hid ((HSw8.out.later hb9).later ((Below.refl _ _).alloc (Nat.le_refl _) (.cells (cellsS zeroS) 25)))
  have HY9 := Lib.hid ((HYw8.out.later hb9).later ((Below.refl _ _).alloc (Nat.le_refl _) (.cells (cellsS zeroS) 25)))
  have HO9 := Lib.hid (heap_alloc_new w9 (.cells (cellsS zeroS) 25))
  clear hb9 HSw8 HYw8 HR0 m8
  go_wp2_with (first
      | (refine wpList_store_row rfl 25 (.tmp 19) (.tmp 77) rfl w9.heap.size (cellsS zeroS) rfl rfl 25 #[.int .u32 0, .int .u32 0, .int .u32 0, .int .u32 0, .int .u32 0, .int .u32 0, .int .u32 0, .int .u16 0, .int .u16 0, .int .u16 0, .int .u16 0, .string ⟨#[]⟩, .int .i64 0, .int .i64 0] (heap_alloc_new _ _) HIz.out rfl HEz.out ?_; rw [World.setRow_alloc_new])
      | (refine wpList_load_want (by rfl) 25 (.tmp 19) rfl w9.heap.size rfl 25 (cellsS zeroS) (0, 0) _ HO9.out Tryd.underlying25 rfl HIz.out ?_))
  refine wp_region_noPanic ?_
  refine wp_region_held_drew (S := fun W' => W'.cell? ⟨w.heap.size, 12, none⟩ = some (.int .i64 md)) (by kernel_rfl) ?_ (fun hHeld => ?_)
  · exact HCM.out _ HS9.out.drew
  refine k9 0 ?_ (y := ?_) (h := ?_)
  rotate_left 1
  · (intro w' hSw; (try dsimp only at hSw); go_simp; try with_reducible rfl)
  try simp only [Act.put, List.setIfInBounds_toArray, List.set_cons_zero, List.set_cons_succ]
  refine k9 1 ?_ (y := ?_) (h := ?_)
  rotate_left 1
  · (intro w' hSw; (try dsimp only at hSw); go_simp; try with_reducible rfl)
  try simp only [Act.put, List.setIfInBounds_toArray, List.set_cons_zero, List.set_cons_succ]
  refine k9 2 ?_ (y := ?_) (h := ?_)
  rotate_left 1
  · (intro w' hSw; (try dsimp only at hSw); go_simp; try with_reducible rfl)
  try simp only [Act.put, List.setIfInBounds_toArray, List.set_cons_zero, List.set_cons_succ]
  refine wpAnyH_ready (rs := [3]) (by kernel_rfl) (by simp) ?_
  refine AllReadyH.cons (by simp only [q9a, q9s, q9z]; rfl) (fun K hK => ?_) AllReadyH.nil
  go_simp
  refine (HPN.out _).mono ?_
  rintro _ w10 ⟨rfl, rfl⟩
  have HSw10 := Lib.hid HS9.out.drew
  have HYw10 : Hid (KyS (w9.alloc (.cells (cellsS zeroS) 25)).drew a (turnKy zeroKy key 0)) := Lib.hid HY9.out
  refine hK.out _ _ ?_ (fun hHeld => ?_)
  · exact HCM.out _ HS9.out.drew
  clear hK K
  try simp only [Act.put, List.setIfInBounds_toArray, List.set_cons_zero, List.set_cons_succ]
  refine k9 4 ?_ (y := ?_) (h := ?_)
  rotate_left 1
  · (intro w' hSw; (try dsimp only at hSw); go_simp; try with_reducible rfl)
  try simp only [Act.put, List.setIfInBounds_toArray, List.set_cons_zero, List.set_cons_succ]
  refine k9 5 ?_ (y := ?_) (h := ?_)
  rotate_left 1
  · (intro w' hSw; (try dsimp only at hSw); go_simp; try with_reducible rfl)
  try simp only [Act.put, List.setIfInBounds_toArray, List.set_cons_zero, List.set_cons_succ]
  refine wpAnyH_done (by kernel_rfl) ?_ _
  refine NoPanic.normal ?_
  clear hHeld
  clear HS9 HY9 HO9
  go_wp2_with fail
  refine (HR1.out _ _ (HK.out.later HSw10.out.below) HYw10.out).mono ?_
  rintro e w12 ⟨rfl, hb12⟩
  have HS12 := Lib.hid ((HSw10.out.later hb12).later ((Below.refl _ _).alloc (Nat.le_refl _) (.cells (cellsS zeroS) 25)))
  have HO12 := Lib.hid (heap_alloc_new w12 (.cells (cellsS zeroS) 25))
  have m12 := HCM.out _ HS12.out
  have l12 := HCL.out _ HS12.out
  clear hb12 HSw10 HYw10 HR1
  go_wp2_with (refine wpList_store_row rfl 25 (.tmp 22) (.tmp 103) rfl w12.heap.size (cellsS zeroS) rfl rfl 25 #[.int .u32 0, .int .u32 0, .int .u32 0, .int .u32 0, .int .u32 0, .int .u32 0, .int .u32 0, .int .u16 0, .int .u16 0, .int .u16 0, .int .u16 0, .string ⟨#[]⟩, .int .i64 0, .int .i64 0] (heap_alloc_new _ _) HIz.out rfl HEz.out ?_; rw [World.setRow_alloc_new])
  go_ret
  exact ⟨rfl, HS12.out.below⟩
set_option maxHeartbeats 1000000 in
set_option maxRecDepth 100000 in
theorem main_kept_good (key other : ByteArray) (s : St) (hs : InS s) (l u n : Int) (hl : -9223372036854775808 ≤ l ∧ l ≤ 9223372036854775807) (hu : -9223372036854775808 ≤ u ∧ u ≤ 9223372036854775807) (hn : -9223372036854775808 ≤ n ∧ n ≤ 9223372036854775807) (hk1 : key.size ≤ 300) (hk2 : other.size ≤ 300) (hp : (s.peer.size : Int) ≤ 300) (hsh : shortB s = true) (hr : rightS s = true) (hq : pickN n 61000 < pickN u 60001) (ho : pickN n 61000 ≤ pickN l 60001) (hrd : readKy (turnKy zeroKy key 0) (cookieB key { s with life := (pickN l 60001 : Nat) }) (s.made + (pickN n 61000 : Nat)) = ({ s with life := (pickN l 60001 : Nat) }, 0)) (w : World) (hK : Kub w) :
    Calls Tryd.prog 6 #[.string key, .string other, .agg (cellsS s), .int .i64 l, .int .i64 u, .int .i64 n] w fun e w' => e = .returned (.bool true) ∧ Below w.heap.size w w' := by
  have HS := Lib.hid (StS.new 25 s w)
  have HI := Lib.hid (sizeS s)
  have HE := Lib.hid (cellsS_one s)
  have HIz := Lib.hid (sizeS zeroS)
  have HEz := Lib.hid (cellsS_one zeroS)
  have HK := Lib.hid hK
  have HSH := Lib.hid (fun W => short_any s W)
  have HRG := Lib.hid (fun W => right_any9 s W)
  clear hK
  rw [hsh] at HSH
  rw [hr] at HRG
  have hR := right_of hr
  have hmade := hR.made
  have HPL := Lib.hid (fun W => pick_any l hl 60001 (by decide) (by decide) 60001 (by decide) W)
  have HPU := Lib.hid (fun W => pick_any u hu 60001 (by decide) (by decide) 60001 (by decide) W)
  have HPN := Lib.hid (fun W => pick_any n hn 61000 (by decide) (by decide) 61000 (by decide) W)
  have bL : pickN l 60001 < 60001 := Nat.mod_lt _ (by decide)
  have bU : pickN u 60001 < 60001 := Nat.mod_lt _ (by decide)
  have bN : pickN n 61000 < 61000 := Nat.mod_lt _ (by decide)
  generalize pickN l 60001 = L at *
  generalize pickN u 60001 = Q at *
  generalize pickN n 61000 = P at *
  have hwf : WfS { s with life := (L : Int) } := ⟨hs.wf.a0, hs.wf.a1, hs.wf.a2, hs.wf.a3, hs.wf.a4, hs.wf.a5, hs.wf.a6, hs.wf.b0, hs.wf.b1, hs.wf.b2, hs.wf.b3⟩
  have hr1 : rightS { s with life := (L : Int) } = true := right_mk ⟨hR.a0, hR.a1, hR.b0, hR.b1, hR.b2, hR.b3, hR.peer, hR.made, by dsimp only; omega⟩
  have HOWN : Hid (∀ W : World, W.heap[w.heap.size]? = some (.cells (cellsS s) 25 (0, 0)) → (W.setCell ⟨w.heap.size, 13, none⟩ (.int .i64 (L : Int))).heap[w.heap.size]? = some (.cells (cellsS { s with life := (L : Int) }) 25 (0, 0))) := Lib.hid fun W h => row_set9 h 13 _
  have hcs := cookie_size key { s with life := (L : Int) }
  obtain ⟨s1, hs1⟩ : ∃ s1 : St, s1 = { s with life := (L : Int) } := ⟨_, rfl⟩
  rw [← hs1] at hwf hr1 HOWN hcs hrd
  have hm1 : s1.made = s.made := by rw [hs1]
  have hl1 : s1.life = (L : Int) := by rw [hs1]
  have hp1 : s1.peer.size = s.peer.size := by rw [hs1]
  have hb := fun (a : Nat) W (h : Kub W) (hY : KyS W a (turnKy zeroKy key 0)) => kbuild_any a (turnKy zeroKy key 0) s1 hwf (by show key.size ≤ _; omega) W h hY
  have ebk : buildKy (turnKy zeroKy key 0) s1 = (cookieB key s1, 0) := (if_pos rfl).trans (buildK_right key hr1)
  rw [ebk] at hb
  have hread : readK (turnKy zeroKy key 0).nk (cookieB key s1) = (s1, 0) := read_back hwf hr1 key
  have hrd0 := fun (a : Nat) W (h : Kub W) (hY : KyS W a (turnKy zeroKy key 0)) => kread_any a (turnKy zeroKy key 0) (cookieB key s1) (s1.made - 1) (by show key.size ≤ _; omega) (by show (⟨#[]⟩ : ByteArray).size ≤ 900000; decide) (by omega) (.inr ⟨by unfold BoundN; omega, by show BoundN 0; unfold BoundN; omega⟩) W h hY
  rw [lives_early rfl hread] at hrd0
  have hrd1 := fun (a : Nat) W (h : Kub W) (hY : KyS W a (turnKy zeroKy key 0)) => kread_any a (turnKy zeroKy key 0) (cookieB key s1) (s.made + (P : Int)) (by show key.size ≤ _; omega) (by show (⟨#[]⟩ : ByteArray).size ≤ 900000; decide) (by omega) (.inr ⟨by unfold BoundN; omega, by show BoundN 0; unfold BoundN; omega⟩) W h hY
  rw [hrd] at hrd1
  have HT1 := Lib.hid (fun (a : Nat) W (hY : KyS W a zeroKy) => turn_any a zeroKy key (by omega) 0 W hY)
  skip
  have HB := Lib.hid hb
  have HR0 := Lib.hid hrd0
  have HR1 := Lib.hid hrd1
  rw [hm1] at HR0
  have HI1 := Lib.hid (sizeS s1)
  have HE1 := Lib.hid (cellsS_one s1)
  have HCM : Hid (∀ W, StS 25 w.heap.size s1 w W → W.cell? ⟨w.heap.size, 12, none⟩ = some (.int .i64 s.made)) := Lib.hid fun W h => by rw [cell_in h.own, ← hm1]; rfl
  have HCL : Hid (∀ W, StS 25 w.heap.size s1 w W → W.cell? ⟨w.heap.size, 13, none⟩ = some (.int .i64 (L : Int))) := Lib.hid fun W h => by rw [cell_in h.own, ← hl1]; rfl
  have HC13 : Hid (∀ W, StS 25 w.heap.size s w W → W.cell? ⟨w.heap.size, 13, none⟩ = some (.int .i64 s.life)) := Lib.hid fun W h => by rw [cell_in h.own]; rfl
  have k1' : decide ((300 : Int) < (key.size : Int)) = false := decide_eq_false (by omega)
  have k2' : decide ((300 : Int) < (other.size : Int)) = false := decide_eq_false (by omega)
  generalize cookieB key s1 = C at *
  have hz := fun W => neq_zero9 W
  have hq9 := fun W => eql_same s1 W
  clear hb hrd0 hrd1 hread ebk hwf hr1 hcs hrd hs1 hm1 hl1 hp1 hR hsh hr hs hl hu hn hp hk1 hk2
  generalize s.made = md at *
  have v1 : IntKind.i64.wrap (md + (Q : Int)) = md + (Q : Int) := by rw [IntKind.wrap_i64]; omega
  have v2 : IntKind.i64.wrap (md + (P : Int)) = md + (P : Int) := by rw [IntKind.wrap_i64]; omega
  have v3 : md + (P : Int) - md = (P : Int) := by omega
  have v4 : md + (P : Int) - (md + (Q : Int)) = (P : Int) - (Q : Int) := by omega
  have v5 : ¬ md + (Q : Int) ≤ md + (P : Int) := by omega
  have v6 : ¬ (L : Int) < (P : Int) := by omega
  go_enter Tryd.func6, Tryd.ntmps6
  go_wp2_with fail
  refine (shown_any _ (HK.out.later HS.out.below)).mono ?_
  rintro e w1 ⟨rfl, hb1⟩
  replace HS := Lib.hid (HS.out.later hb1)
  clear hb1
  go_wp2_with (refine wpList_load_want (by rfl) 25 (.tmp 8) rfl w.heap.size rfl 25 (cellsS s) (0, 0) _ HS.out.own Tryd.underlying25 rfl HI.out ?_)
  refine (HSH.out _).mono ?_
  rintro e w2 ⟨rfl, hb1⟩
  replace HS := Lib.hid (HS.out.later hb1)
  clear hb1
  go_wp2_with (refine wpList_load_want (by rfl) 25 (.tmp 8) rfl w.heap.size rfl 25 (cellsS s) (0, 0) _ HS.out.own Tryd.underlying25 rfl HI.out ?_)
  refine (HRG.out _).mono ?_
  rintro e w3 ⟨rfl, hb1⟩
  replace HS := Lib.hid (HS.out.later hb1)
  clear hb1
  have c13 := HC13.out w3 HS.out
  have f13 : w3.frozen? ⟨w.heap.size, 13, none⟩ = false := frozen_of_row HS.out.own 13
  go_wp2_with fail
  refine (HPL.out _).mono ?_
  rintro e w4 ⟨rfl, rfl⟩
  have HS4 : Hid (StS 25 w.heap.size s1 w (w4.setCell ⟨w.heap.size, 13, none⟩ (.int .i64 (L : Int)))) := Lib.hid ⟨HOWN.out _ HS.out.own, below_setCell9 HS.out.below _ _ _ (Nat.le_refl _), Nat.le_refl _⟩
  have hsz4 : (w4.setCell ⟨w.heap.size, 13, none⟩ (.int .i64 (L : Int))).heap.size = w4.heap.size := set_size _ _ _
  have hlt4 : w.heap.size < w4.heap.size := HS.out.lt
  have HS5 : Hid (StS 25 w.heap.size s1 w ((w4.setCell ⟨w.heap.size, 13, none⟩ (.int .i64 (L : Int))).alloc (.cells #[.string ⟨#[]⟩, .bool false, .string ⟨#[]⟩, .bool false, .int .i64 0] 46))) := Lib.hid (HS4.out.later ((Below.refl _ _).alloc (Nat.le_refl _) _))
  have HY5 : Hid (KyS ((w4.setCell ⟨w.heap.size, 13, none⟩ (.int .i64 (L : Int))).alloc (.cells #[.string ⟨#[]⟩, .bool false, .string ⟨#[]⟩, .bool false, .int .i64 0] 46)) w4.heap.size zeroKy) := Lib.hid (by
    have := heap_alloc_new (w4.setCell ⟨w.heap.size, 13, none⟩ (.int .i64 (L : Int))) (.cells #[.string ⟨#[]⟩, .bool false, .string ⟨#[]⟩, .bool false, .int .i64 0] 46)
    rw [hsz4] at this
    exact this)
  clear HS HS4
  go_wp2_with fail
  refine (HT1.out _ _ HY5.out).mono ?_
  rintro e w6 ⟨rfl, hY6, hg6⟩
  have HS6 := Lib.hid (StS.grown HS5.out hg6 hlt4)
  have HY6 := Lib.hid hY6
  clear hY6 hg6 HS5 HY5 c13 f13 hsz4
  generalize w4.heap.size = a at *
  go_wp2_with (refine wpList_load_want (by rfl) 25 (.tmp 8) rfl w.heap.size rfl 25 (cellsS s1) (0, 0) _ HS6.out.own Tryd.underlying25 rfl HI1.out ?_)
  refine (HB.out _ _ (HK.out.later HS6.out.below) HY6.out).mono ?_
  rintro e w7 ⟨rfl, hb7⟩
  have HS7 := Lib.hid (HS6.out.later hb7)
  have HY7 := Lib.hid (HY6.out.later hb7)
  clear hb7 HS6 HY6 HB
  go_wp2_with fail
  refine wp_region_noPanic ?_
  refine wp_region_held_drew (S := fun W' => W'.cell? ⟨w.heap.size, 12, none⟩ = some (.int .i64 md)) (by kernel_rfl) ?_ (fun hHeld => ?_)
  · exact HCM.out _ HS7.out.drew
  refine k9 0 ?_ (y := ?_) (h := ?_)
  rotate_left 1
  · (intro w' hSw; (try dsimp only at hSw); go_simp; try with_reducible rfl)
  try simp only [Act.put, List.setIfInBounds_toArray, List.set_cons_zero, List.set_cons_succ]
  refine k9 1 ?_ (y := ?_) (h := ?_)
  rotate_left 1
  · (intro w' hSw; (try dsimp only at hSw); go_simp; try with_reducible rfl)
  try simp only [Act.put, List.setIfInBounds_toArray, List.set_cons_zero, List.set_cons_succ]
  refine k9 2 ?_ (y := ?_) (h := ?_)
  rotate_left 1
  · (intro w' hSw; (try dsimp only at hSw); go_simp; try with_reducible rfl)
  try simp only [Act.put, List.setIfInBounds_toArray, List.set_cons_zero, List.set_cons_succ]
  refine wpAnyH_ready (rs := [3]) (by kernel_rfl) (by simp) ?_
  refine AllReadyH.cons (by simp only [q9a, q9s, q9z]; rfl) (fun K hK => ?_) AllReadyH.nil
  go_simp
  refine (HPU.out _).mono ?_
  rintro _ w8 ⟨rfl, rfl⟩
  have HSw8 := Lib.hid HS7.out.drew
  have HYw8 : Hid (KyS w7.drew a (turnKy zeroKy key 0)) := Lib.hid HY7.out
  refine hK.out _ _ ?_ (fun hHeld => ?_)
  · exact HCM.out _ HS7.out.drew
  clear hK K
  try simp only [Act.put, List.setIfInBounds_toArray, List.set_cons_zero, List.set_cons_succ]
  refine k9 4 ?_ (y := ?_) (h := ?_)
  rotate_left 1
  · (intro w' hSw; (try dsimp only at hSw); go_simp; try with_reducible rfl)
  try simp only [Act.put, List.setIfInBounds_toArray, List.set_cons_zero, List.set_cons_succ]
  refine k9 5 ?_ (y := ?_) (h := ?_)
  rotate_left 1
  · (intro w' hSw; (try dsimp only at hSw); go_simp; try with_reducible rfl)
  try simp only [Act.put, List.setIfInBounds_toArray, List.set_cons_zero, List.set_cons_succ]
  refine wpAnyH_done (by kernel_rfl) ?_ _
  refine NoPanic.normal ?_
  clear hHeld
  clear HS7 HY7
  have m8 := HCM.out _ HSw8.out
  go_wp2_with fail
  refine (HR0.out _ _ (HK.out.later HSw8.out.below) HYw8.out).mono ?_
  rintro e w9 ⟨rfl, hb9⟩
  have HS9 := Lib.hid ((HSw8.out.later hb9).later ((Below.refl _ _).alloc (Nat.le_refl _) (.cells (cellsS zeroS) 25)))
  have HY9 := Lib.hid ((HYw8.out.later hb9).later ((Below.refl _ _).alloc (Nat.le_refl _) (.cells (cellsS zeroS) 25)))
  have HO9 := Lib.hid (heap_alloc_new w9 (.cells (cellsS zeroS) 25))
  clear hb9 HSw8 HYw8 HR0 m8
  go_wp2_with (first
      | (refine wpList_store_row rfl 25 (.tmp 19) (.tmp 77) rfl w9.heap.size (cellsS zeroS) rfl rfl 25 #[.int .u32 0, .int .u32 0, .int .u32 0, .int .u32 0, .int .u32 0, .int .u32 0, .int .u32 0, .int .u16 0, .int .u16 0, .int .u16 0, .int .u16 0, .string ⟨#[]⟩, .int .i64 0, .int .i64 0] (heap_alloc_new _ _) HIz.out rfl HEz.out ?_; rw [World.setRow_alloc_new])
      | (refine wpList_load_want (by rfl) 25 (.tmp 19) rfl w9.heap.size rfl 25 (cellsS zeroS) (0, 0) _ HO9.out Tryd.underlying25 rfl HIz.out ?_))
  refine wp_region_noPanic ?_
  refine wp_region_held_drew (S := fun W' => W'.cell? ⟨w.heap.size, 12, none⟩ = some (.int .i64 md)) (by kernel_rfl) ?_ (fun hHeld => ?_)
  · exact HCM.out _ HS9.out.drew
  refine k9 0 ?_ (y := ?_) (h := ?_)
  rotate_left 1
  · (intro w' hSw; (try dsimp only at hSw); go_simp; try with_reducible rfl)
  try simp only [Act.put, List.setIfInBounds_toArray, List.set_cons_zero, List.set_cons_succ]
  refine k9 1 ?_ (y := ?_) (h := ?_)
  rotate_left 1
  · (intro w' hSw; (try dsimp only at hSw); go_simp; try with_reducible rfl)
  try simp only [Act.put, List.setIfInBounds_toArray, List.set_cons_zero, List.set_cons_succ]
  refine k9 2 ?_ (y := ?_) (h := ?_)
  rotate_left 1
  · (intro w' hSw; (try dsimp only at hSw); go_simp; try with_reducible rfl)
  try simp only [Act.put, List.setIfInBounds_toArray, List.set_cons_zero, List.set_cons_succ]
  refine wpAnyH_ready (rs := [3]) (by kernel_rfl) (by simp) ?_
  refine AllReadyH.cons (by simp only [q9a, q9s, q9z]; rfl) (fun K hK => ?_) AllReadyH.nil
  go_simp
  refine (HPN.out _).mono ?_
  rintro _ w10 ⟨rfl, rfl⟩
  have HSw10 := Lib.hid HS9.out.drew
  have HYw10 : Hid (KyS (w9.alloc (.cells (cellsS zeroS) 25)).drew a (turnKy zeroKy key 0)) := Lib.hid HY9.out
  refine hK.out _ _ ?_ (fun hHeld => ?_)
  · exact HCM.out _ HS9.out.drew
  clear hK K
  try simp only [Act.put, List.setIfInBounds_toArray, List.set_cons_zero, List.set_cons_succ]
  refine k9 4 ?_ (y := ?_) (h := ?_)
  rotate_left 1
  · (intro w' hSw; (try dsimp only at hSw); go_simp; try with_reducible rfl)
  try simp only [Act.put, List.setIfInBounds_toArray, List.set_cons_zero, List.set_cons_succ]
  refine k9 5 ?_ (y := ?_) (h := ?_)
  rotate_left 1
  · (intro w' hSw; (try dsimp only at hSw); go_simp; try with_reducible rfl)
  try simp only [Act.put, List.setIfInBounds_toArray, List.set_cons_zero, List.set_cons_succ]
  refine wpAnyH_done (by kernel_rfl) ?_ _
  refine NoPanic.normal ?_
  clear hHeld
  clear HS9 HY9 HO9
  go_wp2_with fail
  refine (HR1.out _ _ (HK.out.later HSw10.out.below) HYw10.out).mono ?_
  rintro e w12 ⟨rfl, hb12⟩
  have HS12 := Lib.hid ((HSw10.out.later hb12).later ((Below.refl _ _).alloc (Nat.le_refl _) (.cells (cellsS s1) 25)))
  have HO12 := Lib.hid (heap_alloc_new w12 (.cells (cellsS s1) 25))
  have m12 := HCM.out _ HS12.out
  have l12 := HCL.out _ HS12.out
  clear hb12 HSw10 HYw10 HR1
  go_wp2_with (first
      | (refine wpList_store_row rfl 25 (.tmp 22) (.tmp 103) rfl w12.heap.size (cellsS s1) rfl rfl 25 #[.int .u32 0, .int .u32 0, .int .u32 0, .int .u32 0, .int .u32 0, .int .u32 0, .int .u32 0, .int .u16 0, .int .u16 0, .int .u16 0, .int .u16 0, .string ⟨#[]⟩, .int .i64 0, .int .i64 0] (heap_alloc_new _ _) HI1.out rfl HE1.out ?_; rw [World.setRow_alloc_new])
      | (refine wpList_load_want (by rfl) 25 (.tmp 22) rfl w12.heap.size rfl 25 (cellsS s1) (0, 0) _ HO12.out Tryd.underlying25 rfl HI1.out ?_)
      | (refine wpList_load_want (by rfl) 25 (.tmp 8) rfl w.heap.size rfl 25 (cellsS s1) (0, 0) _ HS12.out.own Tryd.underlying25 rfl HI1.out ?_))
  go_ret
  exact ⟨rfl, HS12.out.below⟩
set_option maxHeartbeats 1000000 in
set_option maxRecDepth 100000 in
theorem main_turned_stale (key other : ByteArray) (s : St) (hs : InS s) (l u n : Int) (hl : -9223372036854775808 ≤ l ∧ l ≤ 9223372036854775807) (hu : -9223372036854775808 ≤ u ∧ u ≤ 9223372036854775807) (hn : -9223372036854775808 ≤ n ∧ n ≤ 9223372036854775807) (hk1 : key.size ≤ 300) (hk2 : other.size ≤ 300) (hp : (s.peer.size : Int) ≤ 300) (hsh : shortB s = true) (hr : rightS s = true) (hq : pickN u 60001 ≤ pickN n 61000) (ho : pickN l 60001 < pickN n 61000) (hrd : readKy (turnKy (turnKy zeroKy key 0) other (s.made + (pickN u 60001 : Nat))) (cookieB key { s with life := (pickN l 60001 : Nat) }) (s.made + (pickN n 61000 : Nat)) = (zeroS, 7)) (w : World) (hK : Kub w) :
    Calls Tryd.prog 6 #[.string key, .string other, .agg (cellsS s), .int .i64 l, .int .i64 u, .int .i64 n] w fun e w' => e = .returned (.bool true) ∧ Below w.heap.size w w' := by
  have HS := Lib.hid (StS.new 25 s w)
  have HI := Lib.hid (sizeS s)
  have HE := Lib.hid (cellsS_one s)
  have HIz := Lib.hid (sizeS zeroS)
  have HEz := Lib.hid (cellsS_one zeroS)
  have HK := Lib.hid hK
  have HSH := Lib.hid (fun W => short_any s W)
  have HRG := Lib.hid (fun W => right_any9 s W)
  clear hK
  rw [hsh] at HSH
  rw [hr] at HRG
  have hR := right_of hr
  have hmade := hR.made
  have HPL := Lib.hid (fun W => pick_any l hl 60001 (by decide) (by decide) 60001 (by decide) W)
  have HPU := Lib.hid (fun W => pick_any u hu 60001 (by decide) (by decide) 60001 (by decide) W)
  have HPN := Lib.hid (fun W => pick_any n hn 61000 (by decide) (by decide) 61000 (by decide) W)
  have bL : pickN l 60001 < 60001 := Nat.mod_lt _ (by decide)
  have bU : pickN u 60001 < 60001 := Nat.mod_lt _ (by decide)
  have bN : pickN n 61000 < 61000 := Nat.mod_lt _ (by decide)
  generalize pickN l 60001 = L at *
  generalize pickN u 60001 = Q at *
  generalize pickN n 61000 = P at *
  have hwf : WfS { s with life := (L : Int) } := ⟨hs.wf.a0, hs.wf.a1, hs.wf.a2, hs.wf.a3, hs.wf.a4, hs.wf.a5, hs.wf.a6, hs.wf.b0, hs.wf.b1, hs.wf.b2, hs.wf.b3⟩
  have hr1 : rightS { s with life := (L : Int) } = true := right_mk ⟨hR.a0, hR.a1, hR.b0, hR.b1, hR.b2, hR.b3, hR.peer, hR.made, by dsimp only; omega⟩
  have HOWN : Hid (∀ W : World, W.heap[w.heap.size]? = some (.cells (cellsS s) 25 (0, 0)) → (W.setCell ⟨w.heap.size, 13, none⟩ (.int .i64 (L : Int))).heap[w.heap.size]? = some (.cells (cellsS { s with life := (L : Int) }) 25 (0, 0))) := Lib.hid fun W h => row_set9 h 13 _
  have hcs := cookie_size key { s with life := (L : Int) }
  obtain ⟨s1, hs1⟩ : ∃ s1 : St, s1 = { s with life := (L : Int) } := ⟨_, rfl⟩
  rw [← hs1] at hwf hr1 HOWN hcs hrd
  have hm1 : s1.made = s.made := by rw [hs1]
  have hl1 : s1.life = (L : Int) := by rw [hs1]
  have hp1 : s1.peer.size = s.peer.size := by rw [hs1]
  have hb := fun (a : Nat) W (h : Kub W) (hY : KyS W a (turnKy zeroKy key 0)) => kbuild_any a (turnKy zeroKy key 0) s1 hwf (by show key.size ≤ _; omega) W h hY
  have ebk : buildKy (turnKy zeroKy key 0) s1 = (cookieB key s1, 0) := (if_pos rfl).trans (buildK_right key hr1)
  rw [ebk] at hb
  have hread : readK (turnKy zeroKy key 0).nk (cookieB key s1) = (s1, 0) := read_back hwf hr1 key
  have hrd0 := fun (a : Nat) W (h : Kub W) (hY : KyS W a (turnKy zeroKy key 0)) => kread_any a (turnKy zeroKy key 0) (cookieB key s1) (s1.made - 1) (by show key.size ≤ _; omega) (by show (⟨#[]⟩ : ByteArray).size ≤ 900000; decide) (by omega) (.inr ⟨by unfold BoundN; omega, by show BoundN 0; unfold BoundN; omega⟩) W h hY
  rw [lives_early rfl hread] at hrd0
  have hrd1 := fun (a : Nat) W (h : Kub W) (hY : KyS W a (turnKy (turnKy zeroKy key 0) other (s.made + (Q : Int)))) => kread_any a (turnKy (turnKy zeroKy key 0) other (s.made + (Q : Int))) (cookieB key s1) (s.made + (P : Int)) (by show other.size ≤ _; omega) (by show key.size ≤ _; omega) (by omega) (.inr ⟨by unfold BoundN; omega, by show BoundN (s.made + (Q : Int)); unfold BoundN; omega⟩) W h hY
  rw [hrd] at hrd1
  have HT1 := Lib.hid (fun (a : Nat) W (hY : KyS W a zeroKy) => turn_any a zeroKy key (by omega) 0 W hY)
  have HT2 := Lib.hid (fun (a : Nat) W (hY : KyS W a (turnKy zeroKy key 0)) => turn_any a (turnKy zeroKy key 0) other (by omega) (s.made + (Q : Int)) W hY)
  have HB := Lib.hid hb
  have HR0 := Lib.hid hrd0
  have HR1 := Lib.hid hrd1
  rw [hm1] at HR0
  have HI1 := Lib.hid (sizeS s1)
  have HE1 := Lib.hid (cellsS_one s1)
  have HCM : Hid (∀ W, StS 25 w.heap.size s1 w W → W.cell? ⟨w.heap.size, 12, none⟩ = some (.int .i64 s.made)) := Lib.hid fun W h => by rw [cell_in h.own, ← hm1]; rfl
  have HCL : Hid (∀ W, StS 25 w.heap.size s1 w W → W.cell? ⟨w.heap.size, 13, none⟩ = some (.int .i64 (L : Int))) := Lib.hid fun W h => by rw [cell_in h.own, ← hl1]; rfl
  have HC13 : Hid (∀ W, StS 25 w.heap.size s w W → W.cell? ⟨w.heap.size, 13, none⟩ = some (.int .i64 s.life)) := Lib.hid fun W h => by rw [cell_in h.own]; rfl
  have k1' : decide ((300 : Int) < (key.size : Int)) = false := decide_eq_false (by omega)
  have k2' : decide ((300 : Int) < (other.size : Int)) = false := decide_eq_false (by omega)
  generalize cookieB key s1 = C at *
  have hz := fun W => neq_zero9 W
  have hq9 := fun W => eql_same s1 W
  clear hb hrd0 hrd1 hread ebk hwf hr1 hcs hrd hs1 hm1 hl1 hp1 hR hsh hr hs hl hu hn hp hk1 hk2
  generalize s.made = md at *
  have v1 : IntKind.i64.wrap (md + (Q : Int)) = md + (Q : Int) := by rw [IntKind.wrap_i64]; omega
  have v2 : IntKind.i64.wrap (md + (P : Int)) = md + (P : Int) := by rw [IntKind.wrap_i64]; omega
  have v3 : md + (P : Int) - md = (P : Int) := by omega
  have v4 : md + (P : Int) - (md + (Q : Int)) = (P : Int) - (Q : Int) := by omega
  have v5 : md + (Q : Int) ≤ md + (P : Int) := by omega
  have v6 : (L : Int) < (P : Int) := by omega
  go_enter Tryd.func6, Tryd.ntmps6
  go_wp2_with fail
  refine (shown_any _ (HK.out.later HS.out.below)).mono ?_
  rintro e w1 ⟨rfl, hb1⟩
  replace HS := Lib.hid (HS.out.later hb1)
  clear hb1
  go_wp2_with (refine wpList_load_want (by rfl) 25 (.tmp 8) rfl w.heap.size rfl 25 (cellsS s) (0, 0) _ HS.out.own Tryd.underlying25 rfl HI.out ?_)
  refine (HSH.out _).mono ?_
  rintro e w2 ⟨rfl, hb1⟩
  replace HS := Lib.hid (HS.out.later hb1)
  clear hb1
  go_wp2_with (refine wpList_load_want (by rfl) 25 (.tmp 8) rfl w.heap.size rfl 25 (cellsS s) (0, 0) _ HS.out.own Tryd.underlying25 rfl HI.out ?_)
  refine (HRG.out _).mono ?_
  rintro e w3 ⟨rfl, hb1⟩
  replace HS := Lib.hid (HS.out.later hb1)
  clear hb1
  have c13 := HC13.out w3 HS.out
  have f13 : w3.frozen? ⟨w.heap.size, 13, none⟩ = false := frozen_of_row HS.out.own 13
  go_wp2_with fail
  refine (HPL.out _).mono ?_
  rintro e w4 ⟨rfl, rfl⟩
  have HS4 : Hid (StS 25 w.heap.size s1 w (w4.setCell ⟨w.heap.size, 13, none⟩ (.int .i64 (L : Int)))) := Lib.hid ⟨HOWN.out _ HS.out.own, below_setCell9 HS.out.below _ _ _ (Nat.le_refl _), Nat.le_refl _⟩
  have hsz4 : (w4.setCell ⟨w.heap.size, 13, none⟩ (.int .i64 (L : Int))).heap.size = w4.heap.size := set_size _ _ _
  have hlt4 : w.heap.size < w4.heap.size := HS.out.lt
  have HS5 : Hid (StS 25 w.heap.size s1 w ((w4.setCell ⟨w.heap.size, 13, none⟩ (.int .i64 (L : Int))).alloc (.cells #[.string ⟨#[]⟩, .bool false, .string ⟨#[]⟩, .bool false, .int .i64 0] 46))) := Lib.hid (HS4.out.later ((Below.refl _ _).alloc (Nat.le_refl _) _))
  have HY5 : Hid (KyS ((w4.setCell ⟨w.heap.size, 13, none⟩ (.int .i64 (L : Int))).alloc (.cells #[.string ⟨#[]⟩, .bool false, .string ⟨#[]⟩, .bool false, .int .i64 0] 46)) w4.heap.size zeroKy) := Lib.hid (by
    have := heap_alloc_new (w4.setCell ⟨w.heap.size, 13, none⟩ (.int .i64 (L : Int))) (.cells #[.string ⟨#[]⟩, .bool false, .string ⟨#[]⟩, .bool false, .int .i64 0] 46)
    rw [hsz4] at this
    exact this)
  clear HS HS4
  go_wp2_with fail
  refine (HT1.out _ _ HY5.out).mono ?_
  rintro e w6 ⟨rfl, hY6, hg6⟩
  have HS6 := Lib.hid (StS.grown HS5.out hg6 hlt4)
  have HY6 := Lib.hid hY6
  clear hY6 hg6 HS5 HY5 c13 f13 hsz4
  generalize w4.heap.size = a at *
  go_wp2_with (refine wpList_load_want (by rfl) 25 (.tmp 8) rfl w.heap.size rfl 25 (cellsS s1) (0, 0) _ HS6.out.own Tryd.underlying25 rfl HI1.out ?_)
  refine (HB.out _ _ (HK.out.later HS6.out.below) HY6.out).mono ?_
  rintro e w7 ⟨rfl, hb7⟩
  have HS7 := Lib.hid (HS6.out.later hb7)
  have HY7 := Lib.hid (HY6.out.later hb7)
  clear hb7 HS6 HY6 HB
  go_wp2_with fail
  refine wp_region_noPanic ?_
  refine wp_region_held_drew (S := fun W' => W'.cell? ⟨w.heap.size, 12, none⟩ = some (.int .i64 md)) (by kernel_rfl) ?_ (fun hHeld => ?_)
  · exact HCM.out _ HS7.out.drew
  refine k9 0 ?_ (y := ?_) (h := ?_)
  rotate_left 1
  · (intro w' hSw; (try dsimp only at hSw); go_simp; try with_reducible rfl)
  try simp only [Act.put, List.setIfInBounds_toArray, List.set_cons_zero, List.set_cons_succ]
  refine k9 1 ?_ (y := ?_) (h := ?_)
  rotate_left 1
  · (intro w' hSw; (try dsimp only at hSw); go_simp; try with_reducible rfl)
  try simp only [Act.put, List.setIfInBounds_toArray, List.set_cons_zero, List.set_cons_succ]
  refine k9 2 ?_ (y := ?_) (h := ?_)
  rotate_left 1
  · (intro w' hSw; (try dsimp only at hSw); go_simp; try with_reducible rfl)
  try simp only [Act.put, List.setIfInBounds_toArray, List.set_cons_zero, List.set_cons_succ]
  refine wpAnyH_ready (rs := [3]) (by kernel_rfl) (by simp) ?_
  refine AllReadyH.cons (by simp only [q9a, q9s, q9z]; rfl) (fun K hK => ?_) AllReadyH.nil
  go_simp
  refine (HPU.out _).mono ?_
  rintro _ w8 ⟨rfl, rfl⟩
  have HSw8 := Lib.hid HS7.out.drew
  have HYw8 : Hid (KyS w7.drew a (turnKy zeroKy key 0)) := Lib.hid HY7.out
  refine hK.out _ _ ?_ (fun hHeld => ?_)
  · exact HCM.out _ HS7.out.drew
  clear hK K
  try simp only [Act.put, List.setIfInBounds_toArray, List.set_cons_zero, List.set_cons_succ]
  refine k9 4 ?_ (y := ?_) (h := ?_)
  rotate_left 1
  · (intro w' hSw; (try dsimp only at hSw); go_simp; try with_reducible rfl)
  try simp only [Act.put, List.setIfInBounds_toArray, List.set_cons_zero, List.set_cons_succ]
  refine k9 5 ?_ (y := ?_) (h := ?_)
  rotate_left 1
  · (intro w' hSw; (try dsimp only at hSw); go_simp; try with_reducible rfl)
  try simp only [Act.put, List.setIfInBounds_toArray, List.set_cons_zero, List.set_cons_succ]
  refine wpAnyH_done (by kernel_rfl) ?_ _
  refine NoPanic.normal ?_
  clear hHeld
  clear HS7 HY7
  have m8 := HCM.out _ HSw8.out
  go_wp2_with fail
  refine (HR0.out _ _ (HK.out.later HSw8.out.below) HYw8.out).mono ?_
  rintro e w9 ⟨rfl, hb9⟩
  have HS9 := Lib.hid ((HSw8.out.later hb9).later ((Below.refl _ _).alloc (Nat.le_refl _) (.cells (cellsS zeroS) 25)))
  have HY9 := Lib.hid ((HYw8.out.later hb9).later ((Below.refl _ _).alloc (Nat.le_refl _) (.cells (cellsS zeroS) 25)))
  have HO9 := Lib.hid (heap_alloc_new w9 (.cells (cellsS zeroS) 25))
  clear hb9 HSw8 HYw8 HR0 m8
  go_wp2_with (first
      | (refine wpList_store_row rfl 25 (.tmp 19) (.tmp 77) rfl w9.heap.size (cellsS zeroS) rfl rfl 25 #[.int .u32 0, .int .u32 0, .int .u32 0, .int .u32 0, .int .u32 0, .int .u32 0, .int .u32 0, .int .u16 0, .int .u16 0, .int .u16 0, .int .u16 0, .string ⟨#[]⟩, .int .i64 0, .int .i64 0] (heap_alloc_new _ _) HIz.out rfl HEz.out ?_; rw [World.setRow_alloc_new])
      | (refine wpList_load_want (by rfl) 25 (.tmp 19) rfl w9.heap.size rfl 25 (cellsS zeroS) (0, 0) _ HO9.out Tryd.underlying25 rfl HIz.out ?_))
  refine wp_region_noPanic ?_
  refine wp_region_held_drew (S := fun W' => W'.cell? ⟨w.heap.size, 12, none⟩ = some (.int .i64 md)) (by kernel_rfl) ?_ (fun hHeld => ?_)
  · exact HCM.out _ HS9.out.drew
  refine k9 0 ?_ (y := ?_) (h := ?_)
  rotate_left 1
  · (intro w' hSw; (try dsimp only at hSw); go_simp; try with_reducible rfl)
  try simp only [Act.put, List.setIfInBounds_toArray, List.set_cons_zero, List.set_cons_succ]
  refine k9 1 ?_ (y := ?_) (h := ?_)
  rotate_left 1
  · (intro w' hSw; (try dsimp only at hSw); go_simp; try with_reducible rfl)
  try simp only [Act.put, List.setIfInBounds_toArray, List.set_cons_zero, List.set_cons_succ]
  refine k9 2 ?_ (y := ?_) (h := ?_)
  rotate_left 1
  · (intro w' hSw; (try dsimp only at hSw); go_simp; try with_reducible rfl)
  try simp only [Act.put, List.setIfInBounds_toArray, List.set_cons_zero, List.set_cons_succ]
  refine wpAnyH_ready (rs := [3]) (by kernel_rfl) (by simp) ?_
  refine AllReadyH.cons (by simp only [q9a, q9s, q9z]; rfl) (fun K hK => ?_) AllReadyH.nil
  go_simp
  refine (HPN.out _).mono ?_
  rintro _ w10 ⟨rfl, rfl⟩
  have HSw10 := Lib.hid HS9.out.drew
  have HYw10 : Hid (KyS (w9.alloc (.cells (cellsS zeroS) 25)).drew a (turnKy zeroKy key 0)) := Lib.hid HY9.out
  refine hK.out _ _ ?_ (fun hHeld => ?_)
  · exact HCM.out _ HS9.out.drew
  clear hK K
  try simp only [Act.put, List.setIfInBounds_toArray, List.set_cons_zero, List.set_cons_succ]
  refine k9 4 ?_ (y := ?_) (h := ?_)
  rotate_left 1
  · (intro w' hSw; (try dsimp only at hSw); go_simp; try with_reducible rfl)
  try simp only [Act.put, List.setIfInBounds_toArray, List.set_cons_zero, List.set_cons_succ]
  refine k9 5 ?_ (y := ?_) (h := ?_)
  rotate_left 1
  · (intro w' hSw; (try dsimp only at hSw); go_simp; try with_reducible rfl)
  try simp only [Act.put, List.setIfInBounds_toArray, List.set_cons_zero, List.set_cons_succ]
  refine wpAnyH_done (by kernel_rfl) ?_ _
  refine NoPanic.normal ?_
  clear hHeld
  clear HS9 HY9 HO9
  go_wp2_with fail
  refine (HT2.out _ _ HYw10.out).mono ?_
  rintro e w11 ⟨rfl, hY11, hg11⟩
  have HS11 := Lib.hid (StS.grown HSw10.out hg11 hlt4)
  have HY11 := Lib.hid hY11
  clear hY11 hg11 HSw10 HYw10
  go_wp2_with fail
  refine (HR1.out _ _ (HK.out.later HS11.out.below) HY11.out).mono ?_
  rintro e w12 ⟨rfl, hb12⟩
  have HS12 := Lib.hid ((HS11.out.later hb12).later ((Below.refl _ _).alloc (Nat.le_refl _) (.cells (cellsS zeroS) 25)))
  have HO12 := Lib.hid (heap_alloc_new w12 (.cells (cellsS zeroS) 25))
  have m12 := HCM.out _ HS12.out
  have l12 := HCL.out _ HS12.out
  clear hb12 HS11 HY11 HR1
  go_wp2_with (refine wpList_store_row rfl 25 (.tmp 22) (.tmp 103) rfl w12.heap.size (cellsS zeroS) rfl rfl 25 #[.int .u32 0, .int .u32 0, .int .u32 0, .int .u32 0, .int .u32 0, .int .u32 0, .int .u32 0, .int .u16 0, .int .u16 0, .int .u16 0, .int .u16 0, .string ⟨#[]⟩, .int .i64 0, .int .i64 0] (heap_alloc_new _ _) HIz.out rfl HEz.out ?_; rw [World.setRow_alloc_new])
  go_ret
  exact ⟨rfl, HS12.out.below⟩
set_option maxHeartbeats 1000000 in
set_option maxRecDepth 100000 in
theorem main_turned_good (key other : ByteArray) (s : St) (hs : InS s) (l u n : Int) (hl : -9223372036854775808 ≤ l ∧ l ≤ 9223372036854775807) (hu : -9223372036854775808 ≤ u ∧ u ≤ 9223372036854775807) (hn : -9223372036854775808 ≤ n ∧ n ≤ 9223372036854775807) (hk1 : key.size ≤ 300) (hk2 : other.size ≤ 300) (hp : (s.peer.size : Int) ≤ 300) (hsh : shortB s = true) (hr : rightS s = true) (hq : pickN u 60001 ≤ pickN n 61000) (ho : pickN n 61000 ≤ pickN l 60001) (hrd : readKy (turnKy (turnKy zeroKy key 0) other (s.made + (pickN u 60001 : Nat))) (cookieB key { s with life := (pickN l 60001 : Nat) }) (s.made + (pickN n 61000 : Nat)) = ({ s with life := (pickN l 60001 : Nat) }, 0)) (w : World) (hK : Kub w) :
    Calls Tryd.prog 6 #[.string key, .string other, .agg (cellsS s), .int .i64 l, .int .i64 u, .int .i64 n] w fun e w' => e = .returned (.bool true) ∧ Below w.heap.size w w' := by
  have HS := Lib.hid (StS.new 25 s w)
  have HI := Lib.hid (sizeS s)
  have HE := Lib.hid (cellsS_one s)
  have HIz := Lib.hid (sizeS zeroS)
  have HEz := Lib.hid (cellsS_one zeroS)
  have HK := Lib.hid hK
  have HSH := Lib.hid (fun W => short_any s W)
  have HRG := Lib.hid (fun W => right_any9 s W)
  clear hK
  rw [hsh] at HSH
  rw [hr] at HRG
  have hR := right_of hr
  have hmade := hR.made
  have HPL := Lib.hid (fun W => pick_any l hl 60001 (by decide) (by decide) 60001 (by decide) W)
  have HPU := Lib.hid (fun W => pick_any u hu 60001 (by decide) (by decide) 60001 (by decide) W)
  have HPN := Lib.hid (fun W => pick_any n hn 61000 (by decide) (by decide) 61000 (by decide) W)
  have bL : pickN l 60001 < 60001 := Nat.mod_lt _ (by decide)
  have bU : pickN u 60001 < 60001 := Nat.mod_lt _ (by decide)
  have bN : pickN n 61000 < 61000 := Nat.mod_lt _ (by decide)
  generalize pickN l 60001 = L at *
  generalize pickN u 60001 = Q at *
  generalize pickN n 61000 = P at *
  have hwf : WfS { s with life := (L : Int) } := ⟨hs.wf.a0, hs.wf.a1, hs.wf.a2, hs.wf.a3, hs.wf.a4, hs.wf.a5, hs.wf.a6, hs.wf.b0, hs.wf.b1, hs.wf.b2, hs.wf.b3⟩
  have hr1 : rightS { s with life := (L : Int) } = true := right_mk ⟨hR.a0, hR.a1, hR.b0, hR.b1, hR.b2, hR.b3, hR.peer, hR.made, by dsimp only; omega⟩
  have HOWN : Hid (∀ W : World, W.heap[w.heap.size]? = some (.cells (cellsS s) 25 (0, 0)) → (W.setCell ⟨w.heap.size, 13, none⟩ (.int .i64 (L : Int))).heap[w.heap.size]? = some (.cells (cellsS { s with life := (L : Int) }) 25 (0, 0))) := Lib.hid fun W h => row_set9 h 13 _
  have hcs := cookie_size key { s with life := (L : Int) }
  obtain ⟨s1, hs1⟩ : ∃ s1 : St, s1 = { s with life := (L : Int) } := ⟨_, rfl⟩
  rw [← hs1] at hwf hr1 HOWN hcs hrd
  have hm1 : s1.made = s.made := by rw [hs1]
  have hl1 : s1.life = (L : Int) := by rw [hs1]
  have hp1 : s1.peer.size = s.peer.size := by rw [hs1]
  have hb := fun (a : Nat) W (h : Kub W) (hY : KyS W a (turnKy zeroKy key 0)) => kbuild_any a (turnKy zeroKy key 0) s1 hwf (by show key.size ≤ _; omega) W h hY
  have ebk : buildKy (turnKy zeroKy key 0) s1 = (cookieB key s1, 0) := (if_pos rfl).trans (buildK_right key hr1)
  rw [ebk] at hb
  have hread : readK (turnKy zeroKy key 0).nk (cookieB key s1) = (s1, 0) := read_back hwf hr1 key
  have hrd0 := fun (a : Nat) W (h : Kub W) (hY : KyS W a (turnKy zeroKy key 0)) => kread_any a (turnKy zeroKy key 0) (cookieB key s1) (s1.made - 1) (by show key.size ≤ _; omega) (by show (⟨#[]⟩ : ByteArray).size ≤ 900000; decide) (by omega) (.inr ⟨by unfold BoundN; omega, by show BoundN 0; unfold BoundN; omega⟩) W h hY
  rw [lives_early rfl hread] at hrd0
  have hrd1 := fun (a : Nat) W (h : Kub W) (hY : KyS W a (turnKy (turnKy zeroKy key 0) other (s.made + (Q : Int)))) => kread_any a (turnKy (turnKy zeroKy key 0) other (s.made + (Q : Int))) (cookieB key s1) (s.made + (P : Int)) (by show other.size ≤ _; omega) (by show key.size ≤ _; omega) (by omega) (.inr ⟨by unfold BoundN; omega, by show BoundN (s.made + (Q : Int)); unfold BoundN; omega⟩) W h hY
  rw [hrd] at hrd1
  have HT1 := Lib.hid (fun (a : Nat) W (hY : KyS W a zeroKy) => turn_any a zeroKy key (by omega) 0 W hY)
  have HT2 := Lib.hid (fun (a : Nat) W (hY : KyS W a (turnKy zeroKy key 0)) => turn_any a (turnKy zeroKy key 0) other (by omega) (s.made + (Q : Int)) W hY)
  have HB := Lib.hid hb
  have HR0 := Lib.hid hrd0
  have HR1 := Lib.hid hrd1
  rw [hm1] at HR0
  have HI1 := Lib.hid (sizeS s1)
  have HE1 := Lib.hid (cellsS_one s1)
  have HCM : Hid (∀ W, StS 25 w.heap.size s1 w W → W.cell? ⟨w.heap.size, 12, none⟩ = some (.int .i64 s.made)) := Lib.hid fun W h => by rw [cell_in h.own, ← hm1]; rfl
  have HCL : Hid (∀ W, StS 25 w.heap.size s1 w W → W.cell? ⟨w.heap.size, 13, none⟩ = some (.int .i64 (L : Int))) := Lib.hid fun W h => by rw [cell_in h.own, ← hl1]; rfl
  have HC13 : Hid (∀ W, StS 25 w.heap.size s w W → W.cell? ⟨w.heap.size, 13, none⟩ = some (.int .i64 s.life)) := Lib.hid fun W h => by rw [cell_in h.own]; rfl
  have k1' : decide ((300 : Int) < (key.size : Int)) = false := decide_eq_false (by omega)
  have k2' : decide ((300 : Int) < (other.size : Int)) = false := decide_eq_false (by omega)
  generalize cookieB key s1 = C at *
  have hz := fun W => neq_zero9 W
  have hq9 := fun W => eql_same s1 W
  clear hb hrd0 hrd1 hread ebk hwf hr1 hcs hrd hs1 hm1 hl1 hp1 hR hsh hr hs hl hu hn hp hk1 hk2
  generalize s.made = md at *
  have v1 : IntKind.i64.wrap (md + (Q : Int)) = md + (Q : Int) := by rw [IntKind.wrap_i64]; omega
  have v2 : IntKind.i64.wrap (md + (P : Int)) = md + (P : Int) := by rw [IntKind.wrap_i64]; omega
  have v3 : md + (P : Int) - md = (P : Int) := by omega
  have v4 : md + (P : Int) - (md + (Q : Int)) = (P : Int) - (Q : Int) := by omega
  have v5 : md + (Q : Int) ≤ md + (P : Int) := by omega
  have v6 : ¬ (L : Int) < (P : Int) := by omega
  go_enter Tryd.func6, Tryd.ntmps6
  go_wp2_with fail
  refine (shown_any _ (HK.out.later HS.out.below)).mono ?_
  rintro e w1 ⟨rfl, hb1⟩
  replace HS := Lib.hid (HS.out.later hb1)
  clear hb1
  go_wp2_with (refine wpList_load_want (by rfl) 25 (.tmp 8) rfl w.heap.size rfl 25 (cellsS s) (0, 0) _ HS.out.own Tryd.underlying25 rfl HI.out ?_)
  refine (HSH.out _).mono ?_
  rintro e w2 ⟨rfl, hb1⟩
  replace HS := Lib.hid (HS.out.later hb1)
  clear hb1
  go_wp2_with (refine wpList_load_want (by rfl) 25 (.tmp 8) rfl w.heap.size rfl 25 (cellsS s) (0, 0) _ HS.out.own Tryd.underlying25 rfl HI.out ?_)
  refine (HRG.out _).mono ?_
  rintro e w3 ⟨rfl, hb1⟩
  replace HS := Lib.hid (HS.out.later hb1)
  clear hb1
  have c13 := HC13.out w3 HS.out
  have f13 : w3.frozen? ⟨w.heap.size, 13, none⟩ = false := frozen_of_row HS.out.own 13
  go_wp2_with fail
  refine (HPL.out _).mono ?_
  rintro e w4 ⟨rfl, rfl⟩
  have HS4 : Hid (StS 25 w.heap.size s1 w (w4.setCell ⟨w.heap.size, 13, none⟩ (.int .i64 (L : Int)))) := Lib.hid ⟨HOWN.out _ HS.out.own, below_setCell9 HS.out.below _ _ _ (Nat.le_refl _), Nat.le_refl _⟩
  have hsz4 : (w4.setCell ⟨w.heap.size, 13, none⟩ (.int .i64 (L : Int))).heap.size = w4.heap.size := set_size _ _ _
  have hlt4 : w.heap.size < w4.heap.size := HS.out.lt
  have HS5 : Hid (StS 25 w.heap.size s1 w ((w4.setCell ⟨w.heap.size, 13, none⟩ (.int .i64 (L : Int))).alloc (.cells #[.string ⟨#[]⟩, .bool false, .string ⟨#[]⟩, .bool false, .int .i64 0] 46))) := Lib.hid (HS4.out.later ((Below.refl _ _).alloc (Nat.le_refl _) _))
  have HY5 : Hid (KyS ((w4.setCell ⟨w.heap.size, 13, none⟩ (.int .i64 (L : Int))).alloc (.cells #[.string ⟨#[]⟩, .bool false, .string ⟨#[]⟩, .bool false, .int .i64 0] 46)) w4.heap.size zeroKy) := Lib.hid (by
    have := heap_alloc_new (w4.setCell ⟨w.heap.size, 13, none⟩ (.int .i64 (L : Int))) (.cells #[.string ⟨#[]⟩, .bool false, .string ⟨#[]⟩, .bool false, .int .i64 0] 46)
    rw [hsz4] at this
    exact this)
  clear HS HS4
  go_wp2_with fail
  refine (HT1.out _ _ HY5.out).mono ?_
  rintro e w6 ⟨rfl, hY6, hg6⟩
  have HS6 := Lib.hid (StS.grown HS5.out hg6 hlt4)
  have HY6 := Lib.hid hY6
  clear hY6 hg6 HS5 HY5 c13 f13 hsz4
  generalize w4.heap.size = a at *
  go_wp2_with (refine wpList_load_want (by rfl) 25 (.tmp 8) rfl w.heap.size rfl 25 (cellsS s1) (0, 0) _ HS6.out.own Tryd.underlying25 rfl HI1.out ?_)
  refine (HB.out _ _ (HK.out.later HS6.out.below) HY6.out).mono ?_
  rintro e w7 ⟨rfl, hb7⟩
  have HS7 := Lib.hid (HS6.out.later hb7)
  have HY7 := Lib.hid (HY6.out.later hb7)
  clear hb7 HS6 HY6 HB
  go_wp2_with fail
  refine wp_region_noPanic ?_
  refine wp_region_held_drew (S := fun W' => W'.cell? ⟨w.heap.size, 12, none⟩ = some (.int .i64 md)) (by kernel_rfl) ?_ (fun hHeld => ?_)
  · exact HCM.out _ HS7.out.drew
  refine k9 0 ?_ (y := ?_) (h := ?_)
  rotate_left 1
  · (intro w' hSw; (try dsimp only at hSw); go_simp; try with_reducible rfl)
  try simp only [Act.put, List.setIfInBounds_toArray, List.set_cons_zero, List.set_cons_succ]
  refine k9 1 ?_ (y := ?_) (h := ?_)
  rotate_left 1
  · (intro w' hSw; (try dsimp only at hSw); go_simp; try with_reducible rfl)
  try simp only [Act.put, List.setIfInBounds_toArray, List.set_cons_zero, List.set_cons_succ]
  refine k9 2 ?_ (y := ?_) (h := ?_)
  rotate_left 1
  · (intro w' hSw; (try dsimp only at hSw); go_simp; try with_reducible rfl)
  try simp only [Act.put, List.setIfInBounds_toArray, List.set_cons_zero, List.set_cons_succ]
  refine wpAnyH_ready (rs := [3]) (by kernel_rfl) (by simp) ?_
  refine AllReadyH.cons (by simp only [q9a, q9s, q9z]; rfl) (fun K hK => ?_) AllReadyH.nil
  go_simp
  refine (HPU.out _).mono ?_
  rintro _ w8 ⟨rfl, rfl⟩
  have HSw8 := Lib.hid HS7.out.drew
  have HYw8 : Hid (KyS w7.drew a (turnKy zeroKy key 0)) := Lib.hid HY7.out
  refine hK.out _ _ ?_ (fun hHeld => ?_)
  · exact HCM.out _ HS7.out.drew
  clear hK K
  try simp only [Act.put, List.setIfInBounds_toArray, List.set_cons_zero, List.set_cons_succ]
  refine k9 4 ?_ (y := ?_) (h := ?_)
  rotate_left 1
  · (intro w' hSw; (try dsimp only at hSw); go_simp; try with_reducible rfl)
  try simp only [Act.put, List.setIfInBounds_toArray, List.set_cons_zero, List.set_cons_succ]
  refine k9 5 ?_ (y := ?_) (h := ?_)
  rotate_left 1
  · (intro w' hSw; (try dsimp only at hSw); go_simp; try with_reducible rfl)
  try simp only [Act.put, List.setIfInBounds_toArray, List.set_cons_zero, List.set_cons_succ]
  refine wpAnyH_done (by kernel_rfl) ?_ _
  refine NoPanic.normal ?_
  clear hHeld
  clear HS7 HY7
  have m8 := HCM.out _ HSw8.out
  go_wp2_with fail
  refine (HR0.out _ _ (HK.out.later HSw8.out.below) HYw8.out).mono ?_
  rintro e w9 ⟨rfl, hb9⟩
  have HS9 := Lib.hid ((HSw8.out.later hb9).later ((Below.refl _ _).alloc (Nat.le_refl _) (.cells (cellsS zeroS) 25)))
  have HY9 := Lib.hid ((HYw8.out.later hb9).later ((Below.refl _ _).alloc (Nat.le_refl _) (.cells (cellsS zeroS) 25)))
  have HO9 := Lib.hid (heap_alloc_new w9 (.cells (cellsS zeroS) 25))
  clear hb9 HSw8 HYw8 HR0 m8
  go_wp2_with (first
      | (refine wpList_store_row rfl 25 (.tmp 19) (.tmp 77) rfl w9.heap.size (cellsS zeroS) rfl rfl 25 #[.int .u32 0, .int .u32 0, .int .u32 0, .int .u32 0, .int .u32 0, .int .u32 0, .int .u32 0, .int .u16 0, .int .u16 0, .int .u16 0, .int .u16 0, .string ⟨#[]⟩, .int .i64 0, .int .i64 0] (heap_alloc_new _ _) HIz.out rfl HEz.out ?_; rw [World.setRow_alloc_new])
      | (refine wpList_load_want (by rfl) 25 (.tmp 19) rfl w9.heap.size rfl 25 (cellsS zeroS) (0, 0) _ HO9.out Tryd.underlying25 rfl HIz.out ?_))
  refine wp_region_noPanic ?_
  refine wp_region_held_drew (S := fun W' => W'.cell? ⟨w.heap.size, 12, none⟩ = some (.int .i64 md)) (by kernel_rfl) ?_ (fun hHeld => ?_)
  · exact HCM.out _ HS9.out.drew
  refine k9 0 ?_ (y := ?_) (h := ?_)
  rotate_left 1
  · (intro w' hSw; (try dsimp only at hSw); go_simp; try with_reducible rfl)
  try simp only [Act.put, List.setIfInBounds_toArray, List.set_cons_zero, List.set_cons_succ]
  refine k9 1 ?_ (y := ?_) (h := ?_)
  rotate_left 1
  · (intro w' hSw; (try dsimp only at hSw); go_simp; try with_reducible rfl)
  try simp only [Act.put, List.setIfInBounds_toArray, List.set_cons_zero, List.set_cons_succ]
  refine k9 2 ?_ (y := ?_) (h := ?_)
  rotate_left 1
  · (intro w' hSw; (try dsimp only at hSw); go_simp; try with_reducible rfl)
  try simp only [Act.put, List.setIfInBounds_toArray, List.set_cons_zero, List.set_cons_succ]
  refine wpAnyH_ready (rs := [3]) (by kernel_rfl) (by simp) ?_
  refine AllReadyH.cons (by simp only [q9a, q9s, q9z]; rfl) (fun K hK => ?_) AllReadyH.nil
  go_simp
  refine (HPN.out _).mono ?_
  rintro _ w10 ⟨rfl, rfl⟩
  have HSw10 := Lib.hid HS9.out.drew
  have HYw10 : Hid (KyS (w9.alloc (.cells (cellsS zeroS) 25)).drew a (turnKy zeroKy key 0)) := Lib.hid HY9.out
  refine hK.out _ _ ?_ (fun hHeld => ?_)
  · exact HCM.out _ HS9.out.drew
  clear hK K
  try simp only [Act.put, List.setIfInBounds_toArray, List.set_cons_zero, List.set_cons_succ]
  refine k9 4 ?_ (y := ?_) (h := ?_)
  rotate_left 1
  · (intro w' hSw; (try dsimp only at hSw); go_simp; try with_reducible rfl)
  try simp only [Act.put, List.setIfInBounds_toArray, List.set_cons_zero, List.set_cons_succ]
  refine k9 5 ?_ (y := ?_) (h := ?_)
  rotate_left 1
  · (intro w' hSw; (try dsimp only at hSw); go_simp; try with_reducible rfl)
  try simp only [Act.put, List.setIfInBounds_toArray, List.set_cons_zero, List.set_cons_succ]
  refine wpAnyH_done (by kernel_rfl) ?_ _
  refine NoPanic.normal ?_
  clear hHeld
  clear HS9 HY9 HO9
  go_wp2_with fail
  refine (HT2.out _ _ HYw10.out).mono ?_
  rintro e w11 ⟨rfl, hY11, hg11⟩
  have HS11 := Lib.hid (StS.grown HSw10.out hg11 hlt4)
  have HY11 := Lib.hid hY11
  clear hY11 hg11 HSw10 HYw10
  go_wp2_with fail
  refine (HR1.out _ _ (HK.out.later HS11.out.below) HY11.out).mono ?_
  rintro e w12 ⟨rfl, hb12⟩
  have HS12 := Lib.hid ((HS11.out.later hb12).later ((Below.refl _ _).alloc (Nat.le_refl _) (.cells (cellsS s1) 25)))
  have HO12 := Lib.hid (heap_alloc_new w12 (.cells (cellsS s1) 25))
  have m12 := HCM.out _ HS12.out
  have l12 := HCL.out _ HS12.out
  clear hb12 HS11 HY11 HR1
  go_wp2_with (first
      | (refine wpList_store_row rfl 25 (.tmp 22) (.tmp 103) rfl w12.heap.size (cellsS s1) rfl rfl 25 #[.int .u32 0, .int .u32 0, .int .u32 0, .int .u32 0, .int .u32 0, .int .u32 0, .int .u32 0, .int .u16 0, .int .u16 0, .int .u16 0, .int .u16 0, .string ⟨#[]⟩, .int .i64 0, .int .i64 0] (heap_alloc_new _ _) HI1.out rfl HE1.out ?_; rw [World.setRow_alloc_new])
      | (refine wpList_load_want (by rfl) 25 (.tmp 22) rfl w12.heap.size rfl 25 (cellsS s1) (0, 0) _ HO12.out Tryd.underlying25 rfl HI1.out ?_)
      | (refine wpList_load_want (by rfl) 25 (.tmp 8) rfl w.heap.size rfl 25 (cellsS s1) (0, 0) _ HS12.out.own Tryd.underlying25 rfl HI1.out ?_))
  go_ret
  exact ⟨rfl, HS12.out.below⟩
set_option maxHeartbeats 1000000 in
set_option maxRecDepth 100000 in
theorem main_turned_sum (key other : ByteArray) (s : St) (hs : InS s) (l u n : Int) (hl : -9223372036854775808 ≤ l ∧ l ≤ 9223372036854775807) (hu : -9223372036854775808 ≤ u ∧ u ≤ 9223372036854775807) (hn : -9223372036854775808 ≤ n ∧ n ≤ 9223372036854775807) (hk1 : key.size ≤ 300) (hk2 : other.size ≤ 300) (hp : (s.peer.size : Int) ≤ 300) (hsh : shortB s = true) (hr : rightS s = true) (hq : pickN u 60001 ≤ pickN n 61000) (ho : 60000 < pickN n 61000 - pickN u 60001) (hrd : readKy (turnKy (turnKy zeroKy key 0) other (s.made + (pickN u 60001 : Nat))) (cookieB key { s with life := (pickN l 60001 : Nat) }) (s.made + (pickN n 61000 : Nat)) = (zeroS, 5)) (w : World) (hK : Kub w) :
    Calls Tryd.prog 6 #[.string key, .string other, .agg (cellsS s), .int .i64 l, .int .i64 u, .int .i64 n] w fun e w' => e = .returned (.bool true) ∧ Below w.heap.size w w' := by
  have HS := Lib.hid (StS.new 25 s w)
  have HI := Lib.hid (sizeS s)
  have HE := Lib.hid (cellsS_one s)
  have HIz := Lib.hid (sizeS zeroS)
  have HEz := Lib.hid (cellsS_one zeroS)
  have HK := Lib.hid hK
  have HSH := Lib.hid (fun W => short_any s W)
  have HRG := Lib.hid (fun W => right_any9 s W)
  clear hK
  rw [hsh] at HSH
  rw [hr] at HRG
  have hR := right_of hr
  have hmade := hR.made
  have HPL := Lib.hid (fun W => pick_any l hl 60001 (by decide) (by decide) 60001 (by decide) W)
  have HPU := Lib.hid (fun W => pick_any u hu 60001 (by decide) (by decide) 60001 (by decide) W)
  have HPN := Lib.hid (fun W => pick_any n hn 61000 (by decide) (by decide) 61000 (by decide) W)
  have bL : pickN l 60001 < 60001 := Nat.mod_lt _ (by decide)
  have bU : pickN u 60001 < 60001 := Nat.mod_lt _ (by decide)
  have bN : pickN n 61000 < 61000 := Nat.mod_lt _ (by decide)
  generalize pickN l 60001 = L at *
  generalize pickN u 60001 = Q at *
  generalize pickN n 61000 = P at *
  have hwf : WfS { s with life := (L : Int) } := ⟨hs.wf.a0, hs.wf.a1, hs.wf.a2, hs.wf.a3, hs.wf.a4, hs.wf.a5, hs.wf.a6, hs.wf.b0, hs.wf.b1, hs.wf.b2, hs.wf.b3⟩
  have hr1 : rightS { s with life := (L : Int) } = true := right_mk ⟨hR.a0, hR.a1, hR.b0, hR.b1, hR.b2, hR.b3, hR.peer, hR.made, by dsimp only; omega⟩
  have HOWN : Hid (∀ W : World, W.heap[w.heap.size]? = some (.cells (cellsS s) 25 (0, 0)) → (W.setCell ⟨w.heap.size, 13, none⟩ (.int .i64 (L : Int))).heap[w.heap.size]? = some (.cells (cellsS { s with life := (L : Int) }) 25 (0, 0))) := Lib.hid fun W h => row_set9 h 13 _
  have hcs := cookie_size key { s with life := (L : Int) }
  obtain ⟨s1, hs1⟩ : ∃ s1 : St, s1 = { s with life := (L : Int) } := ⟨_, rfl⟩
  rw [← hs1] at hwf hr1 HOWN hcs hrd
  have hm1 : s1.made = s.made := by rw [hs1]
  have hl1 : s1.life = (L : Int) := by rw [hs1]
  have hp1 : s1.peer.size = s.peer.size := by rw [hs1]
  have hb := fun (a : Nat) W (h : Kub W) (hY : KyS W a (turnKy zeroKy key 0)) => kbuild_any a (turnKy zeroKy key 0) s1 hwf (by show key.size ≤ _; omega) W h hY
  have ebk : buildKy (turnKy zeroKy key 0) s1 = (cookieB key s1, 0) := (if_pos rfl).trans (buildK_right key hr1)
  rw [ebk] at hb
  have hread : readK (turnKy zeroKy key 0).nk (cookieB key s1) = (s1, 0) := read_back hwf hr1 key
  have hrd0 := fun (a : Nat) W (h : Kub W) (hY : KyS W a (turnKy zeroKy key 0)) => kread_any a (turnKy zeroKy key 0) (cookieB key s1) (s1.made - 1) (by show key.size ≤ _; omega) (by show (⟨#[]⟩ : ByteArray).size ≤ 900000; decide) (by omega) (.inr ⟨by unfold BoundN; omega, by show BoundN 0; unfold BoundN; omega⟩) W h hY
  rw [lives_early rfl hread] at hrd0
  have hrd1 := fun (a : Nat) W (h : Kub W) (hY : KyS W a (turnKy (turnKy zeroKy key 0) other (s.made + (Q : Int)))) => kread_any a (turnKy (turnKy zeroKy key 0) other (s.made + (Q : Int))) (cookieB key s1) (s.made + (P : Int)) (by show other.size ≤ _; omega) (by show key.size ≤ _; omega) (by omega) (.inr ⟨by unfold BoundN; omega, by show BoundN (s.made + (Q : Int)); unfold BoundN; omega⟩) W h hY
  rw [hrd] at hrd1
  have HT1 := Lib.hid (fun (a : Nat) W (hY : KyS W a zeroKy) => turn_any a zeroKy key (by omega) 0 W hY)
  have HT2 := Lib.hid (fun (a : Nat) W (hY : KyS W a (turnKy zeroKy key 0)) => turn_any a (turnKy zeroKy key 0) other (by omega) (s.made + (Q : Int)) W hY)
  have HB := Lib.hid hb
  have HR0 := Lib.hid hrd0
  have HR1 := Lib.hid hrd1
  rw [hm1] at HR0
  have HI1 := Lib.hid (sizeS s1)
  have HE1 := Lib.hid (cellsS_one s1)
  have HCM : Hid (∀ W, StS 25 w.heap.size s1 w W → W.cell? ⟨w.heap.size, 12, none⟩ = some (.int .i64 s.made)) := Lib.hid fun W h => by rw [cell_in h.own, ← hm1]; rfl
  have HCL : Hid (∀ W, StS 25 w.heap.size s1 w W → W.cell? ⟨w.heap.size, 13, none⟩ = some (.int .i64 (L : Int))) := Lib.hid fun W h => by rw [cell_in h.own, ← hl1]; rfl
  have HC13 : Hid (∀ W, StS 25 w.heap.size s w W → W.cell? ⟨w.heap.size, 13, none⟩ = some (.int .i64 s.life)) := Lib.hid fun W h => by rw [cell_in h.own]; rfl
  have k1' : decide ((300 : Int) < (key.size : Int)) = false := decide_eq_false (by omega)
  have k2' : decide ((300 : Int) < (other.size : Int)) = false := decide_eq_false (by omega)
  generalize cookieB key s1 = C at *
  have hz := fun W => neq_zero9 W
  have hq9 := fun W => eql_same s1 W
  clear hb hrd0 hrd1 hread ebk hwf hr1 hcs hrd hs1 hm1 hl1 hp1 hR hsh hr hs hl hu hn hp hk1 hk2
  generalize s.made = md at *
  have v1 : IntKind.i64.wrap (md + (Q : Int)) = md + (Q : Int) := by rw [IntKind.wrap_i64]; omega
  have v2 : IntKind.i64.wrap (md + (P : Int)) = md + (P : Int) := by rw [IntKind.wrap_i64]; omega
  have v3 : md + (P : Int) - md = (P : Int) := by omega
  have v4 : md + (P : Int) - (md + (Q : Int)) = (P : Int) - (Q : Int) := by omega
  have v5 : md + (Q : Int) ≤ md + (P : Int) := by omega
  have v6 : (L : Int) < (P : Int) := by omega
  have v7 : (60000 : Int) < (P : Int) - (Q : Int) := by omega
  go_enter Tryd.func6, Tryd.ntmps6
  go_wp2_with fail
  refine (shown_any _ (HK.out.later HS.out.below)).mono ?_
  rintro e w1 ⟨rfl, hb1⟩
  replace HS := Lib.hid (HS.out.later hb1)
  clear hb1
  go_wp2_with (refine wpList_load_want (by rfl) 25 (.tmp 8) rfl w.heap.size rfl 25 (cellsS s) (0, 0) _ HS.out.own Tryd.underlying25 rfl HI.out ?_)
  refine (HSH.out _).mono ?_
  rintro e w2 ⟨rfl, hb1⟩
  replace HS := Lib.hid (HS.out.later hb1)
  clear hb1
  go_wp2_with (refine wpList_load_want (by rfl) 25 (.tmp 8) rfl w.heap.size rfl 25 (cellsS s) (0, 0) _ HS.out.own Tryd.underlying25 rfl HI.out ?_)
  refine (HRG.out _).mono ?_
  rintro e w3 ⟨rfl, hb1⟩
  replace HS := Lib.hid (HS.out.later hb1)
  clear hb1
  have c13 := HC13.out w3 HS.out
  have f13 : w3.frozen? ⟨w.heap.size, 13, none⟩ = false := frozen_of_row HS.out.own 13
  go_wp2_with fail
  refine (HPL.out _).mono ?_
  rintro e w4 ⟨rfl, rfl⟩
  have HS4 : Hid (StS 25 w.heap.size s1 w (w4.setCell ⟨w.heap.size, 13, none⟩ (.int .i64 (L : Int)))) := Lib.hid ⟨HOWN.out _ HS.out.own, below_setCell9 HS.out.below _ _ _ (Nat.le_refl _), Nat.le_refl _⟩
  have hsz4 : (w4.setCell ⟨w.heap.size, 13, none⟩ (.int .i64 (L : Int))).heap.size = w4.heap.size := set_size _ _ _
  have hlt4 : w.heap.size < w4.heap.size := HS.out.lt
  have HS5 : Hid (StS 25 w.heap.size s1 w ((w4.setCell ⟨w.heap.size, 13, none⟩ (.int .i64 (L : Int))).alloc (.cells #[.string ⟨#[]⟩, .bool false, .string ⟨#[]⟩, .bool false, .int .i64 0] 46))) := Lib.hid (HS4.out.later ((Below.refl _ _).alloc (Nat.le_refl _) _))
  have HY5 : Hid (KyS ((w4.setCell ⟨w.heap.size, 13, none⟩ (.int .i64 (L : Int))).alloc (.cells #[.string ⟨#[]⟩, .bool false, .string ⟨#[]⟩, .bool false, .int .i64 0] 46)) w4.heap.size zeroKy) := Lib.hid (by
    have := heap_alloc_new (w4.setCell ⟨w.heap.size, 13, none⟩ (.int .i64 (L : Int))) (.cells #[.string ⟨#[]⟩, .bool false, .string ⟨#[]⟩, .bool false, .int .i64 0] 46)
    rw [hsz4] at this
    exact this)
  clear HS HS4
  go_wp2_with fail
  refine (HT1.out _ _ HY5.out).mono ?_
  rintro e w6 ⟨rfl, hY6, hg6⟩
  have HS6 := Lib.hid (StS.grown HS5.out hg6 hlt4)
  have HY6 := Lib.hid hY6
  clear hY6 hg6 HS5 HY5 c13 f13 hsz4
  generalize w4.heap.size = a at *
  go_wp2_with (refine wpList_load_want (by rfl) 25 (.tmp 8) rfl w.heap.size rfl 25 (cellsS s1) (0, 0) _ HS6.out.own Tryd.underlying25 rfl HI1.out ?_)
  refine (HB.out _ _ (HK.out.later HS6.out.below) HY6.out).mono ?_
  rintro e w7 ⟨rfl, hb7⟩
  have HS7 := Lib.hid (HS6.out.later hb7)
  have HY7 := Lib.hid (HY6.out.later hb7)
  clear hb7 HS6 HY6 HB
  go_wp2_with fail
  refine wp_region_noPanic ?_
  refine wp_region_held_drew (S := fun W' => W'.cell? ⟨w.heap.size, 12, none⟩ = some (.int .i64 md)) (by kernel_rfl) ?_ (fun hHeld => ?_)
  · exact HCM.out _ HS7.out.drew
  refine k9 0 ?_ (y := ?_) (h := ?_)
  rotate_left 1
  · (intro w' hSw; (try dsimp only at hSw); go_simp; try with_reducible rfl)
  try simp only [Act.put, List.setIfInBounds_toArray, List.set_cons_zero, List.set_cons_succ]
  refine k9 1 ?_ (y := ?_) (h := ?_)
  rotate_left 1
  · (intro w' hSw; (try dsimp only at hSw); go_simp; try with_reducible rfl)
  try simp only [Act.put, List.setIfInBounds_toArray, List.set_cons_zero, List.set_cons_succ]
  refine k9 2 ?_ (y := ?_) (h := ?_)
  rotate_left 1
  · (intro w' hSw; (try dsimp only at hSw); go_simp; try with_reducible rfl)
  try simp only [Act.put, List.setIfInBounds_toArray, List.set_cons_zero, List.set_cons_succ]
  refine wpAnyH_ready (rs := [3]) (by kernel_rfl) (by simp) ?_
  refine AllReadyH.cons (by simp only [q9a, q9s, q9z]; rfl) (fun K hK => ?_) AllReadyH.nil
  go_simp
  refine (HPU.out _).mono ?_
  rintro _ w8 ⟨rfl, rfl⟩
  have HSw8 := Lib.hid HS7.out.drew
  have HYw8 : Hid (KyS w7.drew a (turnKy zeroKy key 0)) := Lib.hid HY7.out
  refine hK.out _ _ ?_ (fun hHeld => ?_)
  · exact HCM.out _ HS7.out.drew
  clear hK K
  try simp only [Act.put, List.setIfInBounds_toArray, List.set_cons_zero, List.set_cons_succ]
  refine k9 4 ?_ (y := ?_) (h := ?_)
  rotate_left 1
  · (intro w' hSw; (try dsimp only at hSw); go_simp; try with_reducible rfl)
  try simp only [Act.put, List.setIfInBounds_toArray, List.set_cons_zero, List.set_cons_succ]
  refine k9 5 ?_ (y := ?_) (h := ?_)
  rotate_left 1
  · (intro w' hSw; (try dsimp only at hSw); go_simp; try with_reducible rfl)
  try simp only [Act.put, List.setIfInBounds_toArray, List.set_cons_zero, List.set_cons_succ]
  refine wpAnyH_done (by kernel_rfl) ?_ _
  refine NoPanic.normal ?_
  clear hHeld
  clear HS7 HY7
  have m8 := HCM.out _ HSw8.out
  go_wp2_with fail
  refine (HR0.out _ _ (HK.out.later HSw8.out.below) HYw8.out).mono ?_
  rintro e w9 ⟨rfl, hb9⟩
  have HS9 := Lib.hid ((HSw8.out.later hb9).later ((Below.refl _ _).alloc (Nat.le_refl _) (.cells (cellsS zeroS) 25)))
  have HY9 := Lib.hid ((HYw8.out.later hb9).later ((Below.refl _ _).alloc (Nat.le_refl _) (.cells (cellsS zeroS) 25)))
  have HO9 := Lib.hid (heap_alloc_new w9 (.cells (cellsS zeroS) 25))
  clear hb9 HSw8 HYw8 HR0 m8
  go_wp2_with (first
      | (refine wpList_store_row rfl 25 (.tmp 19) (.tmp 77) rfl w9.heap.size (cellsS zeroS) rfl rfl 25 #[.int .u32 0, .int .u32 0, .int .u32 0, .int .u32 0, .int .u32 0, .int .u32 0, .int .u32 0, .int .u16 0, .int .u16 0, .int .u16 0, .int .u16 0, .string ⟨#[]⟩, .int .i64 0, .int .i64 0] (heap_alloc_new _ _) HIz.out rfl HEz.out ?_; rw [World.setRow_alloc_new])
      | (refine wpList_load_want (by rfl) 25 (.tmp 19) rfl w9.heap.size rfl 25 (cellsS zeroS) (0, 0) _ HO9.out Tryd.underlying25 rfl HIz.out ?_))
  refine wp_region_noPanic ?_
  refine wp_region_held_drew (S := fun W' => W'.cell? ⟨w.heap.size, 12, none⟩ = some (.int .i64 md)) (by kernel_rfl) ?_ (fun hHeld => ?_)
  · exact HCM.out _ HS9.out.drew
  refine k9 0 ?_ (y := ?_) (h := ?_)
  rotate_left 1
  · (intro w' hSw; (try dsimp only at hSw); go_simp; try with_reducible rfl)
  try simp only [Act.put, List.setIfInBounds_toArray, List.set_cons_zero, List.set_cons_succ]
  refine k9 1 ?_ (y := ?_) (h := ?_)
  rotate_left 1
  · (intro w' hSw; (try dsimp only at hSw); go_simp; try with_reducible rfl)
  try simp only [Act.put, List.setIfInBounds_toArray, List.set_cons_zero, List.set_cons_succ]
  refine k9 2 ?_ (y := ?_) (h := ?_)
  rotate_left 1
  · (intro w' hSw; (try dsimp only at hSw); go_simp; try with_reducible rfl)
  try simp only [Act.put, List.setIfInBounds_toArray, List.set_cons_zero, List.set_cons_succ]
  refine wpAnyH_ready (rs := [3]) (by kernel_rfl) (by simp) ?_
  refine AllReadyH.cons (by simp only [q9a, q9s, q9z]; rfl) (fun K hK => ?_) AllReadyH.nil
  go_simp
  refine (HPN.out _).mono ?_
  rintro _ w10 ⟨rfl, rfl⟩
  have HSw10 := Lib.hid HS9.out.drew
  have HYw10 : Hid (KyS (w9.alloc (.cells (cellsS zeroS) 25)).drew a (turnKy zeroKy key 0)) := Lib.hid HY9.out
  refine hK.out _ _ ?_ (fun hHeld => ?_)
  · exact HCM.out _ HS9.out.drew
  clear hK K
  try simp only [Act.put, List.setIfInBounds_toArray, List.set_cons_zero, List.set_cons_succ]
  refine k9 4 ?_ (y := ?_) (h := ?_)
  rotate_left 1
  · (intro w' hSw; (try dsimp only at hSw); go_simp; try with_reducible rfl)
  try simp only [Act.put, List.setIfInBounds_toArray, List.set_cons_zero, List.set_cons_succ]
  refine k9 5 ?_ (y := ?_) (h := ?_)
  rotate_left 1
  · (intro w' hSw; (try dsimp only at hSw); go_simp; try with_reducible rfl)
  try simp only [Act.put, List.setIfInBounds_toArray, List.set_cons_zero, List.set_cons_succ]
  refine wpAnyH_done (by kernel_rfl) ?_ _
  refine NoPanic.normal ?_
  clear hHeld
  clear HS9 HY9 HO9
  go_wp2_with fail
  refine (HT2.out _ _ HYw10.out).mono ?_
  rintro e w11 ⟨rfl, hY11, hg11⟩
  have HS11 := Lib.hid (StS.grown HSw10.out hg11 hlt4)
  have HY11 := Lib.hid hY11
  clear hY11 hg11 HSw10 HYw10
  go_wp2_with fail
  refine (HR1.out _ _ (HK.out.later HS11.out.below) HY11.out).mono ?_
  rintro e w12 ⟨rfl, hb12⟩
  have HS12 := Lib.hid ((HS11.out.later hb12).later ((Below.refl _ _).alloc (Nat.le_refl _) (.cells (cellsS zeroS) 25)))
  have HO12 := Lib.hid (heap_alloc_new w12 (.cells (cellsS zeroS) 25))
  have m12 := HCM.out _ HS12.out
  have l12 := HCL.out _ HS12.out
  clear hb12 HS11 HY11 HR1
  go_wp2_with (refine wpList_store_row rfl 25 (.tmp 22) (.tmp 103) rfl w12.heap.size (cellsS zeroS) rfl rfl 25 #[.int .u32 0, .int .u32 0, .int .u32 0, .int .u32 0, .int .u32 0, .int .u32 0, .int .u32 0, .int .u16 0, .int .u16 0, .int .u16 0, .int .u16 0, .string ⟨#[]⟩, .int .i64 0, .int .i64 0] (heap_alloc_new _ _) HIz.out rfl HEz.out ?_; rw [World.setRow_alloc_new])
  go_ret
  exact ⟨rfl, HS12.out.below⟩
set_option maxHeartbeats 1000000 in
set_option maxRecDepth 100000 in
theorem walk (key other : ByteArray) (s : St) (hs : InS s) (l u n : Int) (hl : -9223372036854775808 ≤ l ∧ l ≤ 9223372036854775807) (hu : -9223372036854775808 ≤ u ∧ u ≤ 9223372036854775807) (hn : -9223372036854775808 ≤ n ∧ n ≤ 9223372036854775807) (w : World) (hK : Kub w) :
    Calls Tryd.prog 6 #[.string key, .string other, .agg (cellsS s), .int .i64 l, .int .i64 u, .int .i64 n] w fun e w' => e = .returned (.bool true) ∧ Below w.heap.size w w' := by
  have HS := Lib.hid (StS.new 25 s w)
  have HI := Lib.hid (sizeS s)
  have HE := Lib.hid (cellsS_one s)
  have HIz := Lib.hid (sizeS zeroS)
  have HEz := Lib.hid (cellsS_one zeroS)
  have HK := Lib.hid hK
  have HSH := Lib.hid (fun W => short_any s W)
  have HRG := Lib.hid (fun W => right_any9 s W)
  clear hK
  cases hsh : shortB s with
  | false =>
    rw [hsh] at HSH
    clear hsh hs
    go_enter Tryd.func6, Tryd.ntmps6
    go_wp2_with fail
    refine (shown_any _ (HK.out.later HS.out.below)).mono ?_
    rintro e w1 ⟨rfl, hb1⟩
    replace HS := Lib.hid (HS.out.later hb1)
    clear hb1
    go_wp2_with (refine wpList_load_want (by rfl) 25 (.tmp 8) rfl w.heap.size rfl 25 (cellsS s) (0, 0) _ HS.out.own Tryd.underlying25 rfl HI.out ?_)
    refine (HSH.out _).mono ?_
    rintro e w2 ⟨rfl, hb1⟩
    replace HS := Lib.hid (HS.out.later hb1)
    clear hb1
    go_wp2_with fail
    go_ret
    exact ⟨rfl, HS.out.below⟩
  | true =>
  by_cases hk1 : 300 < key.size
  · have hk' : (300 : Int) < (key.size : Int) := by omega
    rw [hsh] at HSH
    clear hsh hs hk1
    go_enter Tryd.func6, Tryd.ntmps6
    go_wp2_with fail
    refine (shown_any _ (HK.out.later HS.out.below)).mono ?_
    rintro e w1 ⟨rfl, hb1⟩
    replace HS := Lib.hid (HS.out.later hb1)
    clear hb1
    go_wp2_with (refine wpList_load_want (by rfl) 25 (.tmp 8) rfl w.heap.size rfl 25 (cellsS s) (0, 0) _ HS.out.own Tryd.underlying25 rfl HI.out ?_)
    refine (HSH.out _).mono ?_
    rintro e w2 ⟨rfl, hb1⟩
    replace HS := Lib.hid (HS.out.later hb1)
    clear hb1
    go_wp2_with fail
    go_ret
    exact ⟨rfl, HS.out.below⟩
  by_cases hk2 : 300 < other.size
  · have hk' : (300 : Int) < (other.size : Int) := by omega
    have hk'' : ¬ (300 : Int) < (key.size : Int) := by omega
    rw [hsh] at HSH
    clear hsh hs hk1 hk2
    go_enter Tryd.func6, Tryd.ntmps6
    go_wp2_with fail
    refine (shown_any _ (HK.out.later HS.out.below)).mono ?_
    rintro e w1 ⟨rfl, hb1⟩
    replace HS := Lib.hid (HS.out.later hb1)
    clear hb1
    go_wp2_with (refine wpList_load_want (by rfl) 25 (.tmp 8) rfl w.heap.size rfl 25 (cellsS s) (0, 0) _ HS.out.own Tryd.underlying25 rfl HI.out ?_)
    refine (HSH.out _).mono ?_
    rintro e w2 ⟨rfl, hb1⟩
    replace HS := Lib.hid (HS.out.later hb1)
    clear hb1
    go_wp2_with fail
    go_ret
    exact ⟨rfl, HS.out.below⟩
  cases hr : rightS s with
  | false =>
    have hk' : decide ((300 : Int) < (other.size : Int)) = false := decide_eq_false (by omega)
    have hk'' : decide ((300 : Int) < (key.size : Int)) = false := decide_eq_false (by omega)
    rw [hsh] at HSH
    rw [hr] at HRG
    clear hsh hs hk1 hk2 hr
    go_enter Tryd.func6, Tryd.ntmps6
    go_wp2_with fail
    refine (shown_any _ (HK.out.later HS.out.below)).mono ?_
    rintro e w1 ⟨rfl, hb1⟩
    replace HS := Lib.hid (HS.out.later hb1)
    clear hb1
    go_wp2_with (refine wpList_load_want (by rfl) 25 (.tmp 8) rfl w.heap.size rfl 25 (cellsS s) (0, 0) _ HS.out.own Tryd.underlying25 rfl HI.out ?_)
    refine (HSH.out _).mono ?_
    rintro e w2 ⟨rfl, hb1⟩
    replace HS := Lib.hid (HS.out.later hb1)
    clear hb1
    go_wp2_with (refine wpList_load_want (by rfl) 25 (.tmp 8) rfl w.heap.size rfl 25 (cellsS s) (0, 0) _ HS.out.own Tryd.underlying25 rfl HI.out ?_)
    refine (HRG.out _).mono ?_
    rintro e w3 ⟨rfl, hb1⟩
    replace HS := Lib.hid (HS.out.later hb1)
    clear hb1
    go_wp2_with fail
    go_ret
    exact ⟨rfl, HS.out.below⟩
  | true =>
  have hp : (s.peer.size : Int) ≤ 300 := of_decide_eq_true hsh
  have hR := right_of hr
  have bL : pickN l 60001 < 60001 := Nat.mod_lt _ (by decide)
  have hwf : WfS { s with life := (pickN l 60001 : Nat) } := ⟨hs.wf.a0, hs.wf.a1, hs.wf.a2, hs.wf.a3, hs.wf.a4, hs.wf.a5, hs.wf.a6, hs.wf.b0, hs.wf.b1, hs.wf.b2, hs.wf.b3⟩
  have hr1 : rightS { s with life := (pickN l 60001 : Nat) } = true := right_mk ⟨hR.a0, hR.a1, hR.b0, hR.b1, hR.b2, hR.b3, hR.peer, hR.made, by dsimp only; omega⟩
  have e1 := read_back hwf hr1 key
  by_cases hq : pickN u 60001 ≤ pickN n 61000
  · rcases lives_old (k := turnKy (turnKy zeroKy key 0) other (s.made + (pickN u 60001 : Nat))) (s := { s with life := (pickN l 60001 : Nat) }) (p := pickN n 61000) (L := pickN l 60001) (q := pickN u 60001) rfl rfl rfl hq e1 (read_other hwf hr1 key other) rfl with ⟨h1, h2⟩ | ⟨h1, h2⟩
    · exact main_turned_sum key other s hs l u n hl hu hn (by omega) (by omega) hp hsh hr hq h2 h1 w HK.out
    · by_cases hL : pickN l 60001 < pickN n 61000
      · exact main_turned_stale key other s hs l u n hl hu hn (by omega) (by omega) hp hsh hr hq hL (h1 hL) w HK.out
      · exact main_turned_good key other s hs l u n hl hu hn (by omega) (by omega) hp hsh hr hq (by omega) (h2 (by omega)) w HK.out
  · have h := lives_new (k := turnKy zeroKy key 0) (s := { s with life := (pickN l 60001 : Nat) }) (p := pickN n 61000) (L := pickN l 60001) rfl e1 rfl
    by_cases hL : pickN l 60001 < pickN n 61000
    · exact main_kept_stale key other s hs l u n hl hu hn (by omega) (by omega) hp hsh hr (by omega) hL (h.1 hL) w HK.out
    · exact main_kept_good key other s hs l u n hl hu hn (by omega) (by omega) hp hsh hr (by omega) (by omega) (h.2 (by omega)) w HK.out

set_option maxRecDepth 100000 in
theorem lifted (os : Os) (started : os.Started) (H : Type) (enc : TypeId × Value → H) :
    ReturnsInHanded {} Tryd.checked os 6 .any (fun w args => (Rows.cookieLivesSpec.pre enc Tryd.prog Tryd.f6 [] false w args ∧ laidMetH Tryd.prog laidK w) ∧ sizedMet enc Tryd.prog Tryd.f6 (OpenSpec.ofChange Rows.cookieLivesSpec) false w args) (Rows.cookieLivesSpec.post enc Tryd.prog Tryd.f6 false true false false) := by
  refine returnsInHanded_of_change_and (C := Tryd.checked) (X := fun w _ => laidMetH Tryd.prog laidK w) (fun _ _ _ hh h => h.of_heap hh) own started (by kernel_rfl) Tryd.func6
    (ChangeSpec.witness_shaped (enc := enc) (C := Tryd.checked) (os := os) (X := fun w _ => laidMetH Tryd.prog laidK w) false (World.doorLaid Tryd.prog 14 os) #[.string ⟨#[]⟩, .string ⟨#[]⟩, .agg #[.int .u32 0, .int .u32 0, .int .u32 0, .int .u32 0, .int .u32 0, .int .u32 0, .int .u32 0, .int .u16 0, .int .u16 0, .int .u16 0, .int .u16 0, .string ⟨#[]⟩, .int .i64 0, .int .i64 0], .int .i64 0, .int .i64 0, .int .i64 0] 8 rfl (World.shaped_of_RefB (by kernel_rfl) (by kernel_rfl)) (by kernel_rfl) (by kernel_rfl) (by kernel_rfl) (door_met os _)) ?_
  intro W base args ds gs before hval0 hW _ hreach hL _
  have hval : ∀ (j : Nat) t v, Tryd.f6.params[j]? = some t → args[j]? = some v → Value.okWide Tryd.prog W .any base t v := hval0
  obtain ⟨p, q, hA0, _, _, _, _⟩ := id hW
  have hA : DataW.TrodAll enc Tryd.prog W 0 (fun _ => true) true Tryd.f6.params.toList args.toList ds p := hA0
  rw [Tryd.params6] at hA hval
  obtain ⟨v0, vs0, d0, ds0, p0, q0, hargs, rfl, rfl, h0, r0⟩ := trodAll_cons hA
  obtain ⟨v1, vs1, d1, ds1, p1, q1, rfl, rfl, rfl, h1, r1⟩ := trodAll_cons r0
  obtain ⟨v2, vs2, d2, ds2, p2, q2, rfl, rfl, rfl, h2, r2⟩ := trodAll_cons r1
  obtain ⟨v3, vs3, d3, ds3, p3, q3, rfl, rfl, rfl, h3, r3⟩ := trodAll_cons r2
  obtain ⟨v4, vs4, d4, ds4, p4, q4, rfl, rfl, rfl, h4, r4⟩ := trodAll_cons r3
  obtain ⟨v5, vs5, d5, ds5, p5, q5, rfl, rfl, rfl, h5, r5⟩ := trodAll_cons r4
  obtain ⟨rfl, rfl, rfl⟩ := trodAll_nil r5
  obtain rfl : args = #[v0, v1, v2, v3, v4, v5] := by cases args; simp_all
  obtain ⟨a0, rfl, rfl, rfl, w0⟩ := Go.ChangeMaps.open_string Tryd.underlying9 (hval 0 9 v0 rfl rfl) h0
  obtain ⟨a1, rfl, rfl, rfl, w1⟩ := Go.ChangeMaps.open_string Tryd.underlying9 (hval 1 9 v1 rfl rfl) h1
  obtain ⟨s2, rfl, i2⟩ := state_in (hval 2 25 v2 rfl rfl) h2
  obtain ⟨a3, rfl, rfl, rfl, w3⟩ := open_int Tryd.underlying3 (hval 3 3 v3 rfl rfl) h3
  obtain ⟨a4, rfl, rfl, rfl, w4⟩ := open_int Tryd.underlying3 (hval 4 3 v4 rfl rfl) h4
  obtain ⟨a5, rfl, rfl, rfl, w5⟩ := open_int Tryd.underlying3 (hval 5 3 v5 rfl rfl) h5
  refine (walk a0 a1 s2 i2 a3 a4 a5 (bounds_i64 w3) (bounds_i64 w4) (bounds_i64 w5) W (kub_of_laid hL)).mono fun e W' ⟨he, hg⟩ => ?_
  subst he
  exact ⟨_, rfl, law_post laidOut Tryd.underlying4 (by kernel_rfl) (by kernel_rfl) rfl hW (by simp [Rows.cookieLivesSpec]) hg⟩

theorem row_proved : Rows.CookieLivesSaid :=
  OpenClaim.holds_of_wide 6 Tryd.f6 rfl rfl rfl rfl rfl rfl rfl ⟨rfl, rfl, rfl, rfl, rfl⟩ rfl rfl rfl rfl rfl (by kernel_rfl) Tryd.func6 (by kernel_rfl)
    (of_decide_eq_true (by kernel_rfl)) (by unfold Func.isWrapper; first | (rw [if_pos (by decide +kernel)]; kernel_rfl) | (rw [if_neg (by decide +kernel)]; exact ⟨rfl, rfl⟩))
    (fun os started H enc _ => lifted os started H enc)

theorem proved : Rows.CookieLivesCardSaid :=
  Claim7.holds_tied_plain_at .later [] [.data] true _ _
    row_proved (fun _ h => by cases h) (by kernel_rfl) (fun _ h => by cases h) cookieLives_row_tie rfl ⟨rfl, rfl⟩ (by kernel_rfl) rfl
    (fun f fn hf hfn => by
      obtain rfl : f = 6 := Option.some.inj ((show Tryd.prog.funcNamed "towline/towlinelaw9.CookieLives" = some 6 by kernel_rfl).symm.trans hf) |>.symm
      obtain rfl : fn = Tryd.f6 := (Option.some.inj (Tryd.func6.symm.trans hfn)).symm
      exact ⟨by kernel_rfl, fun j t ht => by
        rw [Tryd.params6] at ht
        have hm : t ∈ [3, 9, 25] := by have := Array.mem_of_getElem? ht; simp at this; simp; first | omega | (rcases this with h | h <;> simp [h]) | (rcases this with h | h | h <;> simp [h]) | (rcases this with h | h | h | h <;> simp [h])
        have hall : ([3, 9, 25].all fun u => !Tryd.prog.wantsStandIn u) = true := by kernel_rfl
        exact (show Tryd.prog.wantsStandIn t = false by simpa using List.all_eq_true.1 hall t hm)⟩)
    (by kernel_rfl)
#print axioms proved
end Go.Proofs.YthfiebdpoleeeaaDoor.cookieLives
