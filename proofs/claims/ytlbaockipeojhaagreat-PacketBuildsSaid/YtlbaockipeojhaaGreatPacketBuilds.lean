/-
  Statement PacketBuilds (chapter 8): what is built of a packet, and whether it is right, is as the chapter says.
-/
import Derived.Test.YtlbaockipeojhaaGreatLift
import Derived.Test.YtlbaockipeojhaaGreatPkShown
import Derived.Test.YtlbaockipeojhaaGreatAll
import Derived.Test.YtlbaockipeojhaaGreatPkArgs
import Derived.Test.YtlbaockipeojhaaGreatR8
import Derived.BigQuiet
namespace Go.Proofs.YtlbaockipeojhaaGreat.packetBuilds
open Go.ChangeShapes Go.WideShapes Go.ChangeAt Go.RowKit
set_option linter.unusedVariables false

set_option linter.unusedSimpArgs false
set_option maxRecDepth 100000
theorem fit_of {l : List Cv} {L : List Ck} (h : ckV l = L) (hL : ∀ c ∈ L, FitC c) : ∀ x ∈ l, FitC x.c := fun x hx => hL _ (by rw [← h]; exact List.mem_map_of_mem hx)
theorem len_ok {l : List Cv} {L : List Ck} (h : ckV l = L) (hL : L.length ≤ 100000) : l.length ≤ 100000 := by rw [← h, ckV_length] at hL; exact hL
set_option maxHeartbeats 16000000 in
theorem walk (f t g : Nat) (V : Value) (l : List Cv) (w : World) (hi : InP w f t g V l) (kd : Int) : Calls Tryz.prog 3 #[.agg (cellsP f t g V), .int .i64 kd] w fun e w' => e = .returned (.bool true) ∧ Below w.heap.size w w' := by
  have HT := Lib.hid (hdS_new f t g V w)
  have HSM := Lib.hid (fun W hb => psmall_any l hi.len V W (hi.row.below hb) (hi.all.below hb))
  have HGV := Lib.hid (fun h => smallP_gives h hi.all)
  have HK := Lib.hid (rk_of_in hi.row hi.all)
  have HIN := Lib.hid (And.intro hi.f (And.intro hi.t hi.g))
  obtain ⟨A, cap, rfl, hcap, hmax, hcells⟩ := hi.row
  clear hcells hi
  dsimp only [cellsP] at *
  by_cases hs : smallP l = true
  case neg =>
    rw [Bool.not_eq_true] at hs
    rw [hs] at HSM
    clear hs
    go_enter Tryz.func3, Tryz.ntmps3
    go_wp2_with fail
    refine (shown_any _).mono ?_
    rintro _ w1 ⟨rfl, hb1⟩
    replace HT := Lib.hid (HT.out.later hb1)
    have c3 := HT.out.c3
    clear hb1
    go_wp2_with fail
    refine (HSM.out _ HT.out.below).mono ?_
    rintro _ w2 ⟨rfl, hb2⟩
    have HB2 := Lib.hid (HT.out.below.trans (hb2.mono HT.out.below.size))
    clear hb2 c3
    go_wp2_with fail
    go_ret
    exact ⟨rfl, HB2.out⟩
  rw [hs] at HSM
  obtain ⟨h60, hfit⟩ := HGV.out hs
  have HFIT := Lib.hid (show ∀ c ∈ ckV l, FitC c from fun c hc => by obtain ⟨y, hy, e⟩ := List.mem_map.1 hc; rw [← e]; exact hfit y hy)
  have HLEN := Lib.hid (show (ckV l).length ≤ 100000 from by rw [ckV_length]; omega)
  have HBU := Lib.hid (fun W hb => pbuild_any f t g HIN.out.1 HIN.out.2.1 HIN.out.2.2 (.slice A l.length cap) l (by omega) hfit W (HK.out.below hb))
  have HRT := Lib.hid (fun W hb => pright_any f t g HIN.out.1 HIN.out.2.1 HIN.out.2.2 (.slice A l.length cap) l (by omega) hfit W (HK.out.below hb))
  have HRF := Lib.hid (show ∀ W, Below w.heap.size w W → Calls Tryz.prog 9 #[.agg (cellsP f t g (.slice A l.length cap))] W fun e w' => ∃ A' k' l', e = .returned (.agg (cellsP f t g (.slice A' l'.length k'))) ∧ Rk w' (.slice A' l'.length k') l' ∧ ckV l' = ckV l ∧ Below W.heap.size W w' from fun W hW => by
    refine (ref_any f t g (.slice A l.length cap) l (by omega) (fun x hx => (hfit x hx).il) W (HK.out.below hW)).mono ?_
    rintro _ w' ⟨V', l', rfl, hk, hck, hb⟩
    obtain ⟨A', k', rfl, -⟩ := hk.slice
    exact ⟨A', k', l', rfl, hk, hck, hb⟩)
  have HB8 := Lib.hid (show ∀ (W : World) (V' : Value) (l' : List Cv), Rk W V' l' → ckV l' = ckV l → Calls Tryz.prog 8 #[.agg (cellsP f t g V')] W fun e w' => e = .returned (.tuple #[.string (buildP ⟨f, t, g, ckV l⟩).1, .int .i64 ((buildP ⟨f, t, g, ckV l⟩).2 : Nat)]) ∧ Below W.heap.size W w' from fun W V' l' hk hc => by
    have := rbuild8_any f t g HIN.out.1 HIN.out.2.1 HIN.out.2.2 V' l' (len_ok hc HLEN.out) (fit_of hc HFIT.out) W hk
    rw [hc] at this
    exact this)
  have HR8 := Lib.hid (show ∀ (W : World) (V' : Value) (l' : List Cv), Rk W V' l' → ckV l' = ckV l → Calls Tryz.prog 11 #[.agg (cellsP f t g V')] W fun e w' => e = .returned (.bool (decide ((buildP ⟨f, t, g, ckV l⟩).2 = 0))) ∧ Below W.heap.size W w' from fun W V' l' hk hc => by
    have := rright8_any f t g V' l' (len_ok hc HLEN.out) (fit_of hc HFIT.out) W hk
    rw [hc] at this
    exact this)
  have HA1 := Lib.hid (fun W => alone_any kd W)
  have HA2 := Lib.hid (fun W => ralone_any kd W)
  generalize aloneB kd = ab at *
  generalize decide ((buildP ⟨f, t, g, ckV l⟩).2 = 0) = rb at *
  generalize buildP ⟨f, t, g, ckV l⟩ = R at *
  obtain ⟨bs, e0⟩ := R
  dsimp only at HBU HB8
  clear hfit h60 HGV hs HIN HK HFIT HLEN
  dsimp only [cellsP] at *
  go_enter Tryz.func3, Tryz.ntmps3
  go_wp2_with fail
  refine (shown_any _).mono ?_
  rintro _ w1 ⟨rfl, hb1⟩
  replace HT := Lib.hid (HT.out.later hb1)
  have c3 := HT.out.c3
  clear hb1
  go_wp2_with fail
  refine (HSM.out _ HT.out.below).mono ?_
  rintro _ w2 ⟨rfl, hb2⟩
  replace HT := Lib.hid (HT.out.later hb2)
  clear hb2 c3 HSM
  have d0 := HT.out.c0
  have d1 := HT.out.c1
  have d2 := HT.out.c2
  have d3 := HT.out.c3
  go_wp2_with fail
  refine (HBU.out _ HT.out.below).mono ?_
  rintro _ w3 ⟨rfl, hb3⟩
  replace HT := Lib.hid (HT.out.later hb3)
  clear hb3 d0 d1 d2 d3 HBU
  have d0 := HT.out.c0
  have d1 := HT.out.c1
  have d2 := HT.out.c2
  have d3 := HT.out.c3
  go_wp2_with fail
  refine (HRF.out _ HT.out.below).mono ?_
  rintro _ w4 ⟨A1, k1, l1, rfl, hk1, hc1, hb4⟩
  replace HT := Lib.hid (HT.out.later hb4)
  have HB8' := Lib.hid (HB8.out _ _ _ hk1 hc1)
  clear hb4 d0 d1 d2 d3 HB8 hk1 hc1
  go_wp2_with fail
  refine (HB8'.out).mono ?_
  rintro _ w5 ⟨rfl, hb5⟩
  replace HT := Lib.hid (HT.out.later hb5)
  clear hb5 HB8'
  go_wp2_with fail
  refine wp_region_noPanic ?_
  refine wp_region_held_drew (S := (HdS w.heap.size f t g (.slice A l.length cap) w)) (by kernel_rfl) ?_ (fun hHeld => ?_)
  · exact HT.out.drew
  refine wpAnyH_take (i := 0) (v := ?_) (by simp only [q9a, q9z]; rfl) (by kernel_rfl) (by kernel_rfl) (by kernel_rfl) (fun _ _ _ h => h) (Or.inl ⟨by rfl, ?_⟩) (by assumption) ?_
  rotate_left 1
  · (intro w' hSw; have c0 := hSw.c0; have c1 := hSw.c1; have c2 := hSw.c2; have c3 := hSw.c3; clear hSw; go_simp; try with_reducible rfl)
  try simp only [Act.put, p9a, p9z, p9s]
  refine wpAnyH_take (i := 1) (v := ?_) (by simp only [q9a, q9s, q9z]; rfl) (by kernel_rfl) (by kernel_rfl) (by kernel_rfl) (fun _ _ _ h => h) (Or.inl ⟨by rfl, ?_⟩) (by assumption) ?_
  rotate_left 1
  · (intro w' hSw; have c0 := hSw.c0; have c1 := hSw.c1; have c2 := hSw.c2; have c3 := hSw.c3; clear hSw; go_simp; try with_reducible rfl)
  try simp only [Act.put, p9a, p9z, p9s]
  refine wpAnyH_take (i := 2) (v := ?_) (by simp only [q9a, q9s, q9z]; rfl) (by kernel_rfl) (by kernel_rfl) (by kernel_rfl) (fun _ _ _ h => h) (Or.inl ⟨by rfl, ?_⟩) (by assumption) ?_
  rotate_left 1
  · (intro w' hSw; have c0 := hSw.c0; have c1 := hSw.c1; have c2 := hSw.c2; have c3 := hSw.c3; clear hSw; go_simp; try with_reducible rfl)
  try simp only [Act.put, p9a, p9z, p9s]
  refine wpAnyH_take (i := 3) (v := ?_) (by simp only [q9a, q9s, q9z]; rfl) (by kernel_rfl) (by kernel_rfl) (by kernel_rfl) (fun _ _ _ h => h) (Or.inl ⟨by rfl, ?_⟩) (by assumption) ?_
  rotate_left 1
  · (intro w' hSw; have c0 := hSw.c0; have c1 := hSw.c1; have c2 := hSw.c2; have c3 := hSw.c3; clear hSw; go_simp; try with_reducible rfl)
  try simp only [Act.put, p9a, p9z, p9s]
  refine wpAnyH_take (i := 4) (v := ?_) (by simp only [q9a, q9s, q9z]; rfl) (by kernel_rfl) (by kernel_rfl) (by kernel_rfl) (fun _ _ _ h => h) (Or.inl ⟨by rfl, ?_⟩) (by assumption) ?_
  rotate_left 1
  · (intro w' hSw; have c0 := hSw.c0; have c1 := hSw.c1; have c2 := hSw.c2; have c3 := hSw.c3; clear hSw; go_simp; try with_reducible rfl)
  try simp only [Act.put, p9a, p9z, p9s]
  refine wpAnyH_take (i := 5) (v := ?_) (by simp only [q9a, q9s, q9z]; rfl) (by kernel_rfl) (by kernel_rfl) (by kernel_rfl) (fun _ _ _ h => h) (Or.inl ⟨by rfl, ?_⟩) (by assumption) ?_
  rotate_left 1
  · (intro w' hSw; have c0 := hSw.c0; have c1 := hSw.c1; have c2 := hSw.c2; have c3 := hSw.c3; clear hSw; go_simp; try with_reducible rfl)
  try simp only [Act.put, p9a, p9z, p9s]
  refine wpAnyH_take (i := 6) (v := ?_) (by simp only [q9a, q9s, q9z]; rfl) (by kernel_rfl) (by kernel_rfl) (by kernel_rfl) (fun _ _ _ h => h) (Or.inl ⟨by rfl, ?_⟩) (by assumption) ?_
  rotate_left 1
  · (intro w' hSw; have c0 := hSw.c0; have c1 := hSw.c1; have c2 := hSw.c2; have c3 := hSw.c3; clear hSw; go_simp; try with_reducible rfl)
  try simp only [Act.put, p9a, p9z, p9s]
  refine wpAnyH_take (i := 7) (v := ?_) (by simp only [q9a, q9s, q9z]; rfl) (by kernel_rfl) (by kernel_rfl) (by kernel_rfl) (fun _ _ _ h => h) (Or.inl ⟨by rfl, ?_⟩) (by assumption) ?_
  rotate_left 1
  · (intro w' hSw; have c0 := hSw.c0; have c1 := hSw.c1; have c2 := hSw.c2; have c3 := hSw.c3; clear hSw; go_simp; try with_reducible rfl)
  try simp only [Act.put, p9a, p9z, p9s]
  refine wpAnyH_take (i := 8) (v := ?_) (by simp only [q9a, q9s, q9z]; rfl) (by kernel_rfl) (by kernel_rfl) (by kernel_rfl) (fun _ _ _ h => h) (Or.inl ⟨by rfl, ?_⟩) (by assumption) ?_
  rotate_left 1
  · (intro w' hSw; have c0 := hSw.c0; have c1 := hSw.c1; have c2 := hSw.c2; have c3 := hSw.c3; clear hSw; go_simp; try with_reducible rfl)
  try simp only [Act.put, p9a, p9z, p9s]
  refine wpAnyH_take (i := 9) (v := ?_) (by simp only [q9a, q9s, q9z]; rfl) (by kernel_rfl) (by kernel_rfl) (by kernel_rfl) (fun _ _ _ h => h) (Or.inl ⟨by rfl, ?_⟩) (by assumption) ?_
  rotate_left 1
  · (intro w' hSw; have c0 := hSw.c0; have c1 := hSw.c1; have c2 := hSw.c2; have c3 := hSw.c3; clear hSw; go_simp; try with_reducible rfl)
  try simp only [Act.put, p9a, p9z, p9s]
  refine wpAnyH_take (i := 11) (v := ?_) (by simp only [q9a, q9s, q9z]; rfl) (by kernel_rfl) (by kernel_rfl) (by kernel_rfl) (fun _ _ _ h => h) (Or.inl ⟨by rfl, ?_⟩) (by assumption) ?_
  rotate_left 1
  · (intro w' hSw; have c0 := hSw.c0; have c1 := hSw.c1; have c2 := hSw.c2; have c3 := hSw.c3; clear hSw; go_simp; try with_reducible rfl)
  try simp only [Act.put, p9a, p9z, p9s]
  refine wpAnyH_ready (rs := [10]) (by kernel_rfl) (by simp) ?_
  refine AllReadyH.cons (by simp only [q9a, q9s, q9z]; rfl) (fun K hK => ?_) AllReadyH.nil
  go_simp
  refine (HRT.out _ hHeld.below).mono ?_
  rintro _ wA ⟨rfl, hbA⟩
  have hS := hHeld.later hbA
  clear hHeld hbA
  go_wp2_with fail
  refine hK.out _ _ ?_ (fun hHeld => ?_)
  · exact hS
  clear hK K
  try simp only [Act.put, p9a, p9z, p9s]
  refine wpAnyH_ready (rs := [12]) (by kernel_rfl) (by simp) ?_
  refine AllReadyH.cons (by simp only [q9a, q9s, q9z]; rfl) (fun K hK => ?_) AllReadyH.nil
  go_simp
  refine (HRF.out _ hHeld.below).mono ?_
  rintro _ wB ⟨AB, kB, lB, rfl, hkB, hcB, hbB⟩
  have hS := hHeld.later hbB
  clear hHeld hbB
  go_wp2_with fail
  refine hK.out _ _ ?_ (fun hHeld => ?_)
  · exact hS
  clear hK K
  try simp only [Act.put, p9a, p9z, p9s]
  refine wpAnyH_ready (rs := [13]) (by kernel_rfl) (by simp) ?_
  refine AllReadyH.cons (by simp only [q9a, q9s, q9z]; rfl) (fun K hK => ?_) AllReadyH.nil
  go_simp
  refine (HR8.out _ _ _ hkB hcB).mono ?_
  rintro _ wC ⟨rfl, hbC⟩
  have hS := hHeld.later hbC
  clear hHeld hbC hkB hcB
  go_wp2_with fail
  refine hK.out _ _ ?_ (fun hHeld => ?_)
  · exact hS
  clear hK K
  try simp only [Act.put, p9a, p9z, p9s]
  refine wpAnyH_take (i := 14) (v := ?_) (by simp only [q9a, q9s, q9z]; rfl) (by kernel_rfl) (by kernel_rfl) (by kernel_rfl) (fun _ _ _ h => h) (Or.inl ⟨by rfl, ?_⟩) (by assumption) ?_
  rotate_left 1
  · (intro w' hSw; have c0 := hSw.c0; have c1 := hSw.c1; have c2 := hSw.c2; have c3 := hSw.c3; clear hSw; go_simp; try with_reducible rfl)
  try simp only [Act.put, p9a, p9z, p9s]
  refine wpAnyH_take (i := 15) (v := ?_) (by simp only [q9a, q9s, q9z]; rfl) (by kernel_rfl) (by kernel_rfl) (by kernel_rfl) (fun _ _ _ h => h) (Or.inl ⟨by rfl, ?_⟩) (by assumption) ?_
  rotate_left 1
  · (intro w' hSw; have c0 := hSw.c0; have c1 := hSw.c1; have c2 := hSw.c2; have c3 := hSw.c3; clear hSw; go_simp; try with_reducible rfl)
  try simp only [Act.put, p9a, p9z, p9s]
  refine wpAnyH_take (i := 16) (v := ?_) (by simp only [q9a, q9s, q9z]; rfl) (by kernel_rfl) (by kernel_rfl) (by kernel_rfl) (fun _ _ _ h => h) (Or.inl ⟨by rfl, ?_⟩) (by assumption) ?_
  rotate_left 1
  · (intro w' hSw; have c0 := hSw.c0; have c1 := hSw.c1; have c2 := hSw.c2; have c3 := hSw.c3; clear hSw; go_simp; try with_reducible rfl)
  try simp only [Act.put, p9a, p9z, p9s]
  refine wpAnyH_take (i := 17) (v := ?_) (by simp only [q9a, q9s, q9z]; rfl) (by kernel_rfl) (by kernel_rfl) (by kernel_rfl) (fun _ _ _ h => h) (Or.inl ⟨by rfl, ?_⟩) (by assumption) ?_
  rotate_left 1
  · (intro w' hSw; have c0 := hSw.c0; have c1 := hSw.c1; have c2 := hSw.c2; have c3 := hSw.c3; clear hSw; go_simp; try with_reducible rfl)
  try simp only [Act.put, p9a, p9z, p9s]
  refine wpAnyH_take (i := 19) (v := ?_) (by simp only [q9a, q9s, q9z]; rfl) (by kernel_rfl) (by kernel_rfl) (by kernel_rfl) (fun _ _ _ h => h) (Or.inl ⟨by rfl, ?_⟩) (by assumption) ?_
  rotate_left 1
  · (intro w' hSw; have c0 := hSw.c0; have c1 := hSw.c1; have c2 := hSw.c2; have c3 := hSw.c3; clear hSw; go_simp; try with_reducible rfl)
  try simp only [Act.put, p9a, p9z, p9s]
  refine wpAnyH_ready (rs := [18]) (by kernel_rfl) (by simp) ?_
  refine AllReadyH.cons (by simp only [q9a, q9s, q9z]; rfl) (fun K hK => ?_) AllReadyH.nil
  go_simp
  refine (HA1.out _).mono ?_
  rintro _ wD ⟨rfl, rfl⟩
  have hS := hHeld
  clear hHeld
  go_wp2_with fail
  refine hK.out _ _ ?_ (fun hHeld => ?_)
  · exact hS
  clear hK K
  try simp only [Act.put, p9a, p9z, p9s]
  refine wpAnyH_ready (rs := [20]) (by kernel_rfl) (by simp) ?_
  refine AllReadyH.cons (by simp only [q9a, q9s, q9z]; rfl) (fun K hK => ?_) AllReadyH.nil
  go_simp
  refine (HA2.out _).mono ?_
  rintro _ wE ⟨rfl, rfl⟩
  have hS := hHeld
  clear hHeld
  go_wp2_with fail
  refine hK.out _ _ ?_ (fun hHeld => ?_)
  · exact hS
  clear hK K
  try simp only [Act.put, p9a, p9z, p9s]
  refine wpAnyH_take (i := 21) (v := ?_) (by simp only [q9a, q9s, q9z]; rfl) (by kernel_rfl) (by kernel_rfl) (by kernel_rfl) (fun _ _ _ h => h) (Or.inl ⟨by rfl, ?_⟩) (by assumption) ?_
  rotate_left 1
  · (intro w' hSw; have c0 := hSw.c0; have c1 := hSw.c1; have c2 := hSw.c2; have c3 := hSw.c3; clear hSw; go_simp; try with_reducible rfl)
  try simp only [Act.put, p9a, p9z, p9s]
  refine wpAnyH_take (i := 22) (v := ?_) (by simp only [q9a, q9s, q9z]; rfl) (by kernel_rfl) (by kernel_rfl) (by kernel_rfl) (fun _ _ _ h => h) (Or.inl ⟨by rfl, ?_⟩) (by assumption) ?_
  rotate_left 1
  · (intro w' hSw; have c0 := hSw.c0; have c1 := hSw.c1; have c2 := hSw.c2; have c3 := hSw.c3; clear hSw; go_simp; try with_reducible rfl)
  try simp only [Act.put, p9a, p9z, p9s]
  refine wpAnyH_take (i := 23) (v := ?_) (by simp only [q9a, q9s, q9z]; rfl) (by kernel_rfl) (by kernel_rfl) (by kernel_rfl) (fun _ _ _ h => h) (Or.inl ⟨by rfl, ?_⟩) (by assumption) ?_
  rotate_left 1
  · (intro w' hSw; have c0 := hSw.c0; have c1 := hSw.c1; have c2 := hSw.c2; have c3 := hSw.c3; clear hSw; go_simp; try with_reducible rfl)
  try simp only [Act.put, p9a, p9z, p9s]
  refine wpAnyH_done (by kernel_rfl) ?_ _
  refine NoPanic.normal ?_
  have HE := Lib.hid hHeld.below
  clear hHeld
  go_wp2_with fail
  go_ret
  exact ⟨by simp, HE.out⟩

set_option maxRecDepth 100000 in
theorem lifted (os : Os) (started : os.Started) (H : Type) (enc : TypeId × Value → H) :
    ReturnsInHanded {} Tryz.checked os 3 .any (Rows.packetBuildsSpec.pre6 enc Tryz.prog Tryz.f3 Rows.packetBuildsRow.domain false) (Rows.packetBuildsSpec.post enc Tryz.prog Tryz.f3 false true false false) := by
  refine returnsInHanded_of_change_sized (C := Tryz.checked) own started (by kernel_rfl) Tryz.func3
    (ChangeSpec.witness6 (enc := enc) (C := Tryz.checked) false ⟨#[], #[.agg #[.int .u16 0, .int .u16 0, .int .u32 0, .slice none 0 0], .int .i64 0], []⟩ 8 (by kernel_rfl) (by kernel_rfl) (by kernel_rfl) (by kernel_rfl)) ?_
  intro W base args ds gs before hval0 hW _ hreach _
  have hval : ∀ (j : Nat) t v, Tryz.f3.params[j]? = some t → args[j]? = some v → Value.okWide Tryz.prog W .any base t v := hval0
  obtain ⟨p, q, hA0, _, _, _, _⟩ := id hW
  have hA : DataW.TrodAll enc Tryz.prog W 0 (fun _ => true) true Tryz.f3.params.toList args.toList ds p := hA0
  rw [Tryz.params3] at hA hval
  obtain ⟨v0, vs0, d0, ds0, p0, q0, hargs, rfl, rfl, h0, r0⟩ := trodAll_cons hA
  obtain ⟨v1, vs1, d1, ds1, p1, q1, rfl, rfl, rfl, h1, r1⟩ := trodAll_cons r0
  obtain ⟨rfl, rfl, rfl⟩ := trodAll_nil r1
  obtain rfl : args = #[v0, v1] := by cases args; simp_all
  obtain ⟨f0, t0, g0, u0, l0, rfl, n0⟩ := packet_in (hval 0 26 v0 rfl rfl) h0
  obtain ⟨a1, rfl, rfl, rfl, w1⟩ := open_int Tryz.underlying3 (hval 1 3 v1 rfl rfl) h1
  refine (walk f0 t0 g0 u0 l0 W n0 a1).mono fun e W' ⟨he, hg⟩ => ?_
  subst he
  exact ⟨_, rfl, law_post laidOut Tryz.underlying4 (by kernel_rfl) (by kernel_rfl) rfl hW (by simp [Rows.packetBuildsSpec]) hg⟩

theorem proved : Rows.PacketBuildsSaid :=
  OpenClaim.holds_of_wide 3 Tryz.f3 rfl rfl rfl rfl rfl rfl rfl ⟨rfl, rfl, rfl, rfl, rfl⟩ rfl rfl rfl rfl rfl (by kernel_rfl) Tryz.func3 (by kernel_rfl)
    (of_decide_eq_true (by kernel_rfl)) (by unfold Func.isWrapper; first | (rw [if_pos (by decide +kernel)]; kernel_rfl) | (rw [if_neg (by decide +kernel)]; exact ⟨rfl, rfl⟩))
    (fun os started H enc _ => lifted os started H enc)
#print axioms proved
end Go.Proofs.YtlbaockipeojhaaGreat.packetBuilds
