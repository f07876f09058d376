/-
  The document's Missing: contract.
-/
import Derived.Test.YtfdnphkdpmlbnaaGv
import Derived.Test.YtfdnphkdpmlbnaaGh
namespace Go.Proofs.Ytfdnphkdpmlbnaa
open Go.RowKit
set_option linter.unusedVariables false
set_option linter.unusedSimpArgs false
set_option maxRecDepth 100000

/-- All of a block is loaded, behind a guard that wants it. -/
theorem ldBw {P : Program} {ops : Array Oper} {rest : List Oper} {o : Oper} {a : Act} {w : World} {Q : Exit → Act → World → Prop} {ty : TypeId} {x : Operand} {g : Nat} {cs : Array Value} {T : TypeId} {d : TypeDesc} (hw : Region.wanted o (yielded ops a.tmps) = true) (ho : o.op = .load ty x) (hx : a.eval x = .pointer (some ⟨g, 0, none⟩)) (h : Bx w g T cs)
    (hu : P.underlying ty = some d) (hd : (match d with | .struct _ | .array _ _ => true | _ => false) = true) (hi : (P.info? ty).map (·.size) = some cs.size)
    (hk : wpList P ops Q rest (a.put o.dst (.agg cs)) w) : wpList P ops Q (o :: rest) a w :=
  wpList_step fun K hK => by rw [if_pos hw]; exact wp_load_row ty x ho g hx T cs (0, 0) d h hu hd hi (hK _ _ hk)
theorem miss_last {c : UInt32} {ab du : List UInt32} (hr : RightG ⟨c, ab, du⟩) (h0 : 0 < ab.length) : 2 ≤ key c (lastG ⟨c, ab, du⟩) ∧ key c (lastG ⟨c, ab, du⟩) ≤ 4000 ∧ missG ⟨c, ab, du⟩ = missTo c ab (key c (lastG ⟨c, ab, du⟩) - 1) := by
  have hl : lastG ⟨c, ab, du⟩ = ab[ab.length - 1]! := if_neg (show ¬ ab.length = 0 by omega)
  have hm : ab[ab.length - 1]! ∈ ab := by rw [getElem!_pos ab _ (by omega)]; exact List.getElem_mem _
  have hn := hr.near _ hm
  have h2 : 2 ≤ key c (lastG ⟨c, ab, du⟩) := by rw [hl]; exact hn.1
  have h3 : key c (lastG ⟨c, ab, du⟩) ≤ 4000 := by rw [hl]; exact hn.2
  refine ⟨h2, h3, ?_⟩
  obtain ⟨j, hj⟩ : ∃ j, key c (lastG ⟨c, ab, du⟩) = j + 1 := ⟨key c (lastG ⟨c, ab, du⟩) - 1, by omega⟩
  show missTo c ab (key c (lastG ⟨c, ab, du⟩)) = _
  rw [hj, missTo_succ, if_pos (by rw [← hj, add_key, hl]; exact hm), List.append_nil]
  rfl
set_option maxHeartbeats 4000000 in
theorem rmissing_any (c : UInt32) (ab du : List UInt32) (ha : ab.length ≤ 1000000) (hd : du.length ≤ 1000000) (va vd : Value) (w : World) (h1 : RowE enc32 w va ab) (h2 : RowE enc32 w vd du) (hr : RightG ⟨c, ab, du⟩) : Calls Try.prog 29 #[.agg #[.int .u32 (c.toNat : Int), va, vd]] w fun e w' => ∃ A k, e = .returned (.slice A (missG ⟨c, ab, du⟩).length k) ∧ OwnG w' w.heap.size 22 1 (.slice A (missG ⟨c, ab, du⟩).length k) (missG ⟨c, ab, du⟩).length ((missG ⟨c, ab, du⟩).map enc32) ∧ Below w.heap.size w w' := by
  obtain ⟨W, hW, HA, HB, hs⟩ := one_open w 28 #[.int .u32 (c.toNat : Int), va, vd]
  have HV := Lib.hid (h1.below HB.out)
  have HD := Lib.hid (h2.below HB.out)
  obtain ⟨A, k, rfl, -, -, hcells⟩ := id HV.out
  obtain ⟨A', k', rfl, -, -, -⟩ := id HD.out
  have c0 := HA.out.cell 0 (.int .u32 (c.toNat : Int)) rfl
  have c1 := HA.out.cell 1 (.slice A ab.length k) rfl
  have c2 := HA.out.cell 2 (.slice A' du.length k') rfl
  obtain ⟨i0, hi0, hz0, hz1, hz2⟩ := info_parts infoUZ
  have HI := Lib.hid hi0
  have HZ0 := Lib.hid hz0
  have HZ1 := Lib.hid hz1
  have HZ2 := Lib.hid hz2
  clear hi0 hz0 hz1 hz2 hcells
  have hgw := HA.out.lt
  have c1 := HA.out.cell 1 (.slice A ab.length k) rfl
  have s7 : ((c.toNat : Int) + 1) % 4294967296 = ((c + UInt32.ofNat 1).toNat : Int) := plus_nat c (by decide)
  have HLS := Lib.hid (fun W h h' => rlast_any c ab du ha hd (.slice A ab.length k) (.slice A' du.length k') W h h')
  by_cases h0 : 0 < ab.length
  · obtain ⟨hl2, hl3, hmg⟩ := miss_last hr h0
    have HMG := Lib.hid hmg
    have h0' : (0 : Int) < (ab.length : Int) := by omega
    obtain ⟨kl, hkl⟩ : ∃ q, key c (lastG ⟨c, ab, du⟩) = q := ⟨_, rfl⟩
    have HLK := Lib.hid (show lastG ⟨c, ab, du⟩ = c + UInt32.ofNat kl from by rw [← hkl, add_key])
    rw [hkl] at hl2 hl3 HMG
    rw [HLK.out] at HLS
    clear hmg hkl
    have HAM := Lib.hid (fun (n : UInt32) W h => ramong_any ab ha (.slice A ab.length k) n W h)
    go_enter Try.func29, Try.ntmps29
    go_wp2_with fail
    clear s7
    go_loopw [3, 4] (fun v i wr => ∃ (j : Nat) (A1 : Option Addr) (k1 : Nat), j < kl ∧ v = .slice A1 (missTo c ab j).length k1 ∧ i = .int .u32 ((c + UInt32.ofNat (j + 1)).toNat : Int) ∧ Hid (OwnG wr W.heap.size 22 1 (.slice A1 (missTo c ab j).length k1) (missTo c ab j).length ((missTo c ab j).map enc32)) ∧ Hid (Below W.heap.size W wr))
      (fun _ i _ => 5000 - (UInt32.ofNat (intOf i).toNat - c).toNat)
    case atStart => exact ⟨0, _, _, by omega, rfl, rfl, Lib.hid (OwnG.nil _ _ _ _), Lib.hid (Below.refl _ _)⟩
    case round =>
      clear c0 c1
      obtain ⟨j, A1, k1, hjk, rfl, rfl, HO, HW⟩ := hrel
      have c0 := (HA.out.later HW.out).cell 0 (.int .u32 (c.toNat : Int)) rfl
      have c1 := (HA.out.later HW.out).cell 1 (.slice A ab.length k) rfl
      have HA1 := Lib.hid (HA.out.later HW.out)
      have HV1 := Lib.hid (HV.out.below HW.out)
      have HD1 := Lib.hid (HD.out.below HW.out)
      have hkj : key c (c + UInt32.ofNat (j + 1)) = j + 1 := key_add (by omega)
      have hkl : key c (c + UInt32.ofNat kl) = kl := key_add (by omega)
      have HW6 := HW
      have HO6 := HO
      by_cases hjl : j + 1 = kl
      · have HL : Hid (missG ⟨c, ab, du⟩ = missTo c ab j) := Lib.hid (by rw [HMG.out, ← hjl]; rfl)
        subst hjl
        clear hkl hkj
        generalize (c + UInt32.ofNat (j + 1)).toNat = y at *
        go_wp2_with (first
    | ((with_reducible refine gate9 ?_); refine ldBw (ty := 28) (by rfl) rfl rfl HA1.out Try.underlying28 rfl infoR ?_)
    | (go_at_call 27; (with_reducible refine (HLS.out _ HV1.out HD1.out).mono ?_); rintro e w6 ⟨rfl, hb⟩; replace HW6 := Lib.hid (HW.out.trans (hb.mono HW.out.size)); replace HO6 := Lib.hid (HO.out.later hb); clear hb c0 c1; have c1 := (HA.out.later HW6.out).cell 1 (.slice A ab.length k) rfl; have HV6 := Lib.hid (HV.out.below HW6.out); have hsz6 := HW6.out.size))
        go_ret
        refine ⟨A1, k1, ?_⟩
        rw [HL.out]
        exact ⟨rfl, HO6.out.base (by omega), HB.out.trans (HW6.out.mono (by omega))⟩
      · have g1 : (((c + UInt32.ofNat (j + 1)).toNat : Int) != ((c + UInt32.ofNat kl).toNat : Int)) = true := by
          rw [bne_iff_ne]
          intro e
          have : c + UInt32.ofNat (j + 1) = c + UInt32.ofNat kl := UInt32.toNat_inj.1 (by omega)
          rw [this, hkl] at hkj
          omega
        have hkj2 : key c (c + UInt32.ofNat (j + 1 + 1)) = j + 1 + 1 := key_add (by omega)
        have s8 : (((c + UInt32.ofNat (j + 1)).toNat : Int) + 1) % 4294967296 = ((c + UInt32.ofNat (j + 1 + 1)).toNat : Int) := (add1_toNat _).trans (by rw [plus_succ c (by omega)])
        have HME : Hid ((UInt32.ofNat (c + UInt32.ofNat (j + 1)).toNat - c).toNat = j + 1 ∧ (UInt32.ofNat (c + UInt32.ofNat (j + 1 + 1)).toNat - c).toNat = j + 1 + 1) := Lib.hid ⟨by rw [UInt32.ofNat_toNat]; exact hkj, by rw [UInt32.ofNat_toNat]; exact hkj2⟩
        have HS8 := Lib.hid s8
        have hlm : (missTo c ab j).length ≤ 4000 := by
          unfold missTo
          refine Nat.le_trans (List.length_filter_le _ _) ?_
          rw [List.length_map, List.length_range']
          omega
        have hszw := HW.out.size
        have HAM2 := Lib.hid (fun W h => HAM.out (c + UInt32.ofNat (j + 1)) W h)
        have hsu := missTo_succ c ab j
        clear hkj hkj2 hkl
        by_cases hin : c + UInt32.ofNat (j + 1) ∈ ab
        · rw [decide_eq_true hin] at HAM2
          rw [if_pos hin, List.append_nil] at hsu
          have HE := Lib.hid hsu
          clear hsu hin
          generalize hy : (c + UInt32.ofNat (j + 1)).toNat = y at *
          generalize hy2 : (c + UInt32.ofNat (j + 1 + 1)).toNat = y2 at *
          generalize (c + UInt32.ofNat kl).toNat = yl at *
          have HY2 := Lib.hid hy2
          clear hy hy2
          go_wp2_with (first
    | ((with_reducible refine gate9 ?_); refine ldBw (ty := 28) (by rfl) rfl rfl HA1.out Try.underlying28 rfl infoR ?_)
    | (go_at_call 27; (with_reducible refine (HLS.out _ HV1.out HD1.out).mono ?_); rintro e w6 ⟨rfl, hb⟩; replace HW6 := Lib.hid (HW.out.trans (hb.mono HW.out.size)); replace HO6 := Lib.hid (HO.out.later hb); clear hb c0 c1; have c1 := (HA.out.later HW6.out).cell 1 (.slice A ab.length k) rfl; have HV6 := Lib.hid (HV.out.below HW6.out); have hsz6 := HW6.out.size)
    | (go_at_call 36; (with_reducible refine (HAM2.out _ HV6.out).mono ?_); rintro e w7 ⟨rfl, rfl⟩))
          go_roundw
          case rel => exact ⟨j + 1, A1, k1, by omega, by rw [HE.out], by rw [HY2.out, ← HS8.out], by rw [HE.out]; exact HO6, HW6⟩
          case measure =>
            have h9 := HME.out
            have h8 := HS8.out
            simp only [intOf, h8, Int.toNat_natCast]
            rw [h9.1, h9.2]
            omega
        · rw [decide_eq_false hin] at HAM2
          rw [if_neg hin] at hsu
          have HEN : Hid ((missTo c ab (j + 1)).map enc32 = (missTo c ab j).map enc32 ++ [.int .u32 ((c + UInt32.ofNat (j + 1)).toNat : Int)] ∧ (missTo c ab (j + 1)).length = (missTo c ab j).length + 1) := Lib.hid (by rw [hsu, List.map_append, List.length_append]; exact ⟨rfl, rfl⟩)
          clear hsu hin
          generalize hy : (c + UInt32.ofNat (j + 1)).toNat = y at *
          generalize hy2 : (c + UInt32.ofNat (j + 1 + 1)).toNat = y2 at *
          generalize (c + UInt32.ofNat kl).toNat = yl at *
          have HY2 := Lib.hid hy2
          clear hy hy2
          obtain ⟨ml, hml⟩ : ∃ l, missTo c ab j = l := ⟨_, rfl⟩
          rw [hml] at HO HO6 HEN hlm ⊢
          clear hml
          go_wp2_with (first
    | ((with_reducible refine gate9 ?_); refine ldBw (ty := 28) (by rfl) rfl rfl HA1.out Try.underlying28 rfl infoR ?_)
    | (go_at_call 27; (with_reducible refine (HLS.out _ HV1.out HD1.out).mono ?_); rintro e w6 ⟨rfl, hb⟩; replace HW6 := Lib.hid (HW.out.trans (hb.mono HW.out.size)); replace HO6 := Lib.hid (HO.out.later hb); clear hb c0 c1; have c1 := (HA.out.later HW6.out).cell 1 (.slice A ab.length k) rfl; have HV6 := Lib.hid (HV.out.below HW6.out); have hsz6 := HW6.out.size)
    | (go_at_call 36; (with_reducible refine (HAM2.out _ HV6.out).mono ?_); rintro e w7 ⟨rfl, rfl⟩)
    | (at_builtin; refine wpList_append_fed _ rfl (.tmp 25) (.tmp 27) 23 23 rfl W.heap.size 22 i0 _ 1 4 Try.underlying23 (.inr ⟨_, Try.underlying23⟩) HI.out HZ0.out HZ1.out HZ2.out rfl (.slice A1 ml.length k1) _ _ rfl (HO6.out.alloc _) _ 1 [.int .u32 (y : Int)] rfl (Fed.block (heap_alloc_new _ _) rfl (by intro u hu; simp at hu; subst hu; rfl)) (by unfold maxLen; omega) (by omega) (by simp; omega) ?_; intro v8 w8 hown hgr; have HO8 := Lib.hid hown; have HW8 := Lib.hid ((HW6.out.alloc HW6.out.size _).grown hgr (by simp; omega) (fun k hk => (HO6.out.lt k hk).1)); obtain ⟨A3, k3, rfl, -, -, -⟩ := id hown.slice; clear hown hgr c1))
          go_roundw
          case rel => exact ⟨j + 1, A3, k3, by omega, by rw [HEN.out.2], by rw [HY2.out, ← HS8.out], Lib.hid (by rw [HEN.out.1, HEN.out.2]; exact HO8.out), HW8⟩
          case measure =>
            have h9 := HME.out
            have h8 := HS8.out
            simp only [intOf, h8, Int.toNat_natCast]
            rw [h9.1, h9.2]
            omega
  · obtain rfl : ab = [] := List.eq_nil_of_length_eq_zero (by omega)
    have HL : Hid (missG ⟨c, [], du⟩ = []) := Lib.hid (by show missTo c [] (key c c) = []; rw [key_self]; rfl)
    go_enter Try.func29, Try.ntmps29
    go_wp2_with fail
    go_loopw [3, 4] (fun v i wr => v = .slice none 0 0 ∧ Hid (Below W.heap.size W wr))
      (fun _ _ _ => 0)
    case atStart => exact ⟨rfl, Lib.hid (by first | exact Below.refl _ _ | (rw [← hW]; exact Below.refl _ _) | (subst hW; exact Below.refl _ _))⟩
    case round =>
      obtain ⟨rfl, HW⟩ := hrel
      have c0 := (HA.out.later HW.out).cell 0 (.int .u32 (c.toNat : Int)) rfl
      have c1 := (HA.out.later HW.out).cell 1 (.slice A 0 k) rfl
      go_wp2_with fail
      go_ret
      refine ⟨none, 0, ?_⟩
      rw [HL.out]
      exact ⟨rfl, OwnG.nil _ _ _ _, HB.out.trans (HW.out.mono HB.out.size)⟩
end Go.Proofs.Ytfdnphkdpmlbnaa
