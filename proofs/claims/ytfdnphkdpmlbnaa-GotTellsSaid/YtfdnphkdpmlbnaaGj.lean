/-
  The document's Take, whole; got.Gaps: contracts.
-/
import Derived.Test.YtfdnphkdpmlbnaaGi
import Derived.Test.YtfdnphkdpmlbnaaRuns
import Derived.Test.YtfdnphkdpmlbnaaCkMem
namespace Go.Proofs.Ytfdnphkdpmlbnaa
open Go.RowKit
set_option linter.unusedVariables false
set_option linter.unusedSimpArgs false
set_option maxRecDepth 100000

theorem rtake_any (c : UInt32) (ab du : List UInt32) (ha : ab.length ≤ 1000000) (hd : du.length ≤ 1000000) (va vd : Value) (w : World) (h1 : RowE enc32 w va ab) (h2 : RowE enc32 w vd du) (n : UInt32) (hr : RightG ⟨c, ab, du⟩) (h60 : ab.length ≤ 900000) : Calls Try.prog 14 #[.agg #[.int .u32 (c.toNat : Int), va, vd], .int .u32 (n.toNat : Int)] w (TookR w (takeG ⟨c, ab, du⟩ n)) := by
  cases hh : hasB ⟨c, ab, du⟩ n with
  | true =>
    unfold takeG
    rw [hh, if_pos rfl]
    by_cases hdu : du.length < 100
    · simp only [hdu, if_true]
      exact rtake_dup c ab du ha hd va vd w h1 h2 n hh hdu
    · simp only [hdu, if_false]
      exact rtake_full c ab du ha hd va vd w h1 h2 n hh hdu
  | false =>
    by_cases hf : 4000 < key c n
    · unfold takeG
      rw [hh, if_neg (by decide), if_pos (show 4000 < key (⟨c, ab, du⟩ : Gt).cum n from hf)]
      exact rtake_far c ab du ha hd va vd w h1 h2 n hh hf
    · exact rtake_new c ab du ha hd va vd w h1 h2 n hh hf hr h60
theorem u16_wrap (d : Nat) : IntKind.u16.wrap (d : Int) = ((d % 65536 : Nat) : Int) := by
  simp [IntKind.wrap, IntKind.bits, IntKind.signed]
/-- The gaps: the rows in what is above, as distances. -/
def gapOf (c : UInt32) (p : UInt32 × UInt32) : Nat × Nat := (key c p.1 % 65536, key c p.2 % 65536)
def gapsG (g : Gt) : List (Nat × Nat) := ((runs (srt g.cum g.ab)).map (gapOf g.cum)).take 100
theorem gapsG_len (g : Gt) : (gapsG g).length = min 100 (runs (srt g.cum g.ab)).length := by unfold gapsG; rw [List.length_take, List.length_map]
theorem infoG2 : (Try.prog.info? 59).map (fun i => (i.zero, i.size, i.bytes)) = some (some (.agg #[.int .u16 0, .int .u16 0]), 2, 4) := by kernel_rfl
theorem infoU2 : (Try.prog.info? 74).map (·.size) = some 2 := by kernel_rfl
set_option maxHeartbeats 4000000 in
theorem gaps_any (c : UInt32) (ab du : List UInt32) (ha : ab.length ≤ 1000000) (hd : du.length ≤ 1000000) (va vd : Value) (w : World) (h1 : RowE enc32 w va ab) (h2 : RowE enc32 w vd du) : Calls Try.prog 25 #[.agg #[.int .u32 (c.toNat : Int), va, vd]] w fun e w' => ∃ v', e = .returned v' ∧ OwnG w' w.heap.size 59 2 v' (gapsG ⟨c, ab, du⟩).length (flatG (gapsG ⟨c, ab, du⟩)) ∧ Below w.heap.size w w' := by
  obtain ⟨W, hW, HA, HB, hs⟩ := one_open w 25 #[.int .u32 (c.toNat : Int), va, vd]
  have HV := Lib.hid (h1.below HB.out)
  have HD := Lib.hid (h2.below HB.out)
  obtain ⟨A, k, rfl, -, -, hcells⟩ := id HV.out
  obtain ⟨A', k', rfl, -, -, -⟩ := id HD.out
  have c0 := HA.out.cell 0 (.int .u32 (c.toNat : Int)) rfl
  have c1 := HA.out.cell 1 (.slice A ab.length k) rfl
  have c2 := HA.out.cell 2 (.slice A' du.length k') rfl
  have HRU := Lib.hid (fun W h => runs_any c ab (.slice A ab.length k) W h (by omega))
  have HGS := Lib.hid (show gapsG ⟨c, ab, du⟩ = ((runs (srt c ab)).map (gapOf c)).take 100 from rfl)
  have hrl := length_runs_le (srt c ab)
  have hrl2 := length_srt_le c ab
  generalize gapsG ⟨c, ab, du⟩ = gs at *
  generalize runs (srt c ab) = rs at *
  obtain ⟨i0, hi0, hz0, hz1, hz2⟩ := info_parts infoG2
  have HI := Lib.hid hi0
  have HZ0 := Lib.hid hz0
  have HZ1 := Lib.hid hz1
  have HZ2 := Lib.hid hz2
  clear hi0 hz0 hz1 hz2 hcells
  unfold enc32 at HRU
  go_enter Try.func25, Try.ntmps25
  go_wp2_with fail
  refine (HRU.out _ HV.out).mono ?_
  rintro e w1 ⟨vr, rfl, hown, hb⟩
  have HO := Lib.hid hown
  have hs1 := hb.size
  obtain ⟨A1, k1, rfl, hk1, hm1⟩ := own_formE hown
  replace HA := Lib.hid (HA.out.later hb)
  replace HB := Lib.hid (HB.out.trans (hb.mono HB.out.size))
  clear hown hb HRU c0 c1 c2 HV HD
  obtain ⟨m, hm⟩ : ∃ m, min 100 rs.length = m := ⟨_, rfl⟩
  have HGL : Hid (gs.length = m) := Lib.hid (by rw [HGS.out, List.length_take, List.length_map, hm])
  have q1 : min (rs.length : Int) 100 = (m : Int) := by omega
  have q2 : (m : Int) ≤ (rs.length : Int) := by omega
  have q3 : (rs.length : Int) ≤ (k1 : Int) := by omega
  have q4 : (k1 : Int) ≤ 9223372036854775807 := by unfold maxLen at hm1; omega
  have q5 : (m : Int) ≤ 100 := by omega
  have hmr : m ≤ rs.length := by omega
  clear hm
  have hg0 := HA.out.lt
  go_wp2_with fail
  go_loopw [3, 18] (fun vr i wr => ∃ j : Nat, j ≤ m ∧ i = .int .i64 j ∧ Hid (OwnG wr w1.heap.size 59 2 vr j (flatG (gs.take j))) ∧ Hid (Below w1.heap.size w1 wr))
    (fun _ i _ => m - (intOf i).toNat)
  case atStart => exact ⟨0, Nat.zero_le _, rfl, Lib.hid (OwnG.nil _ _ _ _), Lib.hid (Below.refl _ _)⟩
  case round =>
    obtain ⟨j, hj, rfl, HG, HW⟩ := hrel
    obtain ⟨A2, k2, rfl, -, -, -⟩ := HG.out.slice
    by_cases hlt : j < m
    · obtain ⟨g1, kk, hv1, hg1, hg2⟩ := own_form HO.out (by omega)
      cases hv1
      have hjr : j < rs.length := by omega
      have e1 : wr.cell? ⟨g1, j * 2, none⟩ = some (.int .u32 (rs[j].1.toNat : Int)) := (HW.out.cell (p := ⟨g1, j * 2, none⟩) hg2).trans ((HO.out.cellAt _ (by omega)).trans (flat_fst _ rs j hjr))
      have e2 : wr.cell? ⟨g1, j * 2 + 1, none⟩ = some (.int .u32 (rs[j].2.toNat : Int)) := (HW.out.cell (p := ⟨g1, j * 2 + 1, none⟩) hg2).trans ((HO.out.cellAt _ (by omega)).trans (flat_snd _ rs j hjr))
      have HRG : Hid (wr.rangeAt g1 (j * 2) [.int .u32 (rs[j].1.toNat : Int), .int .u32 (rs[j].2.toNat : Int)]) := Lib.hid (fun i u hu => by
        rcases (by have := (List.getElem?_eq_some_iff.1 hu).1; simp at this; omega : i = 0 ∨ i = 1) with rfl | rfl
        · exact (Option.some.inj hu) ▸ e1
        · exact (Option.some.inj hu) ▸ e2)
      have hS1 : ((rs[j].1.toNat : Int) - (c.toNat : Int)) % 4294967296 = (key c rs[j].1 : Int) := sub_toNat32 _ _
      have hS2 : ((rs[j].2.toNat : Int) - (c.toNat : Int)) % 4294967296 = (key c rs[j].2 : Int) := sub_toNat32 _ _
      have hC1 := Lib.hid (u16_wrap (key c rs[j].1))
      have hC2 := Lib.hid (u16_wrap (key c rs[j].2))
      have HNX : Hid (gs.take (j + 1) = gs.take j ++ [(key c rs[j].1 % 65536, key c rs[j].2 % 65536)]) := Lib.hid (by
        have hjg : j < gs.length := by rw [HGL.out]; exact hlt
        rw [List.take_succ_eq_append_getElem hjg]
        congr 2
        have h9 : gs[j] = (((rs.map (gapOf c)).take 100)[j]'(by have h8 := hjg; rw [HGS.out] at h8; exact h8)) := by congr 1 <;> exact HGS.out
        rw [h9, List.getElem_take, List.getElem_map]
        rfl)
      have hb1 := rs[j].1.toNat_lt
      have hb2 := rs[j].2.toNat_lt
      have hb3 := key_lt c rs[j].1
      have hb4 := key_lt c rs[j].2
      have hb5 : key c rs[j].1 % 65536 < 65536 := by omega
      have hb6 : key c rs[j].2 % 65536 < 65536 := by omega
      have hszw := HW.out.size
      clear e1 e2
      generalize key c rs[j].1 % 65536 = y1 at *
      generalize key c rs[j].2 % 65536 = y2 at *
      generalize key c rs[j].1 = d1 at *
      generalize key c rs[j].2 = d2 at *
      generalize rs[j].1.toNat = x1 at *
      generalize rs[j].2.toNat = x2 at *
      clear hb1 hb2
      have r1 : (0 : Int) ≤ (j : Int) := by omega
      have r2 : (j : Int) < (m : Int) := by omega
      obtain ⟨W3, hW3, HT, HB3, hs3⟩ := one_open wr 74 #[.int .u32 0, .int .u32 0]
      go_wp2_with (first
    | ((with_reducible refine gate9 ?_); refine ldP (ty := 74) rfl rfl rfl HRG.out Try.underlying74 rfl infoU2 ?_)
    | ((with_reducible refine gate9 ?_); refine stB (ty := 74) #[.int .u32 (x1 : Int), .int .u32 (x2 : Int)] rfl rfl rfl rfl HT.out infoU2 rfl (by simp [Value.oneCell']) ?_; intro w4 ht hg; replace HB3 := Lib.hid (below_of_grown1 HB3.out hg HB3.out.size (Nat.le_refl _)); replace HT := Lib.hid ht; clear ht hg; have c0 := (HA.out.later (HW.out.trans (HB3.out.mono HW.out.size))).cell 0 (.int .u32 (c.toNat : Int)) rfl; have t0 := HT.out.cell 0 (.int .u32 (x1 : Int)) rfl; have t1 := HT.out.cell 1 (.int .u32 (x2 : Int)) rfl; have hs4 := HB3.out.size; have HG4 := Lib.hid (HG.out.later HB3.out))
    | (at_builtin; refine wpList_append_fed _ rfl (.tmp 22) (.tmp 36) 39 39 rfl w1.heap.size 59 i0 _ 2 4 Try.underlying39 (.inr ⟨_, Try.underlying39⟩) HI.out HZ0.out HZ1.out HZ2.out rfl _ _ _ rfl (HG4.out.alloc _) _ 1 [.int .u16 (IntKind.u16.wrap (d1 : Int)), .int .u16 (IntKind.u16.wrap (d2 : Int))] rfl (Fed.block (heap_alloc_new _ _) rfl (by intro u hu; simp at hu; rcases hu with rfl | rfl <;> rfl)) (by unfold maxLen; omega) (by omega) (by simp; omega) ?_; intro v8 w8 hown hgr; rw [hC1.out, hC2.out] at hown; have HO8 := Lib.hid hown; have HB8 := Lib.hid (((HW.out.trans (HB3.out.mono HW.out.size)).alloc (by omega) _).grown hgr (by simp; omega) (fun k hk => (HG4.out.lt k hk).1)); clear hown hgr))
      go_roundw
      case rel => exact ⟨j + 1, by omega, by go_num, Lib.hid (by have h9 := HO8.out; rw [HNX.out, flatG_append]; exact h9), HB8⟩
      case measure => simp [intOf]; omega
    · obtain rfl : j = m := by omega
      have HEND : Hid (gs.take j = gs) := Lib.hid (by rw [← HGL.out, List.take_length])
      go_wp2_with fail
      go_ret
      exact ⟨_, rfl, by have h9 := HG.out; rw [HEND.out] at h9; rw [HGL.out]; exact h9.base (by omega), HB.out.trans (HW.out.mono (by omega))⟩
end Go.Proofs.Ytfdnphkdpmlbnaa
