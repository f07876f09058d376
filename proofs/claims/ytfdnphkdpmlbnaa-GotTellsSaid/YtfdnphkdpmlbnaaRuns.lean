/-
  serial.Runs: what it returns, whatever the list.
-/
import Derived.Test.YtfdnphkdpmlbnaaSort
import Derived.Laws.OwnMore
import Derived.OwnWalk
namespace Go.Proofs.Ytfdnphkdpmlbnaa
open Go.RowKit Go.Sort Go.Lib

/-- The cells of a row of pairs. -/
def flat (enc : UInt32 → Value) (rs : List (UInt32 × UInt32)) : List Value := rs.flatMap fun p => [enc p.1, enc p.2]
theorem length_flat (enc : UInt32 → Value) (rs : List (UInt32 × UInt32)) : (flat enc rs).length = rs.length * 2 := by
  induction rs with
  | nil => rfl
  | cons p ps ih => simp only [flat, List.flatMap_cons, List.length_append, List.length_cons, List.length_nil] at ih ⊢; omega
theorem flat_append (enc : UInt32 → Value) (rs ss : List (UInt32 × UInt32)) : flat enc (rs ++ ss) = flat enc rs ++ flat enc ss := by simp [flat]
theorem flat_fst (enc : UInt32 → Value) (rs : List (UInt32 × UInt32)) (i : Nat) (h : i < rs.length) : (flat enc rs)[i * 2]? = some (enc rs[i].1) := by
  induction rs generalizing i with
  | nil => simp at h
  | cons p ps ih =>
    cases i with
    | zero => simp [flat]
    | succ i =>
      have := ih i (by simpa using h)
      simp only [flat, List.flatMap_cons] at this ⊢
      rw [show (i + 1) * 2 = i * 2 + 2 by omega]
      simpa using this
theorem flat_snd (enc : UInt32 → Value) (rs : List (UInt32 × UInt32)) (i : Nat) (h : i < rs.length) : (flat enc rs)[i * 2 + 1]? = some (enc rs[i].2) := by
  induction rs generalizing i with
  | nil => simp at h
  | cons p ps ih =>
    cases i with
    | zero => simp [flat]
    | succ i =>
      have := ih i (by simpa using h)
      simp only [flat, List.flatMap_cons] at this ⊢
      rw [show (i + 1) * 2 + 1 = i * 2 + 1 + 2 by omega]
      simpa using this
theorem flat_set_snd (enc : UInt32 → Value) (rs : List (UInt32 × UInt32)) (p : UInt32 × UInt32) (x : UInt32) : (flat enc (rs ++ [p])).set (rs.length * 2 + 1) (enc x) = flat enc (rs ++ [(p.1, x)]) := by
  rw [flat_append, flat_append, ← length_flat enc rs, List.set_append_right _ _ (by omega)]
  congr 1
  rw [show (flat enc rs).length + 1 - (flat enc rs).length = 1 by omega]
  rfl

theorem info40 : (Try.prog.info? 74).map (fun i => (i.zero, i.size, i.bytes)) = some (some (.agg #[.int .u32 0, .int .u32 0]), 2, 8) := by kernel_rfl

theorem runStep_nil (x : UInt32) : runStep [] x = [(x, x)] := rfl
theorem runStep_yes (rs : List (UInt32 × UInt32)) (p : UInt32 × UInt32) (x : UInt32) (h : p.2 + 1 = x) : runStep (rs ++ [p]) x = rs ++ [(p.1, x)] := by simp [runStep, h]
theorem runStep_no (rs : List (UInt32 × UInt32)) (p : UInt32 × UInt32) (x : UInt32) (h : ¬ p.2 + 1 = x) : runStep (rs ++ [p]) x = (rs ++ [p]) ++ [(x, x)] := by simp [runStep, h]

set_option maxHeartbeats 1000000 in
set_option maxRecDepth 100000 in
theorem runs_any (f : UInt32) (l : List UInt32) (v : Value) (w : World) (hv : RowE enc32 w v l) (hsz : l.length < 1099511627776) :
    Calls Try.prog 40 #[v, enc32 f] w fun e w' => ∃ v', e = .returned v' ∧ w'.ownsRow w.heap.size 74 2 v' (runs (srt f l)).length (flat enc32 (runs (srt f l))) ∧ Below w.heap.size w w' := by
  obtain ⟨i0, hi0, hz0, hz1, hz2⟩ := info_parts info40
  have hS := Lib.hid (fun W (h : RowE enc32 W v l) => sorted_any f l v W h hsz)
  have HV := Lib.hid hv
  have hle := length_srt_le f l
  clear hv
  go_enter Try.func40, Try.ntmps40
  go_wp2_with fail
  refine (hS.out _ HV.out).mono ?_
  rintro e w1 ⟨vs, rfl, hs1, hb1⟩
  generalize hsd : srt f l = s at *
  have HSD := Lib.hid hsd
  clear hsd
  obtain ⟨A, cap, rfl, hcap, hmax, hcells⟩ := hs1
  have HCELL := Lib.hid hcells
  clear hcells
  have HB1 := Lib.hid hb1
  clear hb1
  go_wp2_with fail
  go_loopw [5, 13] (fun vr i wr => ∃ k : Nat, k ≤ s.length ∧ i = .int .i64 k ∧ wr.ownsRow w1.heap.size 74 2 vr (runs (s.take k)).length (flat enc32 (runs (s.take k))) ∧ Below w1.heap.size w1 wr)
    (fun _ i _ => s.length - (intOf i).toNat)
  case atStart => exact ⟨0, Nat.zero_le _, rfl, World.ownsRow_nil _ _ _ _, Below.refl _ _⟩
  case round =>
    obtain ⟨k, hk, rfl, hown, hbr⟩ := hrel
    by_cases hlt : k < s.length
    · obtain ⟨b, off, rfl, hb, hc⟩ := HCELL.out (by omega)
      have hck : wr.cell? ⟨b, off + k, none⟩ = some (.int .u32 (s[k]!.toNat : Int)) := (hbr.cell (p := ⟨b, off + k, none⟩) hb).trans (hc k hlt)
      have hts := Lib.hid (show runs (s.take (k + 1)) = runStep (runs (s.take k)) s[k]! by rw [take_succ' s k hlt, runs_snoc])
      generalize hx : s[k]! = x at *
      clear hx hc
      have hxl := x.toNat_lt
      have hrl := length_runs_le (s.take k)
      rw [List.length_take] at hrl
      have hb1' := hbr.size
      rcases List.eq_nil_or_concat (runs (s.take k)) with hr | ⟨rs, p, hr⟩
      · -- no row yet
        rw [hr] at hown hts
        have HOWN := Lib.hid hown
        obtain ⟨ar, cr, rfl, _, _, _⟩ := own_slice hown
        clear hown hr hrl
        go_wp2_with (at_builtin; refine wpList_append_own _ rfl (.tmp 37) (.tmp 41) 72 rfl w1.heap.size 74 i0 (.agg #[.int .u32 0, .int .u32 0]) 2 8 Try.underlying72 hi0 hz0 hz1 hz2 rfl (by decide) _ _ _ rfl (HOWN.out.alloc _) ⟨wr.heap.size, 0, none⟩ 1 1 [.int .u32 (x.toNat : Int), .int .u32 (x.toNat : Int)] rfl rfl ?c1 ?c2 ?c3 ?c4 ?c5 ?_)
        case c1 => exact new_cells wr _ _
        case c2 => intro u hu; simp at hu; subst hu; rfl
        case c3 => simp [maxLen]
        case c4 => simp
        case c5 => simp; omega
        intro v2 w2 hown2 hg2 _
        have HB2 := Lib.hid (below_append ((Below.refl w1.heap.size w1).trans (hbr.alloc hb1' _)) (by simp; omega) (HOWN.out.alloc _) hg2)
        have HOWN2 := Lib.hid hown2
        clear hown2 hg2
        go_wp2
        go_roundw
        case rel => exact ⟨k + 1, by omega, by go_num, by rw [hts.out]; exact HOWN2.out, HB2.out⟩
        case measure => simp [intOf]; omega
      · rw [hr, List.concat_eq_append] at hown hts hrl
        have HOWN := Lib.hid hown
        have hfs := flat_snd enc32 (rs ++ [p]) rs.length (by simp)
        rw [List.getElem_concat_length (by rfl)] at hfs
        have hlen : (rs ++ [p]).length = rs.length + 1 := by simp
        rw [hlen] at hown hrl
        obtain ⟨g, cr, rfl, hg, hgl⟩ := own_form hown (by omega)
        have hcp : wr.cell? ⟨g, rs.length * 2 + 1, none⟩ = some (.int .u32 (p.2.toNat : Int)) := (hown.cellAt _ (by omega)).trans hfs
        have hfp := hown.frozenAt (rs.length * 2 + 1)
        have hpl := p.2.toNat_lt
        have HS2 := Lib.hid (hown.stored (rs.length * 2 + 1) (enc32 x))
        generalize hm : rs.length = m at *
        have HM := Lib.hid hm
        have hmb : m + 1 ≤ k := by omega
        clear hm hown hr hlen hfs hrl
        by_cases hpx : p.2 + 1 = x
        · have hq := Lib.hid (runStep_yes rs p x hpx)
          have ht : (((p.2.toNat : Int) + 1) % 4294967296 == (x.toNat : Int)) = true := by
            rw [beq_iff_eq, ← hpx, UInt32.toNat_add]; simp
          clear hpx
          go_wp2
          go_roundw
          case rel =>
            refine ⟨k + 1, by omega, by go_num, ?_, hbr.setCell (p := ⟨g, m * 2 + 1, none⟩) hg _⟩
            have h := HS2.out
            rw [← HM.out, flat_set_snd] at h
            rw [hts.out, hq.out, ← HM.out, show (rs ++ [(p.1, x)]).length = rs.length + 1 by simp]
            exact h.1
          case measure => simp [intOf]; omega
        · have hq := Lib.hid (runStep_no rs p x hpx)
          have ht : (((p.2.toNat : Int) + 1) % 4294967296 == (x.toNat : Int)) = false := by
            rw [beq_eq_false_iff_ne]; intro h; apply hpx; apply UInt32.toNat_inj.1; rw [UInt32.toNat_add]; simp; omega
          clear hpx
          go_wp2_with (at_builtin; refine wpList_append_own _ rfl (.tmp 37) (.tmp 41) 72 rfl w1.heap.size 74 i0 (.agg #[.int .u32 0, .int .u32 0]) 2 8 Try.underlying72 hi0 hz0 hz1 hz2 rfl (by decide) _ _ _ rfl (HOWN.out.alloc _) ⟨wr.heap.size, 0, none⟩ 1 1 [.int .u32 (x.toNat : Int), .int .u32 (x.toNat : Int)] rfl rfl ?c1 ?c2 ?c3 ?c4 ?c5 ?_)
          case c1 => exact new_cells wr _ _
          case c2 => intro u hu; simp at hu; subst hu; rfl
          case c3 => have := HM.out; simp [maxLen]; omega
          case c4 => have := HM.out; simp; omega
          case c5 => simp; omega
          intro v2 w2 hown2 hg2 _
          have HB2 := Lib.hid (below_append ((Below.refl w1.heap.size w1).trans (hbr.alloc hb1' _)) (by simp; omega) (HOWN.out.alloc _) hg2)
          have HOWN2 := Lib.hid hown2
          clear hown2 hg2
          go_wp2
          go_roundw
          case rel =>
            refine ⟨k + 1, by omega, by go_num, ?_, HB2.out⟩
            have h := HOWN2.out
            rw [hts.out, hq.out, flat_append _ (rs ++ [p]) _]
            simpa [enc32, flat] using h
          case measure => simp [intOf]; omega
    · have hkk : k = s.length := by omega
      subst hkk
      go_wp2
      go_ret
      rw [List.take_length] at hown
      rw [HSD.out]
      exact ⟨_, rfl, own_base hown HB1.out.size, HB1.out.trans (hbr.mono HB1.out.size)⟩
theorem runs_z (f : UInt32) (z : Int) (hz : z = (f.toNat : Int)) (l : List UInt32) (v : Value) (w : World) (hv : RowE enc32 w v l) (hsz : l.length ≤ 200) :
    Calls Try.prog 40 #[v, .int .u32 z] w fun e w' => ∃ v', e = .returned v' ∧ w'.ownsRow w.heap.size 74 2 v' (runs (srt f l)).length (flat enc32 (runs (srt f l))) ∧ Below w.heap.size w w' := by
  subst hz
  exact runs_any f l v w hv (by omega)

end Go.Proofs.Ytfdnphkdpmlbnaa
