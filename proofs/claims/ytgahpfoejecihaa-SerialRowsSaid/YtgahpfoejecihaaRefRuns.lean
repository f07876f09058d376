/-
  The document's answer to layer 1 on rows (towlineref1.Runs).
-/
import Derived.Test.YtgahpfoejecihaaRef
import Derived.Test.YtgahpfoejecihaaRuns
namespace Go.Proofs.Ytgahpfoejecihaa
open Go.RowKit Go.Sort Go.Lib

theorem info41 : (Try.prog.info? 41).map (fun i => (i.zero, i.size, i.bytes)) = some (some (.agg #[.int .i64 0, .int .i64 0]), 2, 16) := by kernel_rfl
theorem flat64_cells {rs : List (UInt32 × UInt32)} : ∀ u ∈ flat enc64 rs, u.oneCell' = true := by
  intro u hu
  obtain ⟨p, _, hp⟩ := List.mem_flatMap.1 hu
  simp at hp
  rcases hp with rfl | rfl <;> rfl
theorem undrew_heap {w : World} {n : Nat} {o : Option Obj} (h : w.heap[n]? = o) : w.drew.heap[n]? = o := h
theorem up32_key' (x f : UInt32) : up32 x.toNat f.toNat = (key f x : Int) := by unfold up32 key; exact sub_toNat x f
theorem strict_take (f : UInt32) (s : List UInt32) (hs : Strict f s) (k : Nat) (hk : k < s.length) (y : UInt32) (hy : y ∈ s.take k) : key f y < key f s[k]! := by
  obtain ⟨j, hj, rfl⟩ := List.getElem_of_mem hy
  rw [List.length_take] at hj
  have h := strict_at f s hs j k (by omega) hk
  rw [List.getElem_take, ← getElem!_pos s j (by omega)]
  exact UInt32.lt_iff_toNat_lt.1 h

set_option maxHeartbeats 4000000 in
set_option maxRecDepth 100000 in
theorem rruns_any (f : UInt32) (l : List UInt32) (v : Value) (w : World) (hv : RowE enc64 w v l) (hsz : l.length ≤ 200) :
    Calls Try.prog 23 #[v, .int .i64 (f.toNat : Int)] w fun e w' => ∃ v', e = .returned v' ∧ w'.ownsRow w.heap.size 41 2 v' (runs (srt f l)).length (flat enc64 (runs (srt f l))) ∧ Below w.heap.size w w' := by
  obtain ⟨i0, hi0, hz0, hz1, hz2⟩ := info_parts info41
  have HV := Lib.hid hv
  have hle := length_srt_le f l
  have hst := strict_srt f l
  clear hv
  have hf := f.toNat_lt
  go_enter Try.func23, Try.ntmps23
  go_wp2_with fail
  refine (rsorted_any f l v _ HV.out hsz).mono ?_
  rintro e w1 ⟨vs, rfl, hs1, hb1⟩
  generalize hsd : srt f l = s at *
  have HSD := Lib.hid hsd
  have HST := Lib.hid hst
  clear hsd hst
  obtain ⟨A, cap, rfl, hcap, hmax, hcells⟩ := hs1
  have HCELL := Lib.hid hcells
  have HB1 := Lib.hid hb1
  clear hcells hb1
  go_wp2_with fail
  go_loopw [6, 7, 8] (fun vo i _ wr => ∃ k : Nat, k ≤ s.length ∧ i = .int .i64 k ∧ wr.ownsRow w1.heap.size 41 2 vo (runs (s.take k)).length (flat enc64 (runs (s.take k))) ∧ Below w1.heap.size w1 wr)
    (fun _ i _ _ => s.length - (intOf i).toNat)
  case atStart => exact ⟨0, Nat.zero_le _, rfl, World.ownsRow_nil _ _ _ _, Below.refl _ _⟩
  case round =>
    obtain ⟨k, hk, rfl, hown, hbr⟩ := hrel
    have hs2 := hbr.size
    by_cases hlt : k < s.length
    · obtain ⟨b, off, rfl, hb, hc⟩ := HCELL.out (by omega)
      have hck : wr.cell? ⟨b, off + k, none⟩ = some (.int .i64 (s[k]!.toNat : Int)) := (hbr.cell (p := ⟨b, off + k, none⟩) hb).trans (hc k hlt)
      have hck1 : w1.cell? ⟨b, off + k, none⟩ = some (.int .i64 (s[k]!.toNat : Int)) := hc k hlt
      have hts := Lib.hid (show runs (s.take (k + 1)) = runStep (runs (s.take k)) s[k]! by rw [take_succ' s k hlt, runs_snoc])
      obtain ⟨_, _, _, _, h5⟩ := runs_facts f (s.take k) (List.Pairwise.sublist (List.take_sublist k s) HST.out)
      have hkey : ∀ q ∈ runs (s.take k), key f q.2 < key f s[k]! := fun q hq => strict_take f s HST.out k hlt q.2 (h5 q hq)
      have hrl := length_runs_le (s.take k)
      rw [List.length_take] at hrl
      generalize s[k]! = x at *
      have hxl := x.toNat_lt
      have hx1 := up32_key' x f
      have i0' : (0 : Int) ≤ (k : Int) := Int.natCast_nonneg _
      have i1' : (k : Int) < (s.length : Int) := by omega
      have hb2 : (⟨b, off + k, none⟩ : Addr).block < wr.heap.size := by show b < _; omega
      clear hc h5
      rcases List.eq_nil_or_concat (runs (s.take k)) with hr | ⟨rs, p, hr⟩
      · rw [hr] at hown hts
        obtain ⟨Ao, co, rfl, _, _, _⟩ := own_slice hown
        have HOWN := Lib.hid hown
        have HP := Lib.hid (show ∀ W, Below w1.heap.size w1 W → W.cell? ⟨b, off + k, none⟩ = some (.int .i64 (x.toNat : Int)) ∧ Below w1.heap.size w1 W from fun W hW => ⟨(hW.cell (p := ⟨b, off + k, none⟩) hb).trans hck1, hW⟩)
        have hl0 : ([] : List (UInt32 × UInt32)).length ≤ 200 := by simp
        clear hown hr hrl hkey hx1
        go_wp2_with fail
        go_quiet (fail)
        go_wp2_with fail
        have hb9 : Below wr.heap.size wr (wr.drewN nq) := below_drewN (Below.refl _ _) _
        have hown9 : World.ownsRow (wr.drewN nq) w1.heap.size 41 2 (.slice Ao ([] : List (UInt32 × UInt32)).length co) ([] : List (UInt32 × UInt32)).length (flat enc64 []) := HOWN.out
        generalize wr.drewN nq = w9 at hb9 hown9 ⊢
        have hs9 := hb9.size
        go_region_held3 (fun w' => w'.cell? ⟨b, off + k, none⟩ = some (.int .i64 (x.toNat : Int)) ∧ Below w1.heap.size w1 w')
          (first
            | exact HP.out _ (hbr.trans (hb9.mono hbr.size)).drew
            | (go_split_ands; refine HP.out _ ?_; assumption)
            | (go_split_ands; refine HP.out _ (Below.drew (Below.alloc (undrew ?_) (Below.size (B := w1.heap.size) (undrew ?_)) _)) <;> assumption)
            | (go_split_ands; refine HP.out _ (Below.alloc ?_ (Below.size (B := w1.heap.size) ?_) _) <;> assumption))
          (first
            | (go_split_ands
               refine step_append_src _ (by rfl) (.tmp 59) (.tmp 69) _ (by rfl) w1 41 i0 _ 2 16 Try.underlying36 hi0 hz0 hz1 hz2 rfl (by omega) _ _ _ (by rfl) ((hown9.alloc _).drew) _ 1 [.int .i64 (x.toNat : Int), .int .i64 (x.toNat : Int)] (by rfl) ?_ ?_ ?_ ?_ ?_ ?_
               · exact Src.drew (Src.block (t := 41) (heap_new_at _ _ (by simp)) rfl)
               · intro u hu; simp at hu; subst hu; rfl
               · simp only [maxLen]; omega
               · omega
               · assumption
               intro v70 w70 hown70 hg70 hb70))
        all_goals
          go_wp2
          go_roundw
          case rel =>
            refine ⟨k + 1, by omega, by go_num, ?_, hb70⟩
            rw [hts.out, runStep_nil]
            simpa [flat, enc64] using hown70
          case measure => simp [intOf]; omega
      · rw [hr, List.concat_eq_append] at hown hts hrl hkey
        have hkp := hkey p (by simp)
        have hksucc := key_succ f p.2 x hkp
        have hp1 := up32_key' p.2 f
        have hlen : (rs ++ [p]).length = rs.length + 1 := by simp
        have hfs := flat_snd enc64 (rs ++ [p]) rs.length (by simp)
        have hff := flat_fst enc64 (rs ++ [p]) rs.length (by simp)
        rw [List.getElem_concat_length (by rfl)] at hfs hff
        have hown0 := hown
        rw [hlen] at hown hrl
        obtain ⟨g, co, rfl, hg, hgl⟩ := own_form hown (by omega)
        have hcp : wr.cell? ⟨g, rs.length * 2 + 1, none⟩ = some (.int .i64 (p.2.toNat : Int)) := (hown.cellAt _ (by omega)).trans hfs
        have hcf : wr.cell? ⟨g, rs.length * 2, none⟩ = some (.int .i64 (p.1.toNat : Int)) := (hown.cellAt _ (by omega)).trans hff
        have hco : rs.length + 1 ≤ co := by
          rcases hown.2 with ⟨h, _⟩ | ⟨_, _, _, h, _, _, h3, _⟩
          · cases h
          · cases h; exact h3
        have HS1 := Lib.hid (show ∀ W, Below wr.heap.size wr W → Src W 2 (.slice (some ⟨g, 0, none⟩) rs.length co) rs.length (flat enc64 rs) from fun W hW => Src.row (by rw [length_flat]) (fun j hj => by
          rw [Nat.zero_add, hW.cell (p := ⟨g, j, none⟩) hgl, hown.cellAt j (by omega), flat_append, List.getElem?_append_left (by rw [length_flat]; exact hj)]))
        have hpl := p.2.toNat_lt
        have hpl1 := p.1.toNat_lt
        have HOWN := Lib.hid hown
        generalize hm : rs.length = m at *
        have HM := Lib.hid hm
        have hg2 : (⟨g, m * 2, none⟩ : Addr).block < wr.heap.size := hgl
        have hm0 : (0 : Int) ≤ (m : Int) := Int.natCast_nonneg _
        have hmk : m + 1 ≤ k := by omega
        clear hm hown hown0 hr hlen hfs hff hrl hkey
        by_cases hpx : p.2 + 1 = x
        · have hq := Lib.hid (runStep_yes rs p x hpx)
          have T1 : (up32 (x.toNat : Int) (f.toNat : Int) == up32 (p.2.toNat : Int) (f.toNat : Int) + 1) = true := by rw [hx1, hp1, beq_iff_eq]; have := hksucc.1 hpx; omega
          have T2 : decide ((0 : Int) < (m : Int) + 1) = true := decide_eq_true (by omega)
          have HP := Lib.hid (show ∀ W, Below wr.heap.size wr W → W.cell? ⟨b, off + k, none⟩ = some (.int .i64 (x.toNat : Int)) ∧ W.cell? ⟨g, m * 2, none⟩ = some (.int .i64 (p.1.toNat : Int)) ∧ Below wr.heap.size wr W from fun W hW => ⟨(hW.cell (p := ⟨b, off + k, none⟩) hb2).trans hck, (hW.cell (p := ⟨g, m * 2, none⟩) hg2).trans hcf, hW⟩)
          have hmc : (m : Int) ≤ (co : Int) := by omega
          have hmw : IntKind.i64.wrap (m : Int) = (m : Int) := IntWalk.i64_in _ (by omega)
          have hmlt : (m : Int) < (m : Int) + 1 := by omega
          have hu0 := up32_lo (p.2.toNat : Int) (f.toNat : Int)
          have hu1 := up32_hi (p.2.toNat : Int) (f.toNat : Int)
          clear hpx hx1 hp1 hksucc hkp
          go_wp2_with fail
          go_quiet ((go_at_call 30; first | exact quiet_add_left (above_any _ _ (by omega) (by omega) (by omega) (by omega) _) | exact quiet_left (above_any _ _ (by omega) (by omega) (by omega) (by omega) _)))
          go_wp2_with fail
          have hb9 : Below wr.heap.size wr (wr.drewN nq) := below_drewN (Below.refl _ _) _
          generalize wr.drewN nq = w9 at hb9 ⊢
          have hs9 := hb9.size
          go_region_held3 (fun w' => w'.cell? ⟨b, off + k, none⟩ = some (.int .i64 (x.toNat : Int)) ∧ w'.cell? ⟨g, m * 2, none⟩ = some (.int .i64 (p.1.toNat : Int)) ∧ Below wr.heap.size wr w')
            (first
              | exact HP.out _ hb9.drew
              | (go_split_ands; refine HP.out _ ?_; assumption)
              | (go_split_ands; refine HP.out _ (Below.drew (Below.alloc (undrew ?_) (Below.size (B := wr.heap.size) (undrew ?_)) _)) <;> assumption)
              | (go_split_ands; refine HP.out _ (Below.alloc ?_ (Below.size (B := wr.heap.size) ?_) _) <;> assumption))
            (first
              | (go_split_ands
                 refine step_append_src _ (by rfl) (.tmp 40) (.tmp 44) _ (by rfl) wr 41 i0 _ 2 16 Try.underlying36 hi0 hz0 hz1 hz2 rfl (by omega) _ 0 [] (by rfl) ?_ _ _ _ (by rfl) (HS1.out _ ?_) flat64_cells ?_ ?_ ?_ ?_
                 first | exact (own_none (heap_new_at _ _ (by simp)) (by first | omega | (simp; omega))).drew | exact (own_none (heap_second_at _ _ _ (by simp)) (by first | omega | (simp; omega))).drew
                 · assumption
                 · simp only [maxLen]; omega
                 · omega
                 · assumption
                 intro v45 w45 hown45 hg45 hb45)
              | (go_split_ands
                 refine step_append_src _ (by rfl) (.tmp 45) (.tmp 57) _ (by rfl) wr 41 i0 _ 2 16 Try.underlying36 hi0 hz0 hz1 hz2 rfl (by omega) _ (0 + m) ([] ++ flat enc64 rs) (by rfl) ?_ _ 1 [.int .i64 (p.1.toNat : Int), .int .i64 (x.toNat : Int)] (by rfl) ?_ ?_ ?_ ?_ ?_ ?_
                 · first | exact hown45 | exact hown45.alloc _
                 · first | exact Src.block (t := 41) (heap_new_at _ _ (by simp)) rfl | exact Src.grown (t := 41) (undrew_heap (heap_new_at _ _ (by simp))) rfl hg45 (by show some _ ≠ some _; simp) | exact Src.grown (t := 41) (undrew_heap (heap_second_at _ _ _ (by simp))) rfl hg45 (by show some _ ≠ some _; simp)
                 · intro u hu; simp at hu; rcases hu with rfl | rfl <;> rfl
                 · simp only [maxLen]; omega
                 · omega
                 · assumption
                 intro v58 w58 hown58 hg58 hb58))
          all_goals
            go_wp2
            go_roundw
            case rel =>
              refine ⟨k + 1, by omega, by go_num, ?_, hbr.trans (hb58.mono hs2)⟩
              rw [hts.out, hq.out]
              have h := own_base hown58 hs2
              rw [show (rs ++ [(p.1, x)]).length = 0 + m + 1 by have := HM.out; simp; omega, show flat enc64 (rs ++ [(p.1, x)]) = ([] ++ flat enc64 rs) ++ [.int .i64 (p.1.toNat : Int), .int .i64 (x.toNat : Int)] by rw [flat_append]; simp [flat, enc64]]
              exact h
            case measure => simp [intOf]; omega
        · have hq := Lib.hid (runStep_no rs p x hpx)
          have T1 : (up32 (x.toNat : Int) (f.toNat : Int) == up32 (p.2.toNat : Int) (f.toNat : Int) + 1) = false := by rw [hx1, hp1, beq_eq_false_iff_ne]; intro h; exact hpx (hksucc.2 (by omega))
          have T2 : decide ((0 : Int) < (m : Int) + 1) = true := decide_eq_true (by omega)
          have HP := Lib.hid (show ∀ W, Below w1.heap.size w1 W → W.cell? ⟨b, off + k, none⟩ = some (.int .i64 (x.toNat : Int)) ∧ Below w1.heap.size w1 W from fun W hW => ⟨(hW.cell (p := ⟨b, off + k, none⟩) hb).trans hck1, hW⟩)
          have hu0 := up32_lo (p.2.toNat : Int) (f.toNat : Int)
          have hu1 := up32_hi (p.2.toNat : Int) (f.toNat : Int)
          clear hpx hx1 hp1 hksucc hkp
          go_wp2_with fail
          go_quiet ((go_at_call 30; first | exact quiet_add_left (above_any _ _ (by omega) (by omega) (by omega) (by omega) _) | exact quiet_left (above_any _ _ (by omega) (by omega) (by omega) (by omega) _)))
          go_wp2_with fail
          have hb9 : Below wr.heap.size wr (wr.drewN nq) := below_drewN (Below.refl _ _) _
          have hown9 : World.ownsRow (wr.drewN nq) w1.heap.size 41 2 (.slice (some ⟨g, 0, none⟩) (m + 1) co) (m + 1) (flat enc64 (rs ++ [p])) := HOWN.out
          generalize wr.drewN nq = w9 at hb9 hown9 ⊢
          have hs9 := hb9.size
          go_region_held3 (fun w' => w'.cell? ⟨b, off + k, none⟩ = some (.int .i64 (x.toNat : Int)) ∧ Below w1.heap.size w1 w')
            (first
              | exact HP.out _ (hbr.trans (hb9.mono hbr.size)).drew
              | (go_split_ands; refine HP.out _ ?_; assumption)
              | (go_split_ands; refine HP.out _ (Below.drew (Below.alloc (undrew ?_) (Below.size (B := w1.heap.size) (undrew ?_)) _)) <;> assumption)
              | (go_split_ands; refine HP.out _ (Below.alloc ?_ (Below.size (B := w1.heap.size) ?_) _) <;> assumption))
            (first
              | (go_split_ands
                 refine step_append_src _ (by rfl) (.tmp 59) (.tmp 69) _ (by rfl) w1 41 i0 _ 2 16 Try.underlying36 hi0 hz0 hz1 hz2 rfl (by omega) _ _ _ (by rfl) ((hown9.alloc _).drew) _ 1 [.int .i64 (x.toNat : Int), .int .i64 (x.toNat : Int)] (by rfl) ?_ ?_ ?_ ?_ ?_ ?_
                 · exact Src.drew (Src.block (t := 41) (heap_new_at _ _ (by simp)) rfl)
                 · intro u hu; simp at hu; subst hu; rfl
                 · simp only [maxLen]; omega
                 · omega
                 · assumption
                 intro v70 w70 hown70 hg70 hb70))
          all_goals
            go_wp2
            go_roundw
            case rel =>
              refine ⟨k + 1, by omega, by go_num, ?_, hb70⟩
              rw [hts.out, hq.out, show ((rs ++ [p]) ++ [(x, x)]).length = m + 1 + 1 by have := HM.out; simp; omega, flat_append _ (rs ++ [p]) _]
              simpa [flat, enc64] using hown70
            case measure => simp [intOf]; omega
    · have hkk : k = s.length := by omega
      subst hkk
      rw [List.take_length] at hown
      go_wp2
      go_ret
      rw [HSD.out]
      exact ⟨_, rfl, own_base hown HB1.out.size, HB1.out.trans (hbr.mono HB1.out.size)⟩
end Go.Proofs.Ytgahpfoejecihaa
