/-
  The document's answer to layer 1 on lists (towlineref1.Sorted), and the law's own helpers on lists (ints, same).
-/
import Derived.Test.YtgahpfoejecihaaSort
import Derived.Test.YtgahpfoejecihaaWords
import Derived.Deep.RegionHeld3
import Derived.Deep.AppendLies
import Derived.Deep.QuietTactic
import Derived.BigQuiet
namespace Go.Proofs.Ytgahpfoejecihaa
open Go.RowKit Go.Sort Go.Lib

theorem info3 : (Try.prog.info? 3).map (fun i => (i.zero, i.size, i.bytes)) = some (some (.int .i64 0), 1, 8) := by kernel_rfl

theorem enc64_cells {l : List UInt32} : ∀ u ∈ l.map enc64, u.oneCell' = true := by
  intro u hu
  obtain ⟨x, _, rfl⟩ := List.mem_map.1 hu
  rfl

set_option maxHeartbeats 1000000 in
theorem ints_any (l : List UInt32) (v : Value) (w : World) (hv : RowE enc32 w v l) (hsz : l.length ≤ 200) :
    Calls Try.prog 24 #[v] w fun e w' => ∃ v', e = .returned v' ∧ RowE enc64 w' v' l ∧ Below w.heap.size w w' := by
  obtain ⟨i0, hi0, hz0, hz1, hz2⟩ := info_parts info3
  obtain ⟨A, cap, rfl, hcap, hmax, hcells⟩ := hv
  have HCELL := Lib.hid hcells
  clear hcells
  go_enter Try.func24, Try.ntmps24
  go_wp2_with fail
  go_loopw [3, 4] (fun vo i wr => ∃ k : Nat, k ≤ l.length ∧ i = .int .i64 k ∧ wr.ownsRow w.heap.size 3 1 vo k ((l.take k).map enc64) ∧ Below w.heap.size w wr)
    (fun _ i _ => l.length - (intOf i).toNat)
  case atStart => exact ⟨0, Nat.zero_le _, rfl, World.ownsRow_nil _ _ _ _, Below.refl _ _⟩
  case round =>
    obtain ⟨k, hk, rfl, hown, hbr⟩ := hrel
    have hs2 := hbr.size
    by_cases hlt : k < l.length
    · obtain ⟨b, off, rfl, hb, hc⟩ := HCELL.out (by omega)
      have hck : wr.cell? ⟨b, off + k, none⟩ = some (.int .u32 (l[k]!.toNat : Int)) := (hbr.cell (p := ⟨b, off + k, none⟩) hb).trans (hc k hlt)
      have hts := Lib.hid (take_succ' l k hlt)
      generalize l[k]! = y at *
      have hyl := y.toNat_lt
      have HOWN := Lib.hid hown
      clear hc hown
      go_wp2_with (at_builtin; refine wpList_append_own _ rfl (.tmp 11) (.tmp 17) 38 rfl w.heap.size 3 i0 (.int .i64 0) 1 8 Try.underlying38 hi0 hz0 hz1 hz2 rfl (by decide) _ _ _ rfl (HOWN.out.alloc _) ⟨wr.heap.size, 0, none⟩ 1 1 [.int .i64 (y.toNat : Int)] rfl rfl ?c1 ?c2 ?c3 ?c4 ?c5 ?_)
      case c1 => exact new_cells wr _ _
      case c2 => intro u hu; simp at hu; subst hu; rfl
      case c3 => simp only [maxLen]; omega
      case c4 => omega
      case c5 => simp; omega
      intro v2 w2 hown2 hg2 _
      have HB2 := Lib.hid (below_append ((Below.refl w.heap.size w).trans (hbr.alloc hs2 _)) (by simp; omega) (HOWN.out.alloc _) hg2)
      have HOWN2 := Lib.hid hown2
      clear hown2 hg2
      go_wp2
      go_roundw
      case rel =>
        refine ⟨k + 1, by omega, by go_num, ?_, HB2.out⟩
        rw [hts.out]
        simpa [enc64] using HOWN2.out
      case measure => simp [intOf]; omega
    · have hkk : k = l.length := by omega
      subst hkk
      rw [List.take_length] at hown
      go_wp2
      go_ret
      exact ⟨_, rfl, row_of_own hown, hbr⟩

set_option maxHeartbeats 1000000 in
theorem same_any (l : List UInt32) (v v2 : Value) (w : World) (hv : RowE enc32 w v l) (hv2 : RowE enc64 w v2 l) :
    Calls Try.prog 27 #[v, v2] w fun e w' => e = .returned (.bool true) ∧ ∃ q, w' = w.drewN q := by
  obtain ⟨A1, c1, rfl, _, hm1, g1⟩ := hv
  obtain ⟨A2, c2, rfl, _, _, g2⟩ := hv2
  have HR1 := Lib.hid g1
  have HR2 := Lib.hid g2
  clear g1 g2
  have hml : l.length ≤ 9223372036854775807 := by unfold maxLen at hm1; omega
  clear hm1
  go_enter Try.func27, Try.ntmps27
  go_wp2_with fail
  go_loopw [5] (fun i wr => ∃ (k q : Nat), k ≤ l.length ∧ i = .int .i64 k ∧ wr = w.drewN q) (fun i _ => l.length - (intOf i).toNat)
  case atStart => exact ⟨0, 0, Nat.zero_le _, rfl, rfl⟩
  case round =>
    obtain ⟨k, q, hk, rfl, rfl⟩ := hrel
    by_cases hlt : k < l.length
    · obtain ⟨b1, o1, rfl, hb1, g1⟩ := HR1.out (by omega)
      obtain ⟨b2, o2, rfl, hb2, g2⟩ := HR2.out (by omega)
      have e1 := g1 k hlt
      have e2 := g2 k hlt
      have i0' : (0 : Int) ≤ (k : Int) := Int.natCast_nonneg _
      have i1' : (k : Int) < (l.length : Int) := by omega
      generalize l[k]! = y at *
      have hyl := y.toNat_lt
      unfold enc32 at e1
      unfold enc64 at e2
      clear g1 g2
      go_wp2_with fail
      go_quiet (fail)
      go_wp2
      go_roundw
      case rel => exact ⟨k + 1, _, by omega, by go_num, rfl⟩
      case measure => simp [intOf]; omega
    · go_wp2
      go_ret
      exact ⟨rfl, _, rfl⟩

/-- Where a number is put in: behind all that are less far above f. -/
theorem ins_at (f x : UInt32) (s : List UInt32) (k : Nat) (hk : k ≤ s.length) (h1 : ∀ j, j < k → s[j]! - f < x - f) (h2 : k < s.length → ¬ s[k]! - f < x - f) :
    ins f x s = if k < s.length ∧ s[k]! = x then s else s.take k ++ x :: s.drop k := by
  induction s generalizing k with
  | nil =>
    have : k = 0 := by simpa using hk
    subst this
    simp [ins]
  | cons y ys ih =>
    unfold ins
    cases k with
    | zero =>
      have h := h2 (by simp)
      simp only [List.getElem!_cons_zero] at h ⊢
      rw [if_neg h]
      by_cases e : y = x
      · simp [e]
      · simp [e]
    | succ k =>
      have h := h1 0 (by omega)
      simp only [List.getElem!_cons_zero] at h
      rw [if_pos h, ih k (by simpa using hk) (fun j hj => by have := h1 (j + 1) (by omega); simpa using this) (fun hlt => by have := h2 (by simpa using hlt); simpa using this)]
      by_cases hc : k < ys.length ∧ ys[k]! = x
      · rw [if_pos hc, if_pos (by simpa using hc)]
      · rw [if_neg hc, if_neg (by simpa using hc)]
        simp

set_option maxHeartbeats 2000000 in
set_option maxRecDepth 100000 in
theorem rsorted_any (f : UInt32) (l : List UInt32) (v : Value) (w : World) (hv : RowE enc64 w v l) (hsz : l.length ≤ 200) :
    Calls Try.prog 29 #[v, .int .i64 (f.toNat : Int)] w fun e w' => ∃ v', e = .returned v' ∧ RowE enc64 w' v' (srt f l) ∧ Below w.heap.size w w' := by
  obtain ⟨i0, hi0, hz0, hz1, hz2⟩ := info_parts info3
  obtain ⟨A, cap, rfl, hcap, hmax, hcells⟩ := hv
  have HCELL := Lib.hid hcells
  clear hcells
  have hf := f.toNat_lt
  go_enter Try.func29, Try.ntmps29
  go_wp2_with fail
  go_loopw [5, 6, 7] (fun vo i _ wr => ∃ k : Nat, k ≤ l.length ∧ i = .int .i64 k ∧ wr.ownsRow w.heap.size 3 1 vo (srt f (l.take k)).length ((srt f (l.take k)).map enc64) ∧ Below w.heap.size w wr)
    (fun _ i _ _ => l.length - (intOf i).toNat)
  case atStart => exact ⟨0, Nat.zero_le _, rfl, World.ownsRow_nil _ _ _ _, Below.refl _ _⟩
  case round =>
    obtain ⟨k, hk, rfl, hown, hbr⟩ := hrel
    have hs2 := hbr.size
    by_cases hlt : k < l.length
    · obtain ⟨b, off, rfl, hb, hc⟩ := HCELL.out (by omega)
      have hck : wr.cell? ⟨b, off + k, none⟩ = some (.int .i64 (l[k]!.toNat : Int)) := (hbr.cell (p := ⟨b, off + k, none⟩) hb).trans (hc k hlt)
      have hts := Lib.hid (show srt f (l.take (k + 1)) = ins f l[k]! (srt f (l.take k)) by rw [take_succ' l k hlt, srt_snoc])
      have hsl := length_srt_le f (l.take k)
      rw [List.length_take] at hsl
      generalize l[k]! = x at *
      generalize srt f (l.take k) = s at *
      have hxl := x.toNat_lt
      have HOWN := Lib.hid hown
      obtain ⟨Ao, co, rfl, _, _, _⟩ := own_slice hown
      have i0' : (0 : Int) ≤ (k : Int) := Int.natCast_nonneg _
      have i1' : (k : Int) < (l.length : Int) := by omega
      clear hc hown
      go_wp2_with fail
      obtain ⟨wo, rfl⟩ : ∃ wo : World, wo = wr := ⟨_, rfl⟩
      go_loopw [7] (fun j w2 => ∃ (m q : Nat), m ≤ s.length ∧ j = .int .i64 m ∧ Hid (∀ i, i < m → s[i]! - f < x - f) ∧ w2 = wo.drewN q) (fun j _ => s.length - (intOf j).toNat)
      case atStart => exact ⟨0, 0, Nat.zero_le _, rfl, fun i hi => absurd hi (by omega), rfl⟩
      case round =>
        obtain ⟨m, q, hm, rfl, HB1, rfl⟩ := hrel
        have m0' : (0 : Int) ≤ (m : Int) := Int.natCast_nonneg _
        by_cases hml : m < s.length
        · obtain ⟨g, co', e, hg, hgl⟩ := own_form HOWN.out (by omega)
          cases e
          have m1' : (m : Int) < (s.length : Int) := by omega
          have e1 : wo.cell? ⟨g, m, none⟩ = some (enc64 s[m]!) := by rw [HOWN.out.cellAt _ (by omega), List.getElem?_map, List.getElem?_eq_getElem hml, getElem!_pos s m hml]; rfl
          unfold enc64 at e1
          have T0 : decide ((m : Int) < (s.length : Int)) = true := decide_eq_true (by omega)
          have s1 := sub_toNat s[m]! f
          have s2 := sub_toNat x f
          by_cases hlt2 : s[m]! - f < x - f
          · have HB2 := Lib.hid (show ∀ i, i < m + 1 → s[i]! - f < x - f from fun i hi => by
              by_cases e : i = m
              · subst e; exact hlt2
              · exact HB1.out i (by omega))
            generalize s[m]! = y at *
            have hyl := y.toNat_lt
            have T1 : decide (up32 (y.toNat : Int) (f.toNat : Int) < up32 (x.toNat : Int) (f.toNat : Int)) = true := by
              unfold up32; rw [s1, s2]; rw [UInt32.lt_iff_toNat_lt] at hlt2; exact decide_eq_true (by omega)
            clear s1 s2 hlt2
            go_wp2_with fail
            go_quiet ((go_at_call 30; exact quiet_add_left (above_any _ _ (by omega) (by omega) (by omega) (by omega) _)))
            go_wp2
            go_roundw
            case rel => exact ⟨m + 1, _, by omega, by go_num, HB2.out, rfl⟩
            case measure => simp [intOf]; omega
          · have T1 : decide (up32 (s[m]!.toNat : Int) (f.toNat : Int) < up32 (x.toNat : Int) (f.toNat : Int)) = false := by
              unfold up32; rw [s1, s2]; rw [UInt32.lt_iff_toNat_lt] at hlt2; exact decide_eq_false (by omega)
            have HINS := Lib.hid (ins_at f x s m hm HB1.out (fun _ => hlt2))
            have hyl := s[m]!.toNat_lt
            have T2 : ((m : Int) == (s.length : Int)) = false := by rw [beq_eq_false_iff_ne]; omega
            clear s1 s2 hlt2
            by_cases hyx : s[m]! = x
            · have T3 : ((s[m]!.toNat : Int) != (x.toNat : Int)) = false := by rw [hyx]; simp
              have HS := Lib.hid (show ins f x s = s by rw [HINS.out, if_pos ⟨hml, hyx⟩])
              generalize s[m]! = y at *
              clear hyx
              go_wp2_with fail
              go_quiet ((go_at_call 30; exact quiet_add_left (above_any _ _ (by omega) (by omega) (by omega) (by omega) _)))
              go_wp2_with fail
              go_quiet (fail)
              go_wp2
              go_roundw
              case rel => exact ⟨k + 1, by omega, by go_num, by rw [hts.out, HS.out]; exact HOWN.out, below_drewN hbr _⟩
              case measure => simp [intOf]; omega
            · have T3 : ((s[m]!.toNat : Int) != (x.toNat : Int)) = true := by
                rw [bne_iff_ne]; intro h; apply hyx; apply UInt32.toNat_inj.1; omega
              have HS := Lib.hid (show ins f x s = s.take m ++ x :: s.drop m by rw [HINS.out, if_neg (fun h => hyx h.2)])
              have hmco : m < co := by omega
              have hcm : ¬ co = m := by omega
              have hmc1 : (m : Int) ≤ (co : Int) := by omega
              have hs200 : s.length ≤ 200 := by omega
              have hb2 : (⟨b, off + k, none⟩ : Addr).block < wo.heap.size := by show b < _; omega
              have HS1 := Lib.hid (show ∀ W, Below wo.heap.size wo W → Src W 1 (.slice (some ⟨g, 0, none⟩) m co) m ((s.take m).map enc64) from fun W hW => Src.row (by simp; omega) (fun j hj => by
                rw [Nat.mul_one] at hj
                rw [Nat.zero_add, hW.cell (p := ⟨g, j, none⟩) hgl, HOWN.out.cellAt j (by omega), List.getElem?_map, List.getElem?_map, List.getElem?_take, if_pos hj]))
              have HS2 := Lib.hid (show ∀ W, Below wo.heap.size wo W → Src W 1 (.slice (some ⟨g, m, none⟩) (s.length - m) (co - m)) (s.length - m) ((s.drop m).map enc64) from fun W hW => Src.row (by simp) (fun j hj => by
                rw [Nat.mul_one] at hj
                rw [hW.cell (p := ⟨g, m + j, none⟩) hgl, HOWN.out.cellAt (m + j) (by omega), List.getElem?_map, List.getElem?_map, List.getElem?_drop]))
              generalize s[m]! = y at *
              clear hyx
              go_wp2_with fail
              go_quiet ((go_at_call 30; exact quiet_add_left (above_any _ _ (by omega) (by omega) (by omega) (by omega) _)))
              obtain ⟨n1, rfl⟩ : ∃ n, n = nq := ⟨_, rfl⟩
              go_wp2_with fail
              go_quiet (fail)
              obtain ⟨n2, rfl⟩ : ∃ n, n = nq := ⟨_, rfl⟩
              go_wp2_with fail
              have hb9 : Below wo.heap.size wo (((wo.drewN q).drewN n1).drewN n2) := below_drewN (below_drewN (below_drewN (Below.refl _ _) _) _) _
              generalize ((wo.drewN q).drewN n1).drewN n2 = w9 at hb9 ⊢
              have hs9 := hb9.size
              have HP := Lib.hid (show ∀ W, Below wo.heap.size wo W → W.cell? ⟨b, off + k, none⟩ = some (.int .i64 (x.toNat : Int)) ∧ Below wo.heap.size wo W from fun W hW => ⟨(hW.cell (p := ⟨b, off + k, none⟩) hb2).trans hck, hW⟩)
              go_region_held3 (fun w' => w'.cell? ⟨b, off + k, none⟩ = some (.int .i64 (x.toNat : Int)) ∧ Below wo.heap.size wo w')
                (first
                  | exact HP.out _ hb9.drew
                  | (go_split_ands; refine HP.out _ ?_; assumption)
                  | (go_split_ands; refine HP.out _ (Below.drew (Below.alloc (undrew ?_) (Below.size (B := wo.heap.size) (undrew ?_)) _)) <;> assumption)
                  | (go_split_ands; refine HP.out _ (Below.alloc ?_ (Below.size (B := wo.heap.size) ?_) _) <;> assumption))
                (first
                  | (go_split_ands
                     refine step_append_src _ (by rfl) (.tmp 50) (.tmp 53) _ (by rfl) wo 3 i0 _ 1 8 Try.underlying38 hi0 hz0 hz1 hz2 rfl (by omega) _ 0 [] (by rfl) ?_ _ _ _ (by rfl) (HS1.out _ ?_) enc64_cells ?_ ?_ ?_ ?_
                     first | exact (own_none (heap_new_at _ _ (by simp)) (by first | omega | (simp; omega))).drew | exact (own_none (heap_second_at _ _ _ (by simp)) (by first | omega | (simp; omega))).drew
                     · assumption
                     · simp only [maxLen]; omega
                     · omega
                     · assumption
                     intro v54 w54 hown54 hg54 hb54)
                  | (go_split_ands
                     refine step_append_src _ (by rfl) (.tmp 54) (.tmp 59) _ (by rfl) wo 3 i0 _ 1 8 Try.underlying38 hi0 hz0 hz1 hz2 rfl (by omega) _ (0 + m) ([] ++ (s.take m).map enc64) (by rfl) ?_ _ 1 [.int .i64 (x.toNat : Int)] (by rfl) (Src.one ?_) ?_ ?_ ?_ ?_ ?_
                     first | exact hown54 | exact hown54.alloc _
                     first | exact cell_new_at _ _ _ (by simp) | exact hg54.cell ((World.cell?_drew _ _).trans (cell_new_at _ _ _ (by simp))) (by show some _ ≠ some _; simp) | exact hg54.cell ((World.cell?_drew _ _).trans (cell_second_at _ _ _ _ (by simp))) (by show some _ ≠ some _; simp)
                     · intro u hu; simp at hu; subst hu; rfl
                     · simp only [maxLen]; omega
                     · omega
                     · assumption
                     intro v60 w60 hown60 hg60 hb60)
                  | (go_split_ands
                     refine step_append_src _ (by rfl) (.tmp 60) (.tmp 63) _ (by rfl) wo 3 i0 _ 1 8 Try.underlying38 hi0 hz0 hz1 hz2 rfl (by omega) _ _ _ (by rfl) hown60 _ _ _ (by rfl) (HS2.out _ ?_) enc64_cells ?_ ?_ ?_ ?_
                     · assumption
                     · simp only [maxLen]; omega
                     · omega
                     · assumption
                     intro v64 w64 hown64 hg64 hb64))
              all_goals
                go_wp2
                go_roundw
                case rel =>
                  refine ⟨k + 1, by omega, by go_num, ?_, hbr.trans (hb64.mono hs2)⟩
                  rw [hts.out, HS.out, show (s.take m ++ x :: s.drop m).length = 0 + m + 1 + (s.length - m) by simp; omega, show (s.take m ++ x :: s.drop m).map enc64 = ([] ++ (s.take m).map enc64) ++ [.int .i64 (x.toNat : Int)] ++ (s.drop m).map enc64 by simp [enc64]]
                  exact own_base hown64 hs2
                case measure => simp [intOf]; omega
        · have T0 : decide ((m : Int) < (s.length : Int)) = false := decide_eq_false (by omega)
          have T2 : ((m : Int) == (s.length : Int)) = true := by rw [beq_iff_eq]; omega
          have HS := Lib.hid (show ins f x s = s.take m ++ x :: s.drop m by rw [ins_at f x s m hm HB1.out (fun h => absurd h hml), if_neg (fun h => hml h.1)])
          have hs200 : s.length ≤ 200 := by omega
          have hb2 : (⟨b, off + k, none⟩ : Addr).block < wo.heap.size := by show b < _; omega
          have hms : m = s.length := by omega
          rcases HOWN.out.2 with ⟨hnil, hn0⟩ | ⟨g, cap', cur, hv, hg, hh, h1, h2, _⟩
          · have hnil2 : Ao = none ∧ co = 0 := by injection hnil with h1 _ h3; exact ⟨h1, h3⟩
            obtain ⟨rfl, rfl⟩ := hnil2
            obtain rfl : s = [] := List.eq_nil_of_length_eq_zero hn0
            obtain rfl : m = 0 := by simpa using hms
            clear hnil
            have HS1 := Lib.hid (show ∀ W, Below wo.heap.size wo W → Src W 1 (.slice none 0 0) 0 (([] : List UInt32).map enc64) from fun W _ => Src.nil W 1)
            clear hms hn0
            go_wp2_with fail
            go_quiet (fail)
            obtain ⟨n1, rfl⟩ : ∃ n, n = nq := ⟨_, rfl⟩
            go_wp2_with fail
            go_quiet (fail)
            obtain ⟨n2, rfl⟩ : ∃ n, n = nq := ⟨_, rfl⟩
            go_wp2_with fail
            have hb9 : Below wo.heap.size wo (((wo.drewN q).drewN n1).drewN n2) := below_drewN (below_drewN (below_drewN (Below.refl _ _) _) _) _
            generalize ((wo.drewN q).drewN n1).drewN n2 = w9 at hb9 ⊢
            have hs9 := hb9.size
            have HP := Lib.hid (show ∀ W, Below wo.heap.size wo W → W.cell? ⟨b, off + k, none⟩ = some (.int .i64 (x.toNat : Int)) ∧ Below wo.heap.size wo W from fun W hW => ⟨(hW.cell (p := ⟨b, off + k, none⟩) hb2).trans hck, hW⟩)
            go_region_held3 (fun w' => w'.cell? ⟨b, off + k, none⟩ = some (.int .i64 (x.toNat : Int)) ∧ Below wo.heap.size wo w')
              (first
                | exact HP.out _ hb9.drew
                | (go_split_ands; refine HP.out _ ?_; assumption)
                | (go_split_ands; refine HP.out _ (Below.drew (Below.alloc (undrew ?_) (Below.size (B := wo.heap.size) (undrew ?_)) _)) <;> assumption)
                | (go_split_ands; refine HP.out _ (Below.alloc ?_ (Below.size (B := wo.heap.size) ?_) _) <;> assumption))
              (first
                | (go_split_ands
                   refine step_append_src _ (by rfl) (.tmp 50) (.tmp 53) _ (by rfl) wo 3 i0 _ 1 8 Try.underlying38 hi0 hz0 hz1 hz2 rfl (by omega) _ 0 [] (by rfl) ?_ _ _ _ (by rfl) (HS1.out _ ?_) enc64_cells ?_ ?_ ?_ ?_
                   first | exact (own_none (heap_new_at _ _ (by simp)) (by first | omega | (simp; omega))).drew | exact (own_none (heap_second_at _ _ _ (by simp)) (by first | omega | (simp; omega))).drew
                   · assumption
                   · simp only [maxLen]; omega
                   · omega
                   · assumption
                   intro v54 w54 hown54 hg54 hb54)
                | (go_split_ands
                   refine step_append_src _ (by rfl) (.tmp 54) (.tmp 59) _ (by rfl) wo 3 i0 _ 1 8 Try.underlying38 hi0 hz0 hz1 hz2 rfl (by omega) _ (0 + 0) ([] ++ ([] : List UInt32).map enc64) (by rfl) ?_ _ 1 [.int .i64 (x.toNat : Int)] (by rfl) (Src.one ?_) ?_ ?_ ?_ ?_ ?_
                   first | exact hown54 | exact hown54.alloc _
                   first | exact cell_new_at _ _ _ (by simp) | exact hg54.cell ((World.cell?_drew _ _).trans (cell_new_at _ _ _ (by simp))) (by show some _ ≠ some _; simp) | exact hg54.cell ((World.cell?_drew _ _).trans (cell_second_at _ _ _ _ (by simp))) (by show some _ ≠ some _; simp)
                   · intro u hu; simp at hu; subst hu; rfl
                   · simp only [maxLen]; omega
                   · omega
                   · assumption
                   intro v60 w60 hown60 hg60 hb60)
                | (go_split_ands
                   refine step_append_src _ (by rfl) (.tmp 60) (.tmp 63) _ (by rfl) wo 3 i0 _ 1 8 Try.underlying38 hi0 hz0 hz1 hz2 rfl (by omega) _ _ _ (by rfl) hown60 _ _ _ (by rfl) (HS1.out _ ?_) enc64_cells ?_ ?_ ?_ ?_
                   · assumption
                   · simp only [maxLen]; omega
                   · omega
                   · assumption
                   intro v64 w64 hown64 hg64 hb64))
            all_goals
              go_wp2
              go_roundw
              case rel =>
                refine ⟨k + 1, by omega, by go_num, ?_, hbr.trans (hb64.mono hs2)⟩
                rw [hts.out, HS.out, show (([] : List UInt32).take 0 ++ x :: ([] : List UInt32).drop 0).length = 0 + 0 + 1 + 0 by simp, show (([] : List UInt32).take 0 ++ x :: ([] : List UInt32).drop 0).map enc64 = ([] ++ ([] : List UInt32).map enc64) ++ [.int .i64 (x.toNat : Int)] ++ ([] : List UInt32).map enc64 by simp [enc64]]
                exact own_base hown64 hs2
              case measure => simp [intOf]; omega
          · cases hv
            have hgl : g < wo.heap.size := (Array.getElem?_eq_some_iff.1 hh).1
            have hmc1 : (m : Int) ≤ (co : Int) := by omega
            have HS1 := Lib.hid (show ∀ W, Below wo.heap.size wo W → Src W 1 (.slice (some ⟨g, 0, none⟩) m co) m ((s.take m).map enc64) from fun W hW => Src.row (by simp; omega) (fun j hj => by
              rw [Nat.mul_one] at hj
              rw [Nat.zero_add, hW.cell (p := ⟨g, j, none⟩) hgl, HOWN.out.cellAt j (by omega), List.getElem?_map, List.getElem?_map, List.getElem?_take, if_pos hj]))
            clear hh
            by_cases hcm : co = m
            · have HS2 := Lib.hid (show ∀ W, Below wo.heap.size wo W → Src W 1 (.slice (some ⟨g, 0, none⟩) 0 0) 0 (([] : List UInt32).map enc64) from fun W _ => Src.none_left W 1 _ _)
              have HSb := Lib.hid (show ins f x s = s ++ [x] by rw [HS.out, hms]; simp)
              have HS1b := Lib.hid (show ∀ W, Below wo.heap.size wo W → Src W 1 (.slice (some ⟨g, 0, none⟩) s.length s.length) s.length (s.map enc64) from fun W hW => by have := HS1.out W hW; rwa [hcm, hms, List.take_length] at this)
              subst hms
              subst hcm
              go_wp2_with fail
              go_quiet (fail)
              obtain ⟨n1, rfl⟩ : ∃ n, n = nq := ⟨_, rfl⟩
              go_wp2_with fail
              go_quiet (fail)
              obtain ⟨n2, rfl⟩ : ∃ n, n = nq := ⟨_, rfl⟩
              go_wp2_with fail
              have hb9 : Below wo.heap.size wo (((wo.drewN q).drewN n1).drewN n2) := below_drewN (below_drewN (below_drewN (Below.refl _ _) _) _) _
              generalize ((wo.drewN q).drewN n1).drewN n2 = w9 at hb9 ⊢
              have hs9 := hb9.size
              have HP := Lib.hid (show ∀ W, Below wo.heap.size wo W → W.cell? ⟨b, off + k, none⟩ = some (.int .i64 (x.toNat : Int)) ∧ Below wo.heap.size wo W from fun W hW => ⟨(hW.cell (p := ⟨b, off + k, none⟩) hb2).trans hck, hW⟩)
              go_region_held3 (fun w' => w'.cell? ⟨b, off + k, none⟩ = some (.int .i64 (x.toNat : Int)) ∧ Below wo.heap.size wo w')
                (first
                  | exact HP.out _ hb9.drew
                  | (go_split_ands; refine HP.out _ ?_; assumption)
                  | (go_split_ands; refine HP.out _ (Below.drew (Below.alloc (undrew ?_) (Below.size (B := wo.heap.size) (undrew ?_)) _)) <;> assumption)
                  | (go_split_ands; refine HP.out _ (Below.alloc ?_ (Below.size (B := wo.heap.size) ?_) _) <;> assumption))
                (first
                  | (go_split_ands
                     refine step_append_src _ (by rfl) (.tmp 50) (.tmp 53) _ (by rfl) wo 3 i0 _ 1 8 Try.underlying38 hi0 hz0 hz1 hz2 rfl (by omega) _ 0 [] (by rfl) ?_ _ _ _ (by rfl) (HS1b.out _ ?_) enc64_cells ?_ ?_ ?_ ?_
                     first | exact (own_none (heap_new_at _ _ (by simp)) (by first | omega | (simp; omega))).drew | exact (own_none (heap_second_at _ _ _ (by simp)) (by first | omega | (simp; omega))).drew
                     · assumption
                     · simp only [maxLen]; omega
                     · omega
                     · assumption
                     intro v54 w54 hown54 hg54 hb54)
                  | (go_split_ands
                     refine step_append_src _ (by rfl) (.tmp 54) (.tmp 59) _ (by rfl) wo 3 i0 _ 1 8 Try.underlying38 hi0 hz0 hz1 hz2 rfl (by omega) _ (0 + s.length) ([] ++ s.map enc64) (by rfl) ?_ _ 1 [.int .i64 (x.toNat : Int)] (by rfl) (Src.one ?_) ?_ ?_ ?_ ?_ ?_
                     first | exact hown54 | exact hown54.alloc _
                     first | exact cell_new_at _ _ _ (by simp) | exact hg54.cell ((World.cell?_drew _ _).trans (cell_new_at _ _ _ (by simp))) (by show some _ ≠ some _; simp) | exact hg54.cell ((World.cell?_drew _ _).trans (cell_second_at _ _ _ _ (by simp))) (by show some _ ≠ some _; simp)
                     · intro u hu; simp at hu; subst hu; rfl
                     · simp only [maxLen]; omega
                     · omega
                     · assumption
                     intro v60 w60 hown60 hg60 hb60)
                  | (go_split_ands
                     refine step_append_src _ (by rfl) (.tmp 60) (.tmp 63) _ (by rfl) wo 3 i0 _ 1 8 Try.underlying38 hi0 hz0 hz1 hz2 rfl (by omega) _ _ _ (by rfl) hown60 _ _ _ (by rfl) (HS2.out _ ?_) enc64_cells ?_ ?_ ?_ ?_
                     · assumption
                     · simp only [maxLen]; omega
                     · omega
                     · assumption
                     intro v64 w64 hown64 hg64 hb64))
              all_goals
                go_wp2
                go_roundw
                case rel =>
                  refine ⟨k + 1, by omega, by go_num, ?_, hbr.trans (hb64.mono hs2)⟩
                  rw [hts.out, HSb.out, show (s ++ [x]).length = 0 + s.length + 1 + 0 by simp, show (s ++ [x]).map enc64 = ([] ++ s.map enc64) ++ [.int .i64 (x.toNat : Int)] ++ ([] : List UInt32).map enc64 by simp [enc64]]
                  exact own_base hown64 hs2
                case measure => simp [intOf]; omega
            · have hmco : m < co := by omega
              have HS2 := Lib.hid (show ∀ W, Below wo.heap.size wo W → Src W 1 (.slice (some ⟨g, s.length, none⟩) 0 (co - s.length)) 0 (([] : List UInt32).map enc64) from fun W _ => Src.none_left W 1 _ _)
              have HSb := Lib.hid (show ins f x s = s ++ [x] by rw [HS.out, hms]; simp)
              have HS1b := Lib.hid (show ∀ W, Below wo.heap.size wo W → Src W 1 (.slice (some ⟨g, 0, none⟩) s.length co) s.length (s.map enc64) from fun W hW => by have := HS1.out W hW; rwa [hms, List.take_length] at this)
              subst hms
              go_wp2_with fail
              go_quiet (fail)
              obtain ⟨n1, rfl⟩ : ∃ n, n = nq := ⟨_, rfl⟩
              go_wp2_with fail
              go_quiet (fail)
              obtain ⟨n2, rfl⟩ : ∃ n, n = nq := ⟨_, rfl⟩
              go_wp2_with fail
              have hb9 : Below wo.heap.size wo (((wo.drewN q).drewN n1).drewN n2) := below_drewN (below_drewN (below_drewN (Below.refl _ _) _) _) _
              generalize ((wo.drewN q).drewN n1).drewN n2 = w9 at hb9 ⊢
              have hs9 := hb9.size
              have HP := Lib.hid (show ∀ W, Below wo.heap.size wo W → W.cell? ⟨b, off + k, none⟩ = some (.int .i64 (x.toNat : Int)) ∧ Below wo.heap.size wo W from fun W hW => ⟨(hW.cell (p := ⟨b, off + k, none⟩) hb2).trans hck, hW⟩)
              go_region_held3 (fun w' => w'.cell? ⟨b, off + k, none⟩ = some (.int .i64 (x.toNat : Int)) ∧ Below wo.heap.size wo w')
                (first
                  | exact HP.out _ hb9.drew
                  | (go_split_ands; refine HP.out _ ?_; assumption)
                  | (go_split_ands; refine HP.out _ (Below.drew (Below.alloc (undrew ?_) (Below.size (B := wo.heap.size) (undrew ?_)) _)) <;> assumption)
                  | (go_split_ands; refine HP.out _ (Below.alloc ?_ (Below.size (B := wo.heap.size) ?_) _) <;> assumption))
                (first
                  | (go_split_ands
                     refine step_append_src _ (by rfl) (.tmp 50) (.tmp 53) _ (by rfl) wo 3 i0 _ 1 8 Try.underlying38 hi0 hz0 hz1 hz2 rfl (by omega) _ 0 [] (by rfl) ?_ _ _ _ (by rfl) (HS1b.out _ ?_) enc64_cells ?_ ?_ ?_ ?_
                     first | exact (own_none (heap_new_at _ _ (by simp)) (by first | omega | (simp; omega))).drew | exact (own_none (heap_second_at _ _ _ (by simp)) (by first | omega | (simp; omega))).drew
                     · assumption
                     · simp only [maxLen]; omega
                     · omega
                     · assumption
                     intro v54 w54 hown54 hg54 hb54)
                  | (go_split_ands
                     refine step_append_src _ (by rfl) (.tmp 54) (.tmp 59) _ (by rfl) wo 3 i0 _ 1 8 Try.underlying38 hi0 hz0 hz1 hz2 rfl (by omega) _ (0 + s.length) ([] ++ s.map enc64) (by rfl) ?_ _ 1 [.int .i64 (x.toNat : Int)] (by rfl) (Src.one ?_) ?_ ?_ ?_ ?_ ?_
                     first | exact hown54 | exact hown54.alloc _
                     first | exact cell_new_at _ _ _ (by simp) | exact hg54.cell ((World.cell?_drew _ _).trans (cell_new_at _ _ _ (by simp))) (by show some _ ≠ some _; simp) | exact hg54.cell ((World.cell?_drew _ _).trans (cell_second_at _ _ _ _ (by simp))) (by show some _ ≠ some _; simp)
                     · intro u hu; simp at hu; subst hu; rfl
                     · simp only [maxLen]; omega
                     · omega
                     · assumption
                     intro v60 w60 hown60 hg60 hb60)
                  | (go_split_ands
                     refine step_append_src _ (by rfl) (.tmp 60) (.tmp 63) _ (by rfl) wo 3 i0 _ 1 8 Try.underlying38 hi0 hz0 hz1 hz2 rfl (by omega) _ _ _ (by rfl) hown60 _ _ _ (by rfl) (HS2.out _ ?_) enc64_cells ?_ ?_ ?_ ?_
                     · assumption
                     · simp only [maxLen]; omega
                     · omega
                     · assumption
                     intro v64 w64 hown64 hg64 hb64))
              all_goals
                go_wp2
                go_roundw
                case rel =>
                  refine ⟨k + 1, by omega, by go_num, ?_, hbr.trans (hb64.mono hs2)⟩
                  rw [hts.out, HSb.out, show (s ++ [x]).length = 0 + s.length + 1 + 0 by simp, show (s ++ [x]).map enc64 = ([] ++ s.map enc64) ++ [.int .i64 (x.toNat : Int)] ++ ([] : List UInt32).map enc64 by simp [enc64]]
                  exact own_base hown64 hs2
                case measure => simp [intOf]; omega
    · have hkk : k = l.length := by omega
      subst hkk
      rw [List.take_length] at hown
      go_wp2
      go_ret
      exact ⟨_, rfl, row_of_own hown, hbr⟩
end Go.Proofs.Ytgahpfoejecihaa
