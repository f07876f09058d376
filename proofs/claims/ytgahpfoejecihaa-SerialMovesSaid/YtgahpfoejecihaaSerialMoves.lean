/-
  All that is told of numbers of 32 bits is told of them with the same number added to each: any numbers, any list.
-/
import Derived.Test.YtgahpfoejecihaaLift
import Derived.Test.YtgahpfoejecihaaScal
import Derived.Test.YtgahpfoejecihaaShown
import Derived.Deep.QuietTactic
import Derived.BigQuiet
namespace Go.Proofs.Ytgahpfoejecihaa.serialMoves
open Go.ChangeShapes Go.WideShapes Go.ChangeAt Go.RowKit
set_option linter.unusedVariables false

open Go.Sort Go.Lib
theorem walk_long (a b x d : UInt32) (l : List UInt32) (v : Value) (w : World) (hv : RowE enc32 w v l) (hl : 100 < l.length) :
    Calls Try.prog 6 #[.int .u32 (a.toNat : Int), .int .u32 (b.toNat : Int), .int .u32 (x.toNat : Int), .int .u32 (d.toNat : Int), v] w fun e w' => e = .returned (.bool true) ∧ Below w.heap.size w w' := by
  obtain ⟨A, cap, rfl, _, _, _⟩ := hv
  have hl' : decide (100 < (l.length : Int)) = true := decide_eq_true (by omega)
  go_enter Try.func6, Try.ntmps6
  go_wp2_with (go_at_call 11; refine (shown_any _).mono ?_; rintro e w1 ⟨rfl, hb⟩; have HB := Lib.hid hb; clear hb)
  go_ret
  exact ⟨rfl, HB.out⟩

theorem moved_dist (a b d : Int) : dist32 ((a + d) % 4294967296) ((b + d) % 4294967296) = dist32 a b := by unfold dist32; omega
theorem moved_before (a b d : Int) : before32 ((a + d) % 4294967296) ((b + d) % 4294967296) = before32 a b := by unfold before32; rw [moved_dist]
theorem moved_within (x a b d : Int) : within32 ((x + d) % 4294967296) ((a + d) % 4294967296) ((b + d) % 4294967296) = within32 x a b := by
  unfold within32
  rw [show up32 ((x + d) % 4294967296) ((a + d) % 4294967296) = up32 x a by unfold up32; omega, show up32 ((b + d) % 4294967296) ((a + d) % 4294967296) = up32 b a by unfold up32; omega]

set_option maxHeartbeats 4000000 in
set_option maxRecDepth 100000 in
theorem walk_short (a b x d : UInt32) (l : List UInt32) (v : Value) (w : World) (hv : RowE enc32 w v l) (hl : l.length ≤ 100) :
    Calls Try.prog 6 #[.int .u32 (a.toNat : Int), .int .u32 (b.toNat : Int), .int .u32 (x.toNat : Int), .int .u32 (d.toNat : Int), v] w fun e w' => e = .returned (.bool true) ∧ Below w.heap.size w w' := by
  obtain ⟨i0, hi0, hz0, hz1, hz2⟩ := info_parts info22
  have HV := Lib.hid hv
  obtain ⟨A, cap, rfl, hcap, hmax, hcells⟩ := hv
  have HCELL := Lib.hid hcells
  clear hcells
  have hl' : decide (100 < (l.length : Int)) = false := decide_eq_false (by omega)
  have ha := a.toNat_lt
  have hb := b.toNat_lt
  have hx := x.toNat_lt
  have hd := d.toNat_lt
  go_enter Try.func6, Try.ntmps6
  go_wp2_with (go_at_call 11; refine (shown_any _).mono ?_; rintro e w1 ⟨rfl, hb⟩; have HB := Lib.hid hb; clear hb)
  go_loopw [12, 13] (fun vm i wr => ∃ k : Nat, k ≤ l.length ∧ i = .int .i64 k ∧ wr.ownsRow w1.heap.size 22 1 vm k (((l.take k).map (· + d)).map enc32) ∧ Below w1.heap.size w1 wr)
    (fun _ i _ => l.length - (intOf i).toNat)
  case atStart => exact ⟨0, Nat.zero_le _, rfl, World.ownsRow_nil _ _ _ _, Below.refl _ _⟩
  case round =>
    obtain ⟨k, hk, rfl, hown, hbr⟩ := hrel
    have hs2 := hbr.size
    by_cases hlt : k < l.length
    · obtain ⟨bb, off, rfl, hbb, hc⟩ := HCELL.out (by omega)
      have hck : wr.cell? ⟨bb, off + k, none⟩ = some (.int .u32 (l[k]!.toNat : Int)) :=
        (hbr.cell (p := ⟨bb, off + k, none⟩) (Nat.lt_of_lt_of_le hbb HB.out.size)).trans ((HB.out.cell (p := ⟨bb, off + k, none⟩) hbb).trans (hc k hlt))
      have hts := Lib.hid (take_succ' l k hlt)
      generalize l[k]! = y at *
      have hyl := y.toNat_lt
      have HY := Lib.hid (add_toNat y d)
      have HOWN := Lib.hid hown
      clear hc hown
      go_wp2_with (at_builtin; refine wpList_append_own _ rfl (.tmp 32) (.tmp 39) 33 rfl w1.heap.size 22 i0 (.int .u32 0) 1 4 Try.underlying33 hi0 hz0 hz1 hz2 rfl (by decide) _ _ _ rfl (HOWN.out.alloc _) ⟨wr.heap.size, 0, none⟩ 1 1 [.int .u32 (((y.toNat : Int) + (d.toNat : Int)) % 4294967296)] rfl rfl ?c1 ?c2 ?c3 ?c4 ?c5 ?_)
      case c1 => exact new_cells wr _ _
      case c2 => intro u hu; simp at hu; subst hu; rfl
      case c3 => simp only [maxLen]; omega
      case c4 => omega
      case c5 => simp; omega
      intro v2 w2 hown2 hg2 _
      have HB2 := Lib.hid (below_append ((Below.refl w1.heap.size w1).trans (hbr.alloc hs2 _)) (by simp; omega) (HOWN.out.alloc _) hg2)
      have HOWN2 := Lib.hid hown2
      clear hown2 hg2
      go_wp2
      go_roundw
      case rel =>
        refine ⟨k + 1, by omega, by go_num, ?_, HB2.out⟩
        have h := HOWN2.out
        rw [HY.out] at h
        rw [hts.out]
        simpa [enc32] using h
      case measure => simp [intOf]; omega
    · have hkk : k = l.length := by omega
      subst hkk
      rw [List.take_length] at hown
      have HM := Lib.hid (row_of_own hown)
      have HBR := Lib.hid hbr
      clear hown hbr hk hlt
      have HB2 := Lib.hid (HB.out.trans (HBR.out.mono HB.out.size))
      have hlm : (l.map (· + d)).length ≤ 200 := by simp; omega
      go_wp2_with fail
      refine (sorted_z a _ rfl l _ _ (HV.out.below HB2.out) (by omega)).mono ?_
      rintro e w3 ⟨vs, rfl, hs3, hb3⟩
      have HS3 := Lib.hid hs3
      have HX3 := Lib.hid hb3
      have HB3 := Lib.hid (HB2.out.trans (hb3.mono HB2.out.size))
      clear hs3 hb3
      go_wp2_with fail
      have h4 := sorted_z (a + d) _ (add_toNat a d) (l.map (· + d)) _ _ (HM.out.below HX3.out) hlm
      rw [srt_map] at h4
      refine h4.mono ?_
      clear h4
      rintro e w4 ⟨vt, rfl, hs4, hb4⟩
      have HB4 := Lib.hid (HB3.out.trans (hb4.mono HB3.out.size))
      have HM4 := Lib.hid ((HM.out.below HX3.out).below hb4)
      have HS4 := Lib.hid (HS3.out.below hb4)
      have HT4 := Lib.hid hs4
      clear hb4
      obtain ⟨A1, c1, rfl, k1, k1', _⟩ := HS3.out
      obtain ⟨A2, c2, rfl, k2, k2', _⟩ := hs4
      rw [List.length_map] at k2
      have hlt2 : (List.map (· + d) (srt a l)).length = (srt a l).length := List.length_map _
      go_wp2_with fail
      refine (runs_z a _ rfl l _ _ (HV.out.below HB4.out) (by omega)).mono ?_
      rintro e w5 ⟨v5, rfl, hown5, hb5⟩
      have HB5 := Lib.hid (HB4.out.trans (hb5.mono HB4.out.size))
      have HM5 := Lib.hid (HM4.out.below hb5)
      have HS5 := Lib.hid (HS4.out.below hb5)
      have HT5 := Lib.hid (HT4.out.below hb5)
      obtain ⟨A5, c5, rfl, _, _, _⟩ := own_slice hown5
      clear hown5 hb5
      go_wp2_with fail
      have h6 := runs_z (a + d) _ (add_toNat a d) (l.map (· + d)) _ _ HM5.out hlm
      rw [srt_map, runs_map, List.length_map] at h6
      refine h6.mono ?_
      clear h6
      rintro e w6 ⟨v6, rfl, hown6, hb6⟩
      have HB6 := Lib.hid (HB5.out.trans (hb6.mono HB5.out.size))
      have HS6 := Lib.hid (HS5.out.below hb6)
      have HT6 := Lib.hid (HT5.out.below hb6)
      obtain ⟨A6, c6, rfl, _, _, _⟩ := own_slice hown6
      clear hown6 hb6
      have hle := length_srt_le a l
      generalize (runs (srt a l)).length = nr at *
      generalize srt a l = t at *
      go_wp2_with fail
      go_loopw [16] (fun i wr => ∃ (k q : Nat), k ≤ t.length ∧ i = .int .i64 k ∧ wr = w6.drewN q) (fun i _ => t.length - (intOf i).toNat)
      case atStart => exact ⟨0, 0, Nat.zero_le _, rfl, rfl⟩
      case round =>
        obtain ⟨k, q, hk, rfl, rfl⟩ := hrel
        by_cases hlt : k < t.length
        · obtain ⟨A1', c1', e1, _, _, g1⟩ := HS6.out
          obtain ⟨A2', c2', e2, _, _, g2⟩ := HT6.out
          cases e1
          cases e2
          obtain ⟨b1, o1, rfl, hb1, g1⟩ := g1 (by omega)
          obtain ⟨b2, o2, rfl, hb2, g2⟩ := g2 (by omega)
          have e1 := g1 k hlt
          have e2 := g2 k (by omega)
          rw [getElem!_pos _ k (by omega), List.getElem_map, ← getElem!_pos t k hlt] at e2
          have i0' : (0 : Int) ≤ (k : Int) := Int.natCast_nonneg _
          have i1' : (k : Int) < (t.length : Int) := by omega
          generalize t[k]! = y at *
          have hyl := y.toNat_lt
          unfold enc32 at e1 e2
          rw [← add_toNat] at e2
          clear g1 g2
          go_wp2_with fail
          go_quiet (fail)
          go_wp2
          go_roundw
          case rel => exact ⟨k + 1, _, by omega, by go_num, rfl⟩
          case measure => simp [intOf]; omega
        · have hkk : k = t.length := by omega
          subst hkk
          have m1 := moved_dist a.toNat b.toNat d.toNat
          have m2 := moved_before a.toNat b.toNat d.toNat
          have m3 := moved_within x.toNat a.toNat b.toNat d.toNat
          go_wp2_with (first
            | (go_at_call 12; refine (before_any _ _ (by omega) (by omega) (by omega) (by omega) _).mono ?_; rintro e w' ⟨rfl, rfl⟩)
            | (go_at_call 14; refine (dist_any _ _ (by omega) (by omega) (by omega) (by omega) _).mono ?_; rintro e w' ⟨rfl, rfl⟩)
            | (go_at_call 25; refine (within_any _ _ _ (by omega) (by omega) (by omega) (by omega) (by omega) (by omega) _).mono ?_; rintro e w' ⟨rfl, rfl⟩))
          go_ret
          exact ⟨rfl, below_drewN HB6.out _⟩

theorem walk (a b x d : UInt32) (l : List UInt32) (v : Value) (w : World) (hv : RowE enc32 w v l) :
    Calls Try.prog 6 #[.int .u32 (a.toNat : Int), .int .u32 (b.toNat : Int), .int .u32 (x.toNat : Int), .int .u32 (d.toNat : Int), v] w fun e w' => e = .returned (.bool true) ∧ Below w.heap.size w w' := by
  by_cases h : l.length ≤ 100
  · exact walk_short a b x d l v w hv h
  · exact walk_long a b x d l v w hv (by omega)

set_option maxRecDepth 100000 in
theorem lifted (os : Os) (started : os.Started) (H : Type) (enc : TypeId × Value → H) :
    ReturnsInHanded {} Try.checked os 6 .any (Rows.serialMovesSpec.pre6 enc Try.prog Try.f6 Rows.serialMovesRow.domain false) (Rows.serialMovesSpec.post enc Try.prog Try.f6 false true false false) := by
  refine returnsInHanded_of_change_sized (C := Try.checked) own started (by kernel_rfl) Try.func6
    (ChangeSpec.witness6 (enc := enc) (C := Try.checked) false ⟨#[], #[.int .u32 0, .int .u32 0, .int .u32 0, .int .u32 0, .slice none 0 0], []⟩ 8 (by kernel_rfl) (by kernel_rfl) (by kernel_rfl) (by kernel_rfl)) ?_
  intro W base args ds gs before hval0 hW _ _ _
  have hval : ∀ (j : Nat) t v, Try.f6.params[j]? = some t → args[j]? = some v → Value.okWide Try.prog W .any base t v := hval0
  obtain ⟨p, q, hA0, _, _, _, _⟩ := id hW
  have hA : DataW.TrodAll enc Try.prog W 0 (fun _ => true) true Try.f6.params.toList args.toList ds p := hA0
  rw [Try.params6] at hA hval
  obtain ⟨v0, vs0, d0, ds0, p0, q0, hargs, rfl, rfl, h0, r0⟩ := trodAll_cons hA
  obtain ⟨v1, vs1, d1, ds1, p1, q1, rfl, rfl, rfl, h1, r1⟩ := trodAll_cons r0
  obtain ⟨v2, vs2, d2, ds2, p2, q2, rfl, rfl, rfl, h2, r2⟩ := trodAll_cons r1
  obtain ⟨v3, vs3, d3, ds3, p3, q3, rfl, rfl, rfl, h3, r3⟩ := trodAll_cons r2
  obtain ⟨v4, vs4, d4, ds4, p4, q4, rfl, rfl, rfl, h4, r4⟩ := trodAll_cons r3
  obtain ⟨rfl, rfl, rfl⟩ := trodAll_nil r4
  obtain rfl : args = #[v0, v1, v2, v3, v4] := by cases args; simp_all
  obtain ⟨a0, rfl, rfl, rfl, w0⟩ := open_int Try.underlying22 (hval 0 22 v0 rfl rfl) h0
  obtain ⟨u0, _, rfl⟩ := u32_of a0 w0
  obtain ⟨a1, rfl, rfl, rfl, w1⟩ := open_int Try.underlying22 (hval 1 22 v1 rfl rfl) h1
  obtain ⟨u1, _, rfl⟩ := u32_of a1 w1
  obtain ⟨a2, rfl, rfl, rfl, w2⟩ := open_int Try.underlying22 (hval 2 22 v2 rfl rfl) h2
  obtain ⟨u2, _, rfl⟩ := u32_of a2 w2
  obtain ⟨a3, rfl, rfl, rfl, w3⟩ := open_int Try.underlying22 (hval 3 22 v3 rfl rfl) h3
  obtain ⟨u3, _, rfl⟩ := u32_of a3 w3
  obtain ⟨l4, hr4⟩ := open_row (t := 33) Try.underlying33 Try.underlying22 (by kernel_rfl) (hval 4 33 v4 rfl rfl) h4
  refine (walk u0 u1 u2 u3 l4 v4 W hr4).mono fun e W' ⟨he, hg⟩ => ?_
  subst he
  exact ⟨_, rfl, law_post laidOut Try.underlying4 (by kernel_rfl) (by kernel_rfl) rfl hW (by simp [Rows.serialMovesSpec]) hg⟩

theorem proved : Rows.SerialMovesSaid :=
  OpenClaim.holds_of_wide 6 Try.f6 rfl rfl rfl rfl rfl rfl rfl ⟨rfl, rfl, rfl, rfl, rfl⟩ rfl rfl rfl rfl rfl (by kernel_rfl) Try.func6 (by kernel_rfl)
    (of_decide_eq_true (by kernel_rfl)) (by unfold Func.isWrapper; first | (rw [if_pos (by decide +kernel)]; kernel_rfl) | (rw [if_neg (by decide +kernel)]; exact ⟨rfl, rfl⟩))
    (fun os started H enc _ => lifted os started H enc)
#print axioms proved
end Go.Proofs.Ytgahpfoejecihaa.serialMoves
