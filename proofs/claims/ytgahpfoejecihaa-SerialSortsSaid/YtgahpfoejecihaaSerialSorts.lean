/-
  Numbers are sorted in whatever order they were handed in, each once; sorted again they are the same: any list, any number.
-/
import Derived.Test.YtgahpfoejecihaaLift
import Derived.Test.YtgahpfoejecihaaScal
import Derived.Test.YtgahpfoejecihaaShown
import Derived.Deep.RegionHeld3
import Derived.Deep.AppendLies
import Derived.Deep.QuietTactic
import Derived.BigQuiet
namespace Go.Proofs.Ytgahpfoejecihaa.serialSorts
open Go.ChangeShapes Go.WideShapes Go.ChangeAt Go.RowKit
set_option linter.unusedVariables false

open Go.Sort Go.Lib
theorem walk_long (l : List UInt32) (f : UInt32) (v : Value) (w : World) (hv : RowE enc32 w v l) (hl : 100 < l.length) :
    Calls Try.prog 9 #[v, .int .u32 (f.toNat : Int)] w fun e w' => e = .returned (.bool true) ∧ Below w.heap.size w w' := by
  obtain ⟨A, cap, rfl, _, _, _⟩ := hv
  have hl' : decide (100 < (l.length : Int)) = true := decide_eq_true (by omega)
  go_enter Try.func9, Try.ntmps9
  go_wp2_with (go_at_call 11; refine (shown_any _).mono ?_; rintro e w1 ⟨rfl, hb⟩; have HB := Lib.hid hb; clear hb)
  go_ret
  exact ⟨rfl, HB.out⟩

theorem sorted_at (f : UInt32) (l : List UInt32) (v : Value) (w : World) (hv : RowE enc32 w v l) (hsz : l.length ≤ 200) :
    Calls Try.prog 28 #[v, .int .u32 (f.toNat : Int)] w fun e w' => ∃ v', e = .returned v' ∧ RowE enc32 w' v' (srt f l) ∧ Below w.heap.size w w' := sorted_any f l v w hv (by omega)

set_option maxHeartbeats 2000000 in
set_option maxRecDepth 100000 in
theorem walk_short (l : List UInt32) (f : UInt32) (v : Value) (w : World) (hv : RowE enc32 w v l) (hl : l.length ≤ 100) :
    Calls Try.prog 9 #[v, .int .u32 (f.toNat : Int)] w fun e w' => e = .returned (.bool true) ∧ Below w.heap.size w w' := by
  obtain ⟨i0, hi0, hz0, hz1, hz2⟩ := info_parts info22
  have HV := Lib.hid hv
  obtain ⟨A, cap, rfl, hcap, hmax, hcells⟩ := hv
  have HCELL := Lib.hid hcells
  clear hcells
  have hl' : decide (100 < (l.length : Int)) = false := decide_eq_false (by omega)
  have hf := f.toNat_lt
  go_enter Try.func9, Try.ntmps9
  go_wp2_with (go_at_call 11; refine (shown_any _).mono ?_; rintro e w1 ⟨rfl, hb⟩; have HB := Lib.hid hb; clear hb)
  refine (sorted_at f l _ _ (HV.out.below HB.out) (by omega)).mono ?_
  rintro e w2 ⟨vs, rfl, hs2, hb2⟩
  have HB2 := Lib.hid (HB.out.trans (hb2.mono HB.out.size))
  have HS2 := Lib.hid hs2
  clear hb2 hs2
  go_wp2_with fail
  go_loopw [7, 8] (fun vb i wr => ∃ z : Int, -1 ≤ z ∧ z < l.length ∧ i = .int .i64 z ∧ wr.ownsRow w2.heap.size 22 1 vb (dup2 (l.drop (z + 1).toNat)).length ((dup2 (l.drop (z + 1).toNat)).map enc32) ∧ Below w2.heap.size w2 wr)
    (fun _ i _ => (intOf i + 1).toNat)
  case atStart => exact ⟨(l.length : Int) - 1, by omega, by omega, rfl, by rw [show ((l.length : Int) - 1 + 1).toNat = l.length by omega, List.drop_length]; exact World.ownsRow_nil _ _ _ _, Below.refl _ _⟩
  case round =>
    obtain ⟨z, hz1', hz2', rfl, hown, hbr⟩ := hrel
    by_cases hz : 0 ≤ z
    · obtain ⟨m, rfl⟩ := Int.eq_ofNat_of_zero_le hz
      have hm : m < l.length := by omega
      obtain ⟨b, off, rfl, hb, hc⟩ := HCELL.out (by omega)
      have hck : wr.cell? ⟨b, off + m, none⟩ = some (.int .u32 (l[m]!.toNat : Int)) :=
        (hbr.cell (p := ⟨b, off + m, none⟩) (Nat.lt_of_lt_of_le hb HB2.out.size)).trans ((HB2.out.cell (p := ⟨b, off + m, none⟩) hb).trans (hc m hm))
      have hdr := Lib.hid (drop_cons' l m hm)
      generalize l[m]! = x at *
      have hxl := x.toNat_lt
      have hlo := length_dup2 (l.drop (m + 1))
      rw [List.length_drop] at hlo
      rw [show ((m : Int) + 1).toNat = m + 1 by omega] at hown
      have HOWN := Lib.hid hown
      have hsz := Lib.hid (show (dup2 (List.drop (m + 1) l)).length ≤ 200 by omega)
      have hs2 := hbr.size
      clear hc hown hlo
      have hb2 : b < wr.heap.size := Nat.lt_of_lt_of_le hb (Nat.le_trans HB2.out.size hs2)
      have hne : ∀ k, u7.ownBlock = some k → b ≠ k := fun k hk e => by have h1 := (HOWN.out.lt k hk).1; have h2 := HB2.out.size; omega
      go_wp2_with fail
      go_region_held3 (fun w' => w'.cell? ⟨b, off + m, none⟩ = some (.int .u32 (x.toNat : Int)))
        (first
          | go_keep
          | (rw [hgrow.cell_far _ (by simp; omega) (fun e => hne _ e.symm rfl)]; assumption))
        ((refine step_append_lies _ (by rfl) _ _ _ (by rfl) w2.heap.size 22 i0 _ 1 4 Try.underlying33 hi0 hz0 hz1 hz2 rfl (by omega) u7 _ _ (by rfl) ((HOWN.out.alloc _).drew)
            ⟨wr.heap.size, 0, none⟩ 2 2 [.int .u32 (x.toNat : Int), .int .u32 (x.toNat : Int)] (by rfl) (by rfl) (World.news_of_block (cs := #[.int .u32 (x.toNat : Int), .int .u32 (x.toNat : Int)]) (t := 22) (fr := (0, 0)) (heap_alloc_new wr _)) (by simp [Value.oneCell'])
            (by omega) (by have := hsz.out; simp only [maxLen]; omega) (by have := hsz.out; omega) (by simp; omega) (wr.heap.size + 1) (by simp) ?_; intro gg cap3 w3 hown3 hgrow hat hlt3))
      have HB3 := Lib.hid (below_append ((((Below.refl w2.heap.size w2).trans hbr).alloc hs2 _).drew) (by simp; omega) ((HOWN.out.alloc _).drew) hgrow)
      have HOWN3 := Lib.hid hown3
      clear hown3 hgrow hat
      go_wp2
      go_roundw
      case rel =>
        refine ⟨(m : Int) - 1, by omega, by omega, rfl, ?_, HB3.out⟩
        rw [show ((m : Int) - 1 + 1).toNat = m by omega, hdr.out, dup2_cons]
        simpa [enc32, List.length_append] using HOWN3.out
      case measure => simp [intOf]
    · obtain rfl : z = -1 := by omega
      have hbk := row_of_own (show wr.ownsRow w2.heap.size 22 1 u7 (dup2 l).length ((dup2 l).map enc32) from by simpa using hown)
      have HBK := Lib.hid hbk
      have HBR := Lib.hid hbr
      have HB3 := Lib.hid (HB2.out.trans (hbr.mono HB2.out.size))
      clear hbk hbr hown
      have hd2 := length_dup2 l
      go_wp2_with fail
      have h3 := sorted_at f (dup2 l) _ _ HBK.out (by omega)
      rw [srt_dup2] at h3
      refine h3.mono ?_
      clear h3
      rintro e w3 ⟨vt, rfl, hs3, hb3⟩
      have HS3 := Lib.hid hs3
      have HB4 := Lib.hid (HB3.out.trans (hb3.mono HB3.out.size))
      have HX3 := Lib.hid ((HBR.out).trans (hb3.mono (HBR.out.size)))
      have HX33 := Lib.hid hb3
      clear hs3 hb3
      go_wp2_with fail
      have hle := length_srt_le f l
      have h4 := sorted_at f (srt f l) _ _ (HS2.out.below HX3.out) (by omega)
      rw [srt_srt] at h4
      refine h4.mono ?_
      clear h4
      rintro e w4 ⟨vu, rfl, hs4, hb4⟩
      have hst := strict_srt f l
      have R1 := (HS2.out.below HX3.out).below hb4
      have R2 := HS3.out.below hb4
      have R3 := hs4
      generalize srt f l = t at *
      have HB5 := Lib.hid (HB4.out.trans (hb4.mono HB4.out.size))
      obtain ⟨A1, c1, rfl, k1, k1', R1⟩ := R1
      obtain ⟨A2, c2, rfl, k2, k2', R2⟩ := R2
      obtain ⟨A3, c3, rfl, k3, k3', R3⟩ := R3
      have HR1 := Lib.hid R1
      have HR2 := Lib.hid R2
      have HR3 := Lib.hid R3
      have HST := Lib.hid hst
      clear R1 R2 R3 hst hs4 hb4
      go_wp2_with fail
      go_loopw [11] (fun i wr => ∃ (k q : Nat), k ≤ t.length ∧ i = .int .i64 k ∧ wr = w4.drewN q) (fun i _ => t.length - (intOf i).toNat)
      case atStart => exact ⟨0, 0, Nat.zero_le _, rfl, rfl⟩
      case round =>
        obtain ⟨k, q, hk, rfl, rfl⟩ := hrel
        by_cases hlt : k < t.length
        · obtain ⟨b1, o1, rfl, hb1, g1⟩ := HR1.out (by omega)
          obtain ⟨b2, o2, rfl, hb2, g2⟩ := HR2.out (by omega)
          obtain ⟨b3, o3, rfl, hb3, g3⟩ := HR3.out (by omega)
          have e1 := g1 k hlt
          have e2 := g2 k hlt
          have e3 := g3 k hlt
          have i0' : (0 : Int) ≤ (k : Int) := Int.natCast_nonneg _
          have i1' : (k : Int) < (t.length : Int) := by omega
          by_cases hk0 : 0 < k
          · have e4 := g1 (k - 1) (by omega)
            have hord := strict_at f t HST.out (k - 1) k (by omega) hlt
            generalize t[k]! = x at *
            generalize t[k - 1]! = y at *
            have s1 := sub_toNat x f
            have s2 := sub_toNat y f
            have T1 : decide (((x.toNat : Int) - (f.toNat : Int)) % 4294967296 ≤ ((y.toNat : Int) - (f.toNat : Int)) % 4294967296) = false := by
              rw [s1, s2]; rw [UInt32.lt_iff_toNat_lt] at hord; exact decide_eq_false (by omega)
            have T2 : decide ((0 : Int) < (k : Int)) = true := decide_eq_true (by omega)
            have j0' : (0 : Int) ≤ (k : Int) - 1 := by omega
            have j1' : (k : Int) - 1 < (t.length : Int) := by omega
            unfold enc32 at e1 e2 e3 e4
            clear g1 g2 g3 s1 s2 hord
            go_wp2_with fail
            go_quiet (fail)
            go_wp2
            go_roundw
            case rel => exact ⟨k + 1, _, by omega, by go_num, rfl⟩
            case measure => simp [intOf]; omega
          · have T2 : decide ((0 : Int) < (k : Int)) = false := decide_eq_false (by omega)
            generalize t[k]! = x at *
            unfold enc32 at e1 e2 e3
            clear g1 g2 g3
            go_wp2_with fail
            go_quiet (fail)
            go_wp2
            go_roundw
            case rel => exact ⟨k + 1, _, by omega, by go_num, rfl⟩
            case measure => simp [intOf]; omega
        · have hkk : k = t.length := by omega
          subst hkk
          go_wp2
          go_ret
          exact ⟨rfl, below_drewN HB5.out _⟩

theorem walk (l : List UInt32) (f : UInt32) (v : Value) (w : World) (hv : RowE enc32 w v l) :
    Calls Try.prog 9 #[v, .int .u32 (f.toNat : Int)] w fun e w' => e = .returned (.bool true) ∧ Below w.heap.size w w' := by
  by_cases h : l.length ≤ 100
  · exact walk_short l f v w hv h
  · exact walk_long l f v w hv (by omega)

set_option maxRecDepth 100000 in
theorem lifted (os : Os) (started : os.Started) (H : Type) (enc : TypeId × Value → H) :
    ReturnsInHanded {} Try.checked os 9 .any (Rows.serialSortsSpec.pre6 enc Try.prog Try.f9 Rows.serialSortsRow.domain false) (Rows.serialSortsSpec.post enc Try.prog Try.f9 false true false false) := by
  refine returnsInHanded_of_change_sized (C := Try.checked) own started (by kernel_rfl) Try.func9
    (ChangeSpec.witness6 (enc := enc) (C := Try.checked) false ⟨#[], #[.slice none 0 0, .int .u32 0], []⟩ 8 (by kernel_rfl) (by kernel_rfl) (by kernel_rfl) (by kernel_rfl)) ?_
  intro W base args ds gs before hval0 hW _ _ _
  have hval : ∀ (j : Nat) t v, Try.f9.params[j]? = some t → args[j]? = some v → Value.okWide Try.prog W .any base t v := hval0
  obtain ⟨p, q, hA0, _, _, _, _⟩ := id hW
  have hA : DataW.TrodAll enc Try.prog W 0 (fun _ => true) true Try.f9.params.toList args.toList ds p := hA0
  rw [Try.params9] at hA hval
  obtain ⟨v0, vs0, d0, ds0, p0, q0, hargs, rfl, rfl, h0, r0⟩ := trodAll_cons hA
  obtain ⟨v1, vs1, d1, ds1, p1, q1, rfl, rfl, rfl, h1, r1⟩ := trodAll_cons r0
  obtain ⟨rfl, rfl, rfl⟩ := trodAll_nil r1
  obtain rfl : args = #[v0, v1] := by cases args; simp_all
  obtain ⟨l0, hr0⟩ := open_row (t := 33) Try.underlying33 Try.underlying22 (by kernel_rfl) (hval 0 33 v0 rfl rfl) h0
  obtain ⟨a1, rfl, rfl, rfl, w1⟩ := open_int Try.underlying22 (hval 1 22 v1 rfl rfl) h1
  obtain ⟨u1, _, rfl⟩ := u32_of a1 w1
  refine (walk l0 u1 v0 W hr0).mono fun e W' ⟨he, hg⟩ => ?_
  subst he
  exact ⟨_, rfl, law_post laidOut Try.underlying4 (by kernel_rfl) (by kernel_rfl) rfl hW (by simp [Rows.serialSortsSpec]) hg⟩

theorem proved : Rows.SerialSortsSaid :=
  OpenClaim.holds_of_wide 9 Try.f9 rfl rfl rfl rfl rfl rfl rfl ⟨rfl, rfl, rfl, rfl, rfl⟩ rfl rfl rfl rfl rfl (by kernel_rfl) Try.func9 (by kernel_rfl)
    (of_decide_eq_true (by kernel_rfl)) (by unfold Func.isWrapper; first | (rw [if_pos (by decide +kernel)]; kernel_rfl) | (rw [if_neg (by decide +kernel)]; exact ⟨rfl, rfl⟩))
    (fun os started H enc _ => lifted os started H enc)
#print axioms proved
end Go.Proofs.Ytgahpfoejecihaa.serialSorts
