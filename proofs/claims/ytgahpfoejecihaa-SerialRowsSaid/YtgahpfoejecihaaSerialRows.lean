/-
  Whether a number is in a row, numbers by how far they are above one, and the rows in them: the program answers as the document says: any numbers, any list.
-/
import Derived.Test.YtgahpfoejecihaaLift
import Derived.Test.YtgahpfoejecihaaScal
import Derived.Test.YtgahpfoejecihaaShown
import Derived.Test.YtgahpfoejecihaaRefRuns
import Derived.Deep.QuietTactic
import Derived.BigQuiet
namespace Go.Proofs.Ytgahpfoejecihaa.serialRows
open Go.ChangeShapes Go.WideShapes Go.ChangeAt Go.RowKit
set_option linter.unusedVariables false

open Go.Sort Go.Lib
theorem walk_long (x f t : UInt32) (l : List UInt32) (v : Value) (w : World) (hv : RowE enc32 w v l) (hl : 200 < l.length) :
    Calls Try.prog 4 #[.int .u32 (x.toNat : Int), .int .u32 (f.toNat : Int), .int .u32 (t.toNat : Int), v] w fun e w' => e = .returned (.bool true) ∧ Below w.heap.size w w' := by
  obtain ⟨A, cap, rfl, _, _, _⟩ := hv
  have hl' : decide (200 < (l.length : Int)) = true := decide_eq_true (by omega)
  go_enter Try.func4, Try.ntmps4
  go_wp2_with (go_at_call 11; refine (shown_any _).mono ?_; rintro e w1 ⟨rfl, hb⟩; have HB := Lib.hid hb; clear hb)
  go_ret
  exact ⟨rfl, HB.out⟩

set_option maxHeartbeats 4000000 in
set_option maxRecDepth 100000 in
theorem walk_short (x f t : UInt32) (l : List UInt32) (v : Value) (w : World) (hv : RowE enc32 w v l) (hl : l.length ≤ 200) :
    Calls Try.prog 4 #[.int .u32 (x.toNat : Int), .int .u32 (f.toNat : Int), .int .u32 (t.toNat : Int), v] w fun e w' => e = .returned (.bool true) ∧ Below w.heap.size w w' := by
  have HV := Lib.hid hv
  obtain ⟨A, cap, rfl, hcap, hmax, _⟩ := hv
  have hl' : decide (200 < (l.length : Int)) = false := decide_eq_false (by omega)
  have hx := x.toNat_lt
  have hf := f.toNat_lt
  have ht := t.toNat_lt
  go_enter Try.func4, Try.ntmps4
  go_wp2_with (go_at_call 11; refine (shown_any _).mono ?_; rintro e w1 ⟨rfl, hb⟩; have HB := Lib.hid hb; clear hb)
  refine (runs_z f _ rfl l _ _ (HV.out.below HB.out) hl).mono ?_
  rintro e w2 ⟨va, rfl, howna, hb2⟩
  have HB2 := Lib.hid (HB.out.trans (hb2.mono HB.out.size))
  obtain ⟨Aa, ca, rfl, _, _, _⟩ := own_slice howna
  have HA2 := Lib.hid howna
  clear howna hb2
  go_wp2_with fail
  refine (ints_any l _ _ (HV.out.below HB2.out) hl).mono ?_
  rintro e w3 ⟨vi, rfl, hs3, hb3⟩
  have HB3 := Lib.hid (HB2.out.trans (hb3.mono HB2.out.size))
  have HA3 := Lib.hid (HA2.out.kept (row := none) ⟨hb3.os, hb3.tape, hb3.output, hb3.size, fun k hk _ => hb3.block k hk⟩ (own_ne_none _))
  have HS3 := Lib.hid hs3
  clear hs3 hb3
  go_wp2_with fail
  refine (rruns_any f l _ _ HS3.out hl).mono ?_
  rintro e w4 ⟨vb, rfl, hownb, hb4⟩
  have HB4 := Lib.hid (HB3.out.trans (hb4.mono HB3.out.size))
  have HA4 := Lib.hid (HA3.out.kept (row := none) ⟨hb4.os, hb4.tape, hb4.output, hb4.size, fun k hk _ => hb4.block k hk⟩ (own_ne_none _))
  obtain ⟨Ab, cb, rfl, _, _, _⟩ := own_slice hownb
  have HBB := Lib.hid hownb
  have hrl := length_runs_le (srt f l)
  have hsl := length_srt_le f l
  clear hownb hb4
  generalize runs (srt f l) = rs at *
  go_wp2_with fail
  go_loopw [12] (fun i wr => ∃ (k q : Nat), k ≤ rs.length ∧ i = .int .i64 k ∧ wr = w4.drewN q) (fun i _ => rs.length - (intOf i).toNat)
  case atStart => exact ⟨0, 0, Nat.zero_le _, rfl, rfl⟩
  case round =>
    obtain ⟨k, q, hk, rfl, rfl⟩ := hrel
    by_cases hlt : k < rs.length
    · obtain ⟨ga, ca', ea, _, _⟩ := own_form HA4.out (by omega)
      obtain ⟨gb, cb', eb, _, _⟩ := own_form HBB.out (by omega)
      cases ea
      cases eb
      have a1 : w4.cell? ⟨ga, k * 2, none⟩ = some (enc32 rs[k]!.1) := by rw [HA4.out.cellAt _ (by omega), flat_fst _ _ _ hlt, getElem!_pos rs k hlt]
      have a2 : w4.cell? ⟨ga, k * 2 + 1, none⟩ = some (enc32 rs[k]!.2) := by rw [HA4.out.cellAt _ (by omega), flat_snd _ _ _ hlt, getElem!_pos rs k hlt]
      have b1 : w4.cell? ⟨gb, k * 2, none⟩ = some (enc64 rs[k]!.1) := by rw [HBB.out.cellAt _ (by omega), flat_fst _ _ _ hlt, getElem!_pos rs k hlt]
      have b2 : w4.cell? ⟨gb, k * 2 + 1, none⟩ = some (enc64 rs[k]!.2) := by rw [HBB.out.cellAt _ (by omega), flat_snd _ _ _ hlt, getElem!_pos rs k hlt]
      have i0' : (0 : Int) ≤ (k : Int) := Int.natCast_nonneg _
      have i1' : (k : Int) < (rs.length : Int) := by omega
      generalize rs[k]! = p at *
      have hp1 := p.1.toNat_lt
      have hp2 := p.2.toNat_lt
      have t1 : ((p.1.toNat : Int) != (p.1.toNat : Int)) = false := by simp
      have t2 : ((p.2.toNat : Int) != (p.2.toNat : Int)) = false := by simp
      unfold enc32 at a1 a2
      unfold enc64 at b1 b2
      go_wp2_with fail
      go_quiet (fail)
      go_wp2
      go_roundw
      case rel => exact ⟨k + 1, _, by omega, by go_num, rfl⟩
      case measure => simp [intOf]; omega
    · have hkk : k = rs.length := by omega
      subst hkk
      have HB5 := Lib.hid (below_drewN HB4.out q)
      generalize w4.drewN q = w5 at *
      go_wp2_with fail
      refine (within_any _ _ _ (by omega) (by omega) (by omega) (by omega) (by omega) (by omega) _).mono ?_
      rintro e w' ⟨rfl, rfl⟩
      go_wp2_with fail
      refine (rWithin_any _ _ _ (by omega) (by omega) (by omega) (by omega) (by omega) (by omega) _).mono ?_
      rintro e w' ⟨rfl, rfl⟩
      go_wp2_with fail
      refine (sorted_z f _ rfl l _ _ (HV.out.below HB5.out) hl).mono ?_
      rintro e w6 ⟨vs, rfl, hs6, hb6⟩
      have HB6 := Lib.hid (HB5.out.trans (hb6.mono HB5.out.size))
      have HS6 := Lib.hid hs6
      clear hs6 hb6
      go_wp2_with fail
      refine (ints_any l _ _ (HV.out.below HB6.out) hl).mono ?_
      rintro e w7 ⟨vi, rfl, hs7, hb7⟩
      have HB7 := Lib.hid (HB6.out.trans (hb7.mono HB6.out.size))
      have HS7 := Lib.hid (HS6.out.below hb7)
      have HI7 := Lib.hid hs7
      clear hs7 hb7
      go_wp2_with fail
      refine (rsorted_any f l _ _ HI7.out hl).mono ?_
      rintro e w8 ⟨vr, rfl, hs8, hb8⟩
      have HB8 := Lib.hid (HB7.out.trans (hb8.mono HB7.out.size))
      have HS8 := Lib.hid (HS7.out.below hb8)
      have HR8 := Lib.hid hs8
      clear hs8 hb8
      go_wp2_with fail
      refine (same_any (srt f l) _ _ _ HS8.out HR8.out).mono ?_
      rintro e w9 ⟨rfl, q9, rfl⟩
      go_wp2
      go_ret
      exact ⟨rfl, below_drewN HB8.out _⟩

theorem walk (x f t : UInt32) (l : List UInt32) (v : Value) (w : World) (hv : RowE enc32 w v l) :
    Calls Try.prog 4 #[.int .u32 (x.toNat : Int), .int .u32 (f.toNat : Int), .int .u32 (t.toNat : Int), v] w fun e w' => e = .returned (.bool true) ∧ Below w.heap.size w w' := by
  by_cases h : l.length ≤ 200
  · exact walk_short x f t l v w hv h
  · exact walk_long x f t l v w hv (by omega)

set_option maxRecDepth 100000 in
theorem lifted (os : Os) (started : os.Started) (H : Type) (enc : TypeId × Value → H) :
    ReturnsInHanded {} Try.checked os 4 .any (Rows.serialRowsSpec.pre6 enc Try.prog Try.f4 Rows.serialRowsRow.domain false) (Rows.serialRowsSpec.post enc Try.prog Try.f4 false true false false) := by
  refine returnsInHanded_of_change_sized (C := Try.checked) own started (by kernel_rfl) Try.func4
    (ChangeSpec.witness6 (enc := enc) (C := Try.checked) false ⟨#[], #[.int .u32 0, .int .u32 0, .int .u32 0, .slice none 0 0], []⟩ 8 (by kernel_rfl) (by kernel_rfl) (by kernel_rfl) (by kernel_rfl)) ?_
  intro W base args ds gs before hval0 hW _ _ _
  have hval : ∀ (j : Nat) t v, Try.f4.params[j]? = some t → args[j]? = some v → Value.okWide Try.prog W .any base t v := hval0
  obtain ⟨p, q, hA0, _, _, _, _⟩ := id hW
  have hA : DataW.TrodAll enc Try.prog W 0 (fun _ => true) true Try.f4.params.toList args.toList ds p := hA0
  rw [Try.params4] at hA hval
  obtain ⟨v0, vs0, d0, ds0, p0, q0, hargs, rfl, rfl, h0, r0⟩ := trodAll_cons hA
  obtain ⟨v1, vs1, d1, ds1, p1, q1, rfl, rfl, rfl, h1, r1⟩ := trodAll_cons r0
  obtain ⟨v2, vs2, d2, ds2, p2, q2, rfl, rfl, rfl, h2, r2⟩ := trodAll_cons r1
  obtain ⟨v3, vs3, d3, ds3, p3, q3, rfl, rfl, rfl, h3, r3⟩ := trodAll_cons r2
  obtain ⟨rfl, rfl, rfl⟩ := trodAll_nil r3
  obtain rfl : args = #[v0, v1, v2, v3] := by cases args; simp_all
  obtain ⟨a0, rfl, rfl, rfl, w0⟩ := open_int Try.underlying22 (hval 0 22 v0 rfl rfl) h0
  obtain ⟨u0, _, rfl⟩ := u32_of a0 w0
  obtain ⟨a1, rfl, rfl, rfl, w1⟩ := open_int Try.underlying22 (hval 1 22 v1 rfl rfl) h1
  obtain ⟨u1, _, rfl⟩ := u32_of a1 w1
  obtain ⟨a2, rfl, rfl, rfl, w2⟩ := open_int Try.underlying22 (hval 2 22 v2 rfl rfl) h2
  obtain ⟨u2, _, rfl⟩ := u32_of a2 w2
  obtain ⟨l3, hr3⟩ := open_row (t := 33) Try.underlying33 Try.underlying22 (by kernel_rfl) (hval 3 33 v3 rfl rfl) h3
  refine (walk u0 u1 u2 l3 v3 W hr3).mono fun e W' ⟨he, hg⟩ => ?_
  subst he
  exact ⟨_, rfl, law_post laidOut Try.underlying4 (by kernel_rfl) (by kernel_rfl) rfl hW (by simp [Rows.serialRowsSpec]) hg⟩

theorem proved : Rows.SerialRowsSaid :=
  OpenClaim.holds_of_wide 4 Try.f4 rfl rfl rfl rfl rfl rfl rfl ⟨rfl, rfl, rfl, rfl, rfl⟩ rfl rfl rfl rfl rfl (by kernel_rfl) Try.func4 (by kernel_rfl)
    (of_decide_eq_true (by kernel_rfl)) (by unfold Func.isWrapper; first | (rw [if_pos (by decide +kernel)]; kernel_rfl) | (rw [if_neg (by decide +kernel)]; exact ⟨rfl, rfl⟩))
    (fun os started H enc _ => lifted os started H enc)
#print axioms proved
end Go.Proofs.Ytgahpfoejecihaa.serialRows
