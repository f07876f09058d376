/-
  The rows have just the numbers that there are, each in one; between two rows at least one number is left out: any list, any number.
-/
import Derived.Test.YtgahpfoejecihaaLift
import Derived.Test.YtgahpfoejecihaaScal
import Derived.Test.YtgahpfoejecihaaShown
import Derived.Deep.QuietTactic
import Derived.BigQuiet
namespace Go.Proofs.Ytgahpfoejecihaa.serialCovers
open Go.ChangeShapes Go.WideShapes Go.ChangeAt Go.RowKit
set_option linter.unusedVariables false

open Go.Sort Go.Lib
theorem walk_long (l : List UInt32) (f : UInt32) (v : Value) (w : World) (hv : RowE enc32 w v l) (hl : 100 < l.length) :
    Calls Try.prog 7 #[v, .int .u32 (f.toNat : Int)] w fun e w' => e = .returned (.bool true) ∧ Below w.heap.size w w' := by
  obtain ⟨A, cap, rfl, _, _, _⟩ := hv
  have hl' : decide (100 < (l.length : Int)) = true := decide_eq_true (by omega)
  go_enter Try.func7, Try.ntmps7
  go_wp2_with (go_at_call 11; refine (shown_any _).mono ?_; rintro e w1 ⟨rfl, hb⟩; have HB := Lib.hid hb; clear hb)
  go_ret
  exact ⟨rfl, HB.out⟩

/-- Whether a number is in one of the rows. -/
def inRows (rs : List (UInt32 × UInt32)) (x : UInt32) : Bool := rs.any fun p => within32 x.toNat p.1.toNat p.2.toNat
theorem inRows_snoc (rs : List (UInt32 × UInt32)) (p : UInt32 × UInt32) (x : UInt32) : inRows (rs ++ [p]) x = (inRows rs x || within32 x.toNat p.1.toNat p.2.toNat) := by simp [inRows]
theorem up32_key (x f : UInt32) : up32 x.toNat f.toNat = (key f x : Int) := by unfold up32 key; exact sub_toNat x f
theorem inRows_yes (f : UInt32) (rs : List (UInt32 × UInt32)) (x : UInt32) (p : UInt32 × UInt32) (hp : p ∈ rs) (h1 : key f p.1 ≤ key f x) (h2 : key f x ≤ key f p.2) : inRows rs x = true := by
  unfold inRows
  rw [List.any_eq_true]
  refine ⟨p, hp, ?_⟩
  have e1 := up32_key x f
  have e2 := up32_key p.1 f
  have e3 := up32_key p.2 f
  unfold within32
  unfold up32 at *
  exact decide_eq_true (by omega)
theorem take_all_pairs (rs : List (UInt32 × UInt32)) (k : Nat) (h : k < rs.length) : rs.take (k + 1) = rs.take k ++ [rs[k]!] := take_succ' rs k h

set_option maxHeartbeats 4000000 in
set_option maxRecDepth 100000 in
theorem walk_short (l : List UInt32) (f : UInt32) (v : Value) (w : World) (hv : RowE enc32 w v l) (hl : l.length ≤ 100) :
    Calls Try.prog 7 #[v, .int .u32 (f.toNat : Int)] w fun e w' => e = .returned (.bool true) ∧ Below w.heap.size w w' := by
  have HV := Lib.hid hv
  obtain ⟨A, cap, rfl, hcap, hmax, hcells⟩ := hv
  have HCELL := Lib.hid hcells
  clear hcells
  have hl' : decide (100 < (l.length : Int)) = false := decide_eq_false (by omega)
  have hf := f.toNat_lt
  have hsl := length_srt_le f l
  obtain ⟨F1, F2, F3, F4, _⟩ := runs_facts f (srt f l) (strict_srt f l)
  have F5 : ∀ x ∈ l, ∃ p ∈ runs (srt f l), key f p.1 ≤ key f x ∧ key f x ≤ key f p.2 := fun x hx => F4 x ((mem_srt f l x).2 hx)
  have HR := Lib.hid (fun W (h : RowE enc32 W (.slice A l.length cap) l) => runs_z f _ rfl l _ W h (by omega))
  have HRL := Lib.hid (show cnt f (runs (srt f l)) = (srt f l).length from F3)
  have hrl := length_runs_le (srt f l)
  clear F3 F4
  have HLS := Lib.hid (show ∀ W, RowE enc32 W (.slice A l.length cap) l → Calls Try.prog 28 #[.slice A l.length cap, .int .u32 (f.toNat : Int)] W fun e w' => ∃ v', e = .returned v' ∧ RowE enc32 w' v' (srt f l) ∧ Below W.heap.size W w' from fun W h => sorted_z f _ rfl l _ W h (by omega))
  generalize runs (srt f l) = rs at *
  generalize hns : (srt f l).length = ns at *
  have HNS := Lib.hid hns
  clear hns
  go_enter Try.func7, Try.ntmps7
  go_wp2_with (go_at_call 11; refine (shown_any _).mono ?_; rintro e w1 ⟨rfl, hb⟩; have HB := Lib.hid hb; clear hb)
  refine (HR.out _ (HV.out.below HB.out)).mono ?_
  rintro e w2 ⟨vr, rfl, hown, hb2⟩
  have HB2 := Lib.hid (HB.out.trans (hb2.mono HB.out.size))
  have HOWN := Lib.hid hown
  obtain ⟨Ar, cr, rfl, _, _, _⟩ := own_slice hown
  have HF1 := Lib.hid F1
  have HF2 := Lib.hid F2
  have HF5 := Lib.hid F5
  clear hown hb2 F1 F2 F5
  go_wp2_with fail
  go_loopw [7, 8] (fun many i wr => ∃ (k q : Nat), k ≤ rs.length ∧ i = .int .i64 k ∧ many = .int .i64 (cnt f (rs.take k) : Nat) ∧ wr = w2.drewN q) (fun _ i _ => rs.length - (intOf i).toNat)
  case atStart => exact ⟨0, 0, Nat.zero_le _, rfl, rfl, rfl⟩
  case round =>
    obtain ⟨k, q, hk, rfl, rfl, rfl⟩ := hrel
    by_cases hlt : k < rs.length
    · obtain ⟨g, cr', e, hg, hgl⟩ := own_form HOWN.out (by omega)
      cases e
      have e1 : w2.cell? ⟨g, k * 2, none⟩ = some (enc32 rs[k]!.1) := by rw [HOWN.out.cellAt _ (by omega), flat_fst _ _ _ hlt, getElem!_pos rs k hlt]
      have e2 : w2.cell? ⟨g, k * 2 + 1, none⟩ = some (enc32 rs[k]!.2) := by rw [HOWN.out.cellAt _ (by omega), flat_snd _ _ _ hlt, getElem!_pos rs k hlt]
      have i0' : (0 : Int) ≤ (k : Int) := Int.natCast_nonneg _
      have i1' : (k : Int) < (rs.length : Int) := by omega
      have hts := Lib.hid (take_all_pairs rs k hlt)
      have hct := cnt_take_le f rs k
      have hct2 := HRL.out
      have hmem : rs[k]! ∈ rs := by rw [getElem!_pos rs k hlt]; exact List.getElem_mem hlt
      have hle := HF1.out _ hmem
      have hk2 := key_lt f rs[k]!.2
      by_cases hk0 : 0 < k
      · have e3 : w2.cell? ⟨g, (k - 1) * 2 + 1, none⟩ = some (enc32 rs[k - 1]!.2) := by rw [HOWN.out.cellAt _ (by omega), flat_snd _ _ _ (by omega), getElem!_pos rs (k - 1) (by omega)]
        have hsep := List.pairwise_iff_getElem.1 HF2.out (k - 1) k (by omega) hlt (by omega)
        rw [← getElem!_pos rs (k - 1) (by omega), ← getElem!_pos rs k hlt] at hsep
        have hk3 := key_lt f rs[k - 1]!.2
        generalize rs[k]! = p at *
        generalize rs[k - 1]! = p0 at *
        have s1 := sub_toNat p.1 f
        have s2 := sub_toNat p.2 f
        have s3 := sub_toNat p0.2 f
        unfold key at hle hsep hk2 hk3
        have T1 : decide (((p.2.toNat : Int) - (f.toNat : Int)) % 4294967296 < ((p.1.toNat : Int) - (f.toNat : Int)) % 4294967296) = false := decide_eq_false (by omega)
        have T2 : decide ((0 : Int) < (k : Int)) = true := decide_eq_true (by omega)
        have T3 : decide (((p.1.toNat : Int) - (f.toNat : Int)) % 4294967296 ≤ ((p0.2.toNat : Int) - (f.toNat : Int)) % 4294967296 + 1) = false := decide_eq_false (by omega)
        have HS := Lib.hid (show ((cnt f (rs.take k) : Nat) : Int) + ((p.2.toNat : Int) - (f.toNat : Int)) % 4294967296 - ((p.1.toNat : Int) - (f.toNat : Int)) % 4294967296 + 1 = ((cnt f (rs.take (k + 1)) : Nat) : Int) by rw [hts.out, cnt_snoc]; unfold key; omega)
        have j0' : (0 : Int) ≤ (k : Int) - 1 := by omega
        have j1' : (k : Int) - 1 < (rs.length : Int) := by omega
        have hp1 := p.1.toNat_lt
        have hp2 := p.2.toNat_lt
        have hp3 := p0.2.toNat_lt
        generalize cnt f (rs.take k) = c at *
        unfold enc32 at e1 e2 e3
        clear s1 s2 s3 hsep hle hk2 hk3 hmem
        go_wp2
        go_roundw
        case rel => exact ⟨k + 1, _, by omega, by go_num, by rw [HS.out], rfl⟩
        case measure => simp [intOf]; omega
      · have T2 : decide ((0 : Int) < (k : Int)) = false := decide_eq_false (by omega)
        generalize rs[k]! = p at *
        have s1 := sub_toNat p.1 f
        have s2 := sub_toNat p.2 f
        unfold key at hle hk2
        have T1 : decide (((p.2.toNat : Int) - (f.toNat : Int)) % 4294967296 < ((p.1.toNat : Int) - (f.toNat : Int)) % 4294967296) = false := decide_eq_false (by omega)
        have HS := Lib.hid (show ((cnt f (rs.take k) : Nat) : Int) + ((p.2.toNat : Int) - (f.toNat : Int)) % 4294967296 - ((p.1.toNat : Int) - (f.toNat : Int)) % 4294967296 + 1 = ((cnt f (rs.take (k + 1)) : Nat) : Int) by rw [hts.out, cnt_snoc]; unfold key; omega)
        have hp1 := p.1.toNat_lt
        have hp2 := p.2.toNat_lt
        generalize cnt f (rs.take k) = c at *
        unfold enc32 at e1 e2
        clear s1 s2 hle hk2 hmem
        go_wp2
        go_roundw
        case rel => exact ⟨k + 1, _, by omega, by go_num, by rw [HS.out], rfl⟩
        case measure => simp [intOf]; omega
    · have hkk : k = rs.length := by omega
      subst hkk
      rw [List.take_length, HRL.out]
      go_wp2_with fail
      go_loopw [11, 12, 13] (fun i _ _ wr => ∃ (k q : Nat), k ≤ l.length ∧ i = .int .i64 k ∧ wr = w2.drewN q) (fun i _ _ _ => l.length - (intOf i).toNat)
      case atStart => exact ⟨0, _, Nat.zero_le _, rfl, rfl⟩
      case round =>
        obtain ⟨k, q2, hk, rfl, rfl⟩ := hrel
        by_cases hlt : k < l.length
        · obtain ⟨b, off, rfl, hb, hc⟩ := HCELL.out (by omega)
          have hck : w2.cell? ⟨b, off + k, none⟩ = some (.int .u32 (l[k]!.toNat : Int)) := (HB2.out.cell (p := ⟨b, off + k, none⟩) hb).trans (hc k hlt)
          have hmem : l[k]! ∈ l := by rw [getElem!_pos l k hlt]; exact List.getElem_mem hlt
          have HIN := Lib.hid (show inRows rs l[k]! = true by obtain ⟨p, hp, h1, h2⟩ := HF5.out _ hmem; exact inRows_yes f rs _ p hp h1 h2)
          generalize l[k]! = x at *
          have hxl := x.toNat_lt
          have i0' : (0 : Int) ≤ (k : Int) := Int.natCast_nonneg _
          have i1' : (k : Int) < (l.length : Int) := by omega
          clear hc hmem
          go_wp2_with fail
          go_loopw [12, 13] (fun sn j wr => ∃ (m q3 : Nat) (bb : Bool), m ≤ rs.length ∧ j = .int .i64 m ∧ sn = .bool bb ∧ Hid (bb = inRows (rs.take m) x) ∧ wr = w2.drewN q3) (fun _ j _ => rs.length - (intOf j).toNat)
          case atStart => exact ⟨0, q2, false, Nat.zero_le _, rfl, rfl, rfl, rfl⟩
          case round =>
            obtain ⟨m, q3, bb, hm, rfl, rfl, HBB, rfl⟩ := hrel
            by_cases hml : m < rs.length
            · obtain ⟨g, cr', e, hg, hgl⟩ := own_form HOWN.out (by omega)
              cases e
              have e1 : w2.cell? ⟨g, m * 2, none⟩ = some (enc32 rs[m]!.1) := by rw [HOWN.out.cellAt _ (by omega), flat_fst _ _ _ hml, getElem!_pos rs m hml]
              have e2 : w2.cell? ⟨g, m * 2 + 1, none⟩ = some (enc32 rs[m]!.2) := by rw [HOWN.out.cellAt _ (by omega), flat_snd _ _ _ hml, getElem!_pos rs m hml]
              have m0' : (0 : Int) ≤ (m : Int) := Int.natCast_nonneg _
              have m1' : (m : Int) < (rs.length : Int) := by omega
              have hts := Lib.hid (show inRows (rs.take (m + 1)) x = (inRows (rs.take m) x || within32 x.toNat rs[m]!.1.toNat rs[m]!.2.toNat) by rw [take_all_pairs rs m hml, inRows_snoc])
              generalize rs[m]! = p at *
              have hp1 := p.1.toNat_lt
              have hp2 := p.2.toNat_lt
              unfold enc32 at e1 e2
              cases bb
              · go_wp2_with fail
                go_quiet ((go_at_call 25; exact quiet_add_left (within_any _ _ _ (by omega) (by omega) (by omega) (by omega) (by omega) (by omega) _)))
                go_wp2
                go_roundw
                case rel => exact ⟨m + 1, _, _, by omega, by go_num, rfl, (by show _ = _; rw [hts.out, ← HBB.out, Bool.false_or]), rfl⟩
                case measure => simp [intOf]; omega
              · go_wp2_with fail
                go_quiet (fail)
                go_wp2
                go_roundw
                case rel => exact ⟨m + 1, _, true, by omega, by go_num, rfl, (by show _ = _; rw [hts.out, ← HBB.out, Bool.true_or]), rfl⟩
                case measure => simp [intOf]; omega
            · have hmm : m = rs.length := by omega
              have hbb : bb = true := by rw [HBB.out, hmm, List.take_length]; exact HIN.out
              subst hbb
              subst hmm
              go_wp2
              go_roundw
              case rel => exact ⟨k + 1, _, by omega, by go_num, rfl⟩
              case measure => simp [intOf]; omega
        · have hkk : k = l.length := by omega
          subst hkk
          have hv2 : RowE enc32 (w2.drewN q2) (.slice A l.length cap) l := HV.out.below (below_drewN HB2.out q2)
          have HV2 := Lib.hid hv2
          clear hv2
          go_wp2_with fail
          refine (HLS.out _ HV2.out).mono ?_
          rintro e w6 ⟨v6, rfl, hs6, hb6⟩
          have HB6 := Lib.hid ((below_drewN HB2.out q2).trans (hb6.mono HB2.out.size))
          obtain ⟨A6, c6, rfl, _, _, _⟩ := hs6
          rw [HNS.out]
          clear hb6
          go_wp2
          go_ret
          exact ⟨by simp, HB6.out⟩

theorem walk (l : List UInt32) (f : UInt32) (v : Value) (w : World) (hv : RowE enc32 w v l) :
    Calls Try.prog 7 #[v, .int .u32 (f.toNat : Int)] w fun e w' => e = .returned (.bool true) ∧ Below w.heap.size w w' := by
  by_cases h : l.length ≤ 100
  · exact walk_short l f v w hv h
  · exact walk_long l f v w hv (by omega)

set_option maxRecDepth 100000 in
theorem lifted (os : Os) (started : os.Started) (H : Type) (enc : TypeId × Value → H) :
    ReturnsInHanded {} Try.checked os 7 .any (Rows.serialCoversSpec.pre6 enc Try.prog Try.f7 Rows.serialCoversRow.domain false) (Rows.serialCoversSpec.post enc Try.prog Try.f7 false true false false) := by
  refine returnsInHanded_of_change_sized (C := Try.checked) own started (by kernel_rfl) Try.func7
    (ChangeSpec.witness6 (enc := enc) (C := Try.checked) false ⟨#[], #[.slice none 0 0, .int .u32 0], []⟩ 8 (by kernel_rfl) (by kernel_rfl) (by kernel_rfl) (by kernel_rfl)) ?_
  intro W base args ds gs before hval0 hW _ _ _
  have hval : ∀ (j : Nat) t v, Try.f7.params[j]? = some t → args[j]? = some v → Value.okWide Try.prog W .any base t v := hval0
  obtain ⟨p, q, hA0, _, _, _, _⟩ := id hW
  have hA : DataW.TrodAll enc Try.prog W 0 (fun _ => true) true Try.f7.params.toList args.toList ds p := hA0
  rw [Try.params7] at hA hval
  obtain ⟨v0, vs0, d0, ds0, p0, q0, hargs, rfl, rfl, h0, r0⟩ := trodAll_cons hA
  obtain ⟨v1, vs1, d1, ds1, p1, q1, rfl, rfl, rfl, h1, r1⟩ := trodAll_cons r0
  obtain ⟨rfl, rfl, rfl⟩ := trodAll_nil r1
  obtain rfl : args = #[v0, v1] := by cases args; simp_all
  obtain ⟨l0, hr0⟩ := open_row (t := 33) Try.underlying33 Try.underlying22 (by kernel_rfl) (hval 0 33 v0 rfl rfl) h0
  obtain ⟨a1, rfl, rfl, rfl, w1⟩ := open_int Try.underlying22 (hval 1 22 v1 rfl rfl) h1
  obtain ⟨u1, _, rfl⟩ := u32_of a1 w1
  refine (walk l0 u1 v0 W hr0).mono fun e W' ⟨he, hg⟩ => ?_
  subst he
  exact ⟨_, rfl, law_post laidOut Try.underlying4 (by kernel_rfl) (by kernel_rfl) rfl hW (by simp [Rows.serialCoversSpec]) hg⟩

theorem proved : Rows.SerialCoversSaid :=
  OpenClaim.holds_of_wide 7 Try.f7 rfl rfl rfl rfl rfl rfl rfl ⟨rfl, rfl, rfl, rfl, rfl⟩ rfl rfl rfl rfl rfl (by kernel_rfl) Try.func7 (by kernel_rfl)
    (of_decide_eq_true (by kernel_rfl)) (by unfold Func.isWrapper; first | (rw [if_pos (by decide +kernel)]; kernel_rfl) | (rw [if_neg (by decide +kernel)]; exact ⟨rfl, rfl⟩))
    (fun os started H enc _ => lifted os started H enc)
#print axioms proved
end Go.Proofs.Ytgahpfoejecihaa.serialCovers
