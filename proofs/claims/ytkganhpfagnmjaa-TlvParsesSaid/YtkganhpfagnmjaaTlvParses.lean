/-
  The items of bytes, or the place of the one that is wrong, is as the chapter says: any text (of at most 4500 bytes; a longer one is not asked of).
-/
import Derived.Test.YtkganhpfagnmjaaLift
import Derived.Test.YtkganhpfagnmjaaShown
import Derived.Test.YtkganhpfagnmjaaArgs
import Derived.Test.YtkganhpfagnmjaaConv
import Derived.Test.YtkganhpfagnmjaaRefParse
import Derived.Test.YtkganhpfagnmjaaParse
import Derived.Test.YtkganhpfagnmjaaCount
namespace Go.Proofs.Ytkganhpfagnmjaa.tlvParses
open Go.ChangeShapes Go.WideShapes Go.ChangeAt Go.RowKit
set_option linter.unusedVariables false

set_option maxHeartbeats 1000000 in
set_option maxRecDepth 100000 in
theorem walk (s : ByteArray) (hs : s.size ≤ maxLen) (w : World) :
    Calls Try.prog 4 #[.string s] w fun e w' => e = .returned (.bool true) ∧ Below w.heap.size w w' := by
  have HB := Lib.hid (Below.refl w.heap.size w)
  unfold maxLen at hs
  by_cases c0 : 4500 < s.size
  · have c0' : (4500 : Int) < (s.size : Int) := by omega
    go_enter Try.func4, Try.ntmps4
    go_wp2_with (go_at_call 9; ((with_reducible refine (shown_any _).mono ?_); rintro e w1 ⟨rfl, hb1⟩); replace HB := Lib.hid (HB.out.trans (hb1.mono HB.out.size)); clear hb1)
    go_ret
    exact ⟨rfl, HB.out⟩
  have c0' : ¬ (4500 : Int) < (s.size : Int) := by omega
  have HP := Lib.hid (fun W => parse_any s (by omega) W)
  have HQ := Lib.hid (fun W => rparse_any s (by omega) W)
  have hf : (parseB s).1.length ≤ 100000 := by have := parse_count (s := s); omega
  have HA := Lib.hid (fun v W h => as_any (parseB s).1 hf v W h)
  have hsm := fun v u W h k => same_any (parseB s).1 (parseB s).1 hf hf v u W h k
  rw [show decide ((parseB s).1 = (parseB s).1) = true from decide_eq_true rfl] at hsm
  have HS := Lib.hid hsm
  clear hsm hf
  generalize parseB s = R at *
  obtain ⟨l, n, x⟩ := R
  dsimp only at HP HQ HA HS
  go_enter Try.func4, Try.ntmps4
  go_wp2_with (first
    | (go_at_call 9; ((with_reducible refine (shown_any _).mono ?_); rintro e w1 ⟨rfl, hb1⟩); replace HB := Lib.hid (HB.out.trans (hb1.mono HB.out.size)); clear hb1)
    | (go_at_call 20; ((with_reducible refine (HP.out _).mono ?_); rintro e w1 ⟨rav, rfl, ho1, hb1⟩); have RA := Lib.hid (rowI_of_own ho1); replace HB := Lib.hid (HB.out.trans (hb1.mono HB.out.size)); clear hb1 ho1)
    | (go_at_call 21; ((with_reducible refine (HQ.out _).mono ?_); rintro e w1 ⟨rbv, rfl, ho1, hb1⟩); have RB := Lib.hid (rowI_of_own ho1); replace HB := Lib.hid (HB.out.trans (hb1.mono HB.out.size)); replace RA := Lib.hid (RA.out.below hb1); clear hb1 ho1)
    | (go_at_call 13; ((with_reducible refine (HA.out _ _ RA.out).mono ?_); rintro e w1 ⟨rcv, rfl, ho1, hb1⟩); have RC := Lib.hid (rowI_of_own ho1); replace HB := Lib.hid (HB.out.trans (hb1.mono HB.out.size)); replace RB := Lib.hid (RB.out.below hb1); clear hb1 ho1)
    | (go_at_call 22; ((with_reducible refine (HS.out _ _ _ RC.out RB.out).mono ?_); rintro e w1 ⟨rfl, hb1⟩); replace HB := Lib.hid (HB.out.trans (hb1.mono HB.out.size)); clear hb1))
  go_ret
  exact ⟨rfl, HB.out⟩

set_option maxRecDepth 100000 in
theorem lifted (os : Os) (started : os.Started) (H : Type) (enc : TypeId × Value → H) :
    ReturnsInHanded {} Try.checked os 4 .any (Rows.tlvParsesSpec.pre6 enc Try.prog Try.f4 Rows.tlvParsesRow.domain false) (Rows.tlvParsesSpec.post enc Try.prog Try.f4 false true false false) := by
  refine returnsInHanded_of_change_sized (C := Try.checked) own started (by kernel_rfl) Try.func4
    (ChangeSpec.witness6 (enc := enc) (C := Try.checked) false ⟨#[], #[.string ⟨#[]⟩], []⟩ 8 (by kernel_rfl) (by kernel_rfl) (by kernel_rfl) (by kernel_rfl)) ?_
  intro W base args ds gs before hval0 hW _ hreach _
  have hval : ∀ (j : Nat) t v, Try.f4.params[j]? = some t → args[j]? = some v → Value.okWide Try.prog W .any base t v := hval0
  obtain ⟨p, q, hA0, _, _, _, _⟩ := id hW
  have hA : DataW.TrodAll enc Try.prog W 0 (fun _ => true) true Try.f4.params.toList args.toList ds p := hA0
  rw [Try.params4] at hA hval
  obtain ⟨v0, vs0, d0, ds0, p0, q0, hargs, rfl, rfl, h0, r0⟩ := trodAll_cons hA
  obtain ⟨rfl, rfl, rfl⟩ := trodAll_nil r0
  obtain rfl : args = #[v0] := by cases args; simp_all
  obtain ⟨a0, rfl, rfl, rfl, w0⟩ := Go.ChangeMaps.open_string Try.underlying9 (hval 0 9 v0 rfl rfl) h0
  refine (walk a0 w0 W).mono fun e W' ⟨he, hg⟩ => ?_
  subst he
  exact ⟨_, rfl, law_post laidOut Try.underlying4 (by kernel_rfl) (by kernel_rfl) rfl hW (by simp [Rows.tlvParsesSpec]) hg⟩

theorem proved : Rows.TlvParsesSaid :=
  OpenClaim.holds_of_wide 4 Try.f4 rfl rfl rfl rfl rfl rfl rfl ⟨rfl, rfl, rfl, rfl, rfl⟩ rfl rfl rfl rfl rfl (by kernel_rfl) Try.func4 (by kernel_rfl)
    (of_decide_eq_true (by kernel_rfl)) (by unfold Func.isWrapper; first | (rw [if_pos (by decide +kernel)]; kernel_rfl) | (rw [if_neg (by decide +kernel)]; exact ⟨rfl, rfl⟩))
    (fun os started H enc _ => lifted os started H enc)
#print axioms proved
end Go.Proofs.Ytkganhpfagnmjaa.tlvParses
