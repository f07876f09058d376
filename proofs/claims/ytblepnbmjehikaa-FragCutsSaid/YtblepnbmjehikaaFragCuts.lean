/-
  The pieces of a text, or what is wrong, is as the chapter says; one behind the other they are the text: any text, any number.
-/
import Derived.Test.YtblepnbmjehikaaLift
import Derived.Test.YtblepnbmjehikaaArgs
import Derived.Test.YtblepnbmjehikaaSl
import Derived.Test.YtblepnbmjehikaaSm
namespace Go.Proofs.Ytblepnbmjehikaa.fragCuts
open Go.ChangeShapes Go.WideShapes Go.ChangeAt Go.RowKit
set_option linter.unusedVariables false
set_option linter.unusedSimpArgs false
set_option maxRecDepth 100000

theorem catB_snoc (l : List ByteArray) (x : ByteArray) : catB (l ++ [x]) = catB l ++ x := by
  apply ByteArray.ext
  rw [ByteArray.data_append]
  unfold catB
  simp
theorem catB_pre (l : List ByteArray) (j : Nat) : (catB (l.take j)).size ≤ (catB l).size := by
  have e : catB l = catB (l.take j) ++ catB (l.drop j) := by
    apply ByteArray.ext
    rw [ByteArray.data_append]
    conv => lhs; rw [← List.take_append_drop j l]
    unfold catB
    rw [List.flatMap_append]
    simp
  rw [e, ByteArray.size_append]
  omega
set_option maxHeartbeats 2000000 in
theorem walk (s : ByteArray) (m : Int) (w : World) : Calls Try.prog 3 #[.string s, .int .i64 m] w fun e w' => e = .returned (.bool true) ∧ Below w.heap.size w w' := by
  have HSH := Lib.hid shown_any
  have HB := Lib.hid (Below.refl w.heap.size w)
  by_cases h3 : s.size ≤ 30000
  · have q3 : ¬ (30000 : Int) < (s.size : Int) := by omega
    have HCU := Lib.hid (fun W => cut_any s m W)
    have HRC := Lib.hid (fun W => rcut_any s m W)
    have HCS := Lib.hid (cutP_cases s m)
    generalize (cutP s m).1 = L at *
    generalize (cutP s m).2 = K at *
    have hL : L.length ≤ 20001 ∧ ∀ j, (catB (L.take j)).size ≤ 30000 := by
      rcases HCS.out with ⟨-, h1, h2⟩ | ⟨h1, -⟩
      · exact ⟨h2, fun j => by have := catB_pre L j; rw [h1] at this; omega⟩
      · rw [h1]; exact ⟨Nat.zero_le _, fun j => by rw [List.take_nil]; exact Nat.zero_le _⟩
    obtain ⟨hL1, hL2⟩ := hL
    have HPR := Lib.hid hL2
    have HSN : Hid (∀ j (h : j < L.length), catB (L.take (j + 1)) = catB (L.take j) ++ L[j]) := Lib.hid (fun j h => by rw [List.take_succ_eq_append_getElem h, catB_snoc])
    have HFU : Hid (catB (L.take L.length) = catB L) := Lib.hid (by rw [List.take_length])
    have HC0 : Hid (catB (L.take 0) = ⟨#[]⟩) := Lib.hid rfl
    have HST := Lib.hid (fun v1 v2 W h1 h2 => same_texts L (by omega) v1 v2 W h1 h2)
    have hLI : (L.length : Int) ≤ 20001 := by omega
    clear hL2
    go_enter Try.func3, Try.ntmps3
    go_wp2_with (first
      | (go_at_call 9; (with_reducible refine (HSH.out _).mono ?_); rintro e w1 ⟨rfl, hb⟩; replace HB := Lib.hid (HB.out.trans (hb.mono HB.out.size)); clear hb)
      | (go_at_call 10; (with_reducible refine (HCU.out _).mono ?_); rintro e w2 ⟨A2, k2, rfl, hr, hb⟩; have HR2 := Lib.hid hr; replace HB := Lib.hid (HB.out.trans (hb.mono HB.out.size)); clear hr hb)
      | (go_at_call 11; (with_reducible refine (HRC.out _).mono ?_); rintro e w3 ⟨A3, k3, rfl, hr, hb⟩; have HR3 := Lib.hid hr; replace HR2 := Lib.hid (RowE.below HR2.out hb); replace HB := Lib.hid (HB.out.trans (hb.mono HB.out.size)); clear hr hb))
    go_loopw [10, 11] (fun v10 v11 wr => ∃ j : Nat, wr = w3 ∧ j ≤ L.length ∧ v10 = .string (catB (L.take j)) ∧ v11 = .int .i64 j)
      (fun _ v11 _ => L.length - (intOf v11).toNat)
    case atStart => exact ⟨0, rfl, Nat.zero_le _, by rw [HC0.out], rfl⟩
    case round =>
      obtain ⟨j, rfl, hj, rfl, rfl⟩ := hrel
      by_cases hlt : j < L.length
      · obtain ⟨b, off, c, e9, hb, -, -, e1⟩ := HR2.out.atS hlt
        cases e9
        have q1 : (0 : Int) ≤ (j : Int) := by omega
        have q2 : (j : Int) < (L.length : Int) := by omega
        have HN := Lib.hid (HSN.out j hlt)
        have hp := HPR.out j
        have hp2 := HPR.out (j + 1)
        rw [HN.out] at hp2
        generalize L[j] = x at *
        obtain ⟨t, ht⟩ : ∃ t, catB (L.take j) = t := ⟨_, rfl⟩
        rw [ht] at HN hp hp2 ⊢
        rw [ByteArray.size_append] at hp2
        have q4 : ¬ (9223372036854775807 : Int) < (t.size : Int) + (x.size : Int) := by omega
        have q5 : ¬ 9223372036854775807 < t.size + x.size := by omega
        clear ht
        go_wp2_with fail
        go_roundw
        case rel => exact ⟨j + 1, by first | rfl | trivial, by omega, by rw [HN.out], by go_num⟩
        case measure => simp [intOf]; omega
      · obtain rfl : j = L.length := by omega
        rw [HFU.out]
        rcases HCS.out with ⟨rfl, h1, -⟩ | ⟨-, rfl | rfl⟩
        · rw [h1]
          go_wp2_with (go_at_call 12; (with_reducible refine (HST.out _ _ _ HR2.out HR3.out).mono ?_); rintro e w5 ⟨rfl, hb⟩; replace HB := Lib.hid (HB.out.trans (hb.mono HB.out.size)); clear hb)
          go_ret
          exact ⟨rfl, HB.out⟩
        · go_wp2_with (go_at_call 12; (with_reducible refine (HST.out _ _ _ HR2.out HR3.out).mono ?_); rintro e w5 ⟨rfl, hb⟩; replace HB := Lib.hid (HB.out.trans (hb.mono HB.out.size)); clear hb)
          go_ret
          exact ⟨rfl, HB.out⟩
        · go_wp2_with (go_at_call 12; (with_reducible refine (HST.out _ _ _ HR2.out HR3.out).mono ?_); rintro e w5 ⟨rfl, hb⟩; replace HB := Lib.hid (HB.out.trans (hb.mono HB.out.size)); clear hb)
          go_ret
          exact ⟨rfl, HB.out⟩
  · have q3 : (30000 : Int) < (s.size : Int) := by omega
    go_enter Try.func3, Try.ntmps3
    go_wp2_with (go_at_call 9; (with_reducible refine (HSH.out _).mono ?_); rintro e w1 ⟨rfl, hb⟩; replace HB := Lib.hid (HB.out.trans (hb.mono HB.out.size)); clear hb)
    go_ret
    exact ⟨rfl, HB.out⟩

set_option maxRecDepth 100000 in
theorem lifted (os : Os) (started : os.Started) (H : Type) (enc : TypeId × Value → H) :
    ReturnsInHanded {} Try.checked os 3 .any (Rows.fragCutsSpec.pre6 enc Try.prog Try.f3 Rows.fragCutsRow.domain false) (Rows.fragCutsSpec.post enc Try.prog Try.f3 false true false false) := by
  refine returnsInHanded_of_change_sized (C := Try.checked) own started (by kernel_rfl) Try.func3
    (ChangeSpec.witness6 (enc := enc) (C := Try.checked) false ⟨#[], #[.string ⟨#[]⟩, .int .i64 0], []⟩ 8 (by kernel_rfl) (by kernel_rfl) (by kernel_rfl) (by kernel_rfl)) ?_
  intro W base args ds gs before hval0 hW _ hreach _
  have hval : ∀ (j : Nat) t v, Try.f3.params[j]? = some t → args[j]? = some v → Value.okWide Try.prog W .any base t v := hval0
  obtain ⟨p, q, hA0, _, _, _, _⟩ := id hW
  have hA : DataW.TrodAll enc Try.prog W 0 (fun _ => true) true Try.f3.params.toList args.toList ds p := hA0
  rw [Try.params3] at hA hval
  obtain ⟨v0, vs0, d0, ds0, p0, q0, hargs, rfl, rfl, h0, r0⟩ := trodAll_cons hA
  obtain ⟨v1, vs1, d1, ds1, p1, q1, rfl, rfl, rfl, h1, r1⟩ := trodAll_cons r0
  obtain ⟨rfl, rfl, rfl⟩ := trodAll_nil r1
  obtain rfl : args = #[v0, v1] := by cases args; simp_all
  obtain ⟨a0, rfl, rfl, rfl, w0⟩ := Go.ChangeMaps.open_string Try.underlying9 (hval 0 9 v0 rfl rfl) h0
  obtain ⟨a1, rfl, rfl, rfl, w1⟩ := open_int Try.underlying3 (hval 1 3 v1 rfl rfl) h1
  refine (walk a0 a1 W).mono fun e W' ⟨he, hg⟩ => ?_
  subst he
  exact ⟨_, rfl, law_post laidOut Try.underlying4 (by kernel_rfl) (by kernel_rfl) rfl hW (by simp [Rows.fragCutsSpec]) hg⟩

theorem proved : Rows.FragCutsSaid :=
  OpenClaim.holds_of_wide 3 Try.f3 rfl rfl rfl rfl rfl rfl rfl ⟨rfl, rfl, rfl, rfl, rfl⟩ rfl rfl rfl rfl rfl (by kernel_rfl) Try.func3 (by kernel_rfl)
    (of_decide_eq_true (by kernel_rfl)) (by unfold Func.isWrapper; first | (rw [if_pos (by decide +kernel)]; kernel_rfl) | (rw [if_neg (by decide +kernel)]; exact ⟨rfl, rfl⟩))
    (fun os started H enc _ => lifted os started H enc)
#print axioms proved
end Go.Proofs.Ytblepnbmjehikaa.fragCuts
