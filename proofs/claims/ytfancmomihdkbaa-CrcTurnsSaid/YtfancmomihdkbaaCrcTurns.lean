/-
  A sealed packet checks and is sealed as itself, with nothing else turned; with one byte turned, whichever it is, it does not check: any text, any place, any turn (a packet of 12 to 2000 bytes; others are not asked of).
-/
import Derived.Test.YtfancmomihdkbaaLift
import Derived.Test.YtfancmomihdkbaaShown
import Derived.Test.YtfancmomihdkbaaText
import Derived.RegionCalls
import Derived.Deep.RegionHeld3
namespace Go.Proofs.Ytfancmomihdkbaa.crcTurns
open Go.ChangeShapes Go.WideShapes Go.ChangeAt Go.RowKit
set_option linter.unusedVariables false

set_option maxHeartbeats 1000000 in
set_option maxRecDepth 100000 in
theorem walk (s : ByteArray) (hs : s.size ≤ maxLen) (i : Int) (hi1 : -9223372036854775808 ≤ i) (hi2 : i ≤ 9223372036854775807) (x : Nat) (hx : x < 256) (w : World) :
    Calls Try.prog 6 #[.string s, .int .i64 i, .int .u8 (x : Int)] w fun e w' => e = .returned (.bool true) ∧ Below w.heap.size w w' := by
  have HB := Lib.hid (Below.refl w.heap.size w)
  unfold maxLen at hs
  by_cases hk : s.size < 12
  · go_enter Try.func6, Try.ntmps6
    go_wp2_with (go_at_call 9; ((with_reducible refine (shown_any _).mono ?_); rintro e w1 ⟨rfl, hb1⟩); replace HB := Lib.hid (HB.out.trans (hb1.mono HB.out.size)); clear hb1)
    go_ret
    exact ⟨rfl, HB.out⟩
  · by_cases hl : 2000 < s.size
    · go_enter Try.func6, Try.ntmps6
      go_wp2_with (go_at_call 9; ((with_reducible refine (shown_any _).mono ?_); rintro e w1 ⟨rfl, hb1⟩); replace HB := Lib.hid (HB.out.trans (hb1.mono HB.out.size)); clear hb1)
      go_ret
      exact ⟨rfl, HB.out⟩
    · go_enter Try.func6, Try.ntmps6
      go_wp2_with (first
    | (go_at_call 9; ((with_reducible refine (shown_any _).mono ?_); rintro e w1 ⟨rfl, hb1⟩); replace HB := Lib.hid (HB.out.trans (hb1.mono HB.out.size)); clear hb1)
    | (go_at_call 14; ((with_reducible refine (seal_any s (by omega) (by omega) _).mono ?_); rintro e w1 ⟨rfl, hb1⟩); replace HB := Lib.hid (HB.out.trans (hb1.mono HB.out.size)); clear hb1))
      have ha1 := sealed_size s (by omega)
      have ha2 := sealed_head s (by omega)
      have ha3 := sealed_tail s (by omega)
      have hS : ∀ W, Calls Try.prog 14 #[.string (sealed s)] W fun e w' => e = .returned (.tuple #[.string (sealed s), .int .i64 0]) ∧ Below W.heap.size W w' := fun W => by
        have h := seal_any (sealed s) (by omega) (by omega) W
        rw [sealed_twice s (by omega)] at h
        exact h
      have hC : ∀ W, Calls Try.prog 16 #[.string (sealed s)] W fun e w' => e = .returned (.int .i64 0) ∧ Below W.heap.size W w' := fun W => by
        have h := check_any (sealed s) (by omega) W
        rw [checked_sealed s (by omega)] at h
        exact h
      have hT : ∀ (t : ByteArray) (k : Nat) (hk : k < (sealed s).data.toList.length) (y : UInt8), y ≠ (sealed s).data.toList[k] → t.data.toList = (sealed s).data.toList.set k y → checked t = 5 := fun t k hk y => checked_turned s t (by omega) hk y
      have HT := Lib.hid hT
      clear hT
      have HS := Lib.hid hS
      have HC := Lib.hid hC
      clear hS hC
      generalize sealed s = a at *
      go_wp2_with (go_at_call 14; ((with_reducible refine (HS.out _).mono ?_); rintro e w1 ⟨rfl, hb1⟩); replace HB := Lib.hid (HB.out.trans (hb1.mono HB.out.size)); clear hb1)
      have hbw := HB.out
      clear HB
      have h8 : (8 : Int) ≤ (s.size : Int) := by omega
      have h12 : (12 : Int) ≤ (s.size : Int) := by omega
      go_region_held3 (fun w' => Below w.heap.size w w') (first | assumption | exact hbw.drew | exact Below.trans (by assumption) (Below.mono (by assumption) (Below.size (by assumption))))
        (first | (go_at_call 16; refine (HC.out _).mono ?_; rintro e w1 ⟨rfl, hb1⟩))
      have hB1 : Below w.heap.size w w1 := by assumption
      have HB1 := Lib.hid hB1
      clear hbw hB1 hb1
      go_simp
      by_cases hx0 : x = 0
      · have hxe : ((x : Int) == 0) = true := by simp; omega
        go_wp2_with fail
        go_ret
        exact ⟨rfl, HB1.out⟩
      have hxe : ((x : Int) == 0) = false := by simp; omega
      by_cases hi0 : i < 0
      · go_wp2_with fail
        go_ret
        exact ⟨rfl, HB1.out⟩
      by_cases hi9 : (s.size : Int) ≤ i
      · go_wp2_with fail
        go_ret
        exact ⟨rfl, HB1.out⟩
      obtain ⟨k, rfl⟩ : ∃ k : Nat, i = (k : Int) := ⟨i.toNat, by omega⟩
      have hkl : k < s.size := by omega
      have hkl2 : k < a.data.toList.length := by rw [← size_list, ha1]; exact hkl
      have hcell := bytes_cell w1 5 a (List.getElem?_eq_getElem hkl2)
      have hfree := bytes_free w1 5 a (j := k) (by rw [ha1]; exact hkl)
      have hby := bytes_of w1 a
      have hB2 := bytes_below HB1.out HB1.out.size 5 a
      have HTk := Lib.hid fun (t : ByteArray) (y : UInt8) => HT.out t k hkl2 y
      have hset := fun (y : UInt8) => text_of ((Lib.bytesWorld w1 5 a).setCell ⟨w1.heap.size, k, none⟩ (.int .u8 (y.toNat : Int))) w1.heap.size 0 (grownCap w1 s.size 0 5) (a.data.toList.set k y)
        (set_cells hkl2 y fun j u hu => by rw [Nat.zero_add]; exact bytes_cell w1 5 a hu)
      have hlen : ∀ y : UInt8, (a.data.toList.set k y).length = s.size := fun y => by rw [List.length_set, ← size_list, ha1]
      have hB3 := fun (y : UInt8) => hB2.setCell (p := ⟨w1.heap.size, k, none⟩) HB1.out.size (.int .u8 (y.toNat : Int))
      have HB3 := Lib.hid hB3
      rw [ha1] at hby
      have hgs : w1.heap.size < (Lib.bytesWorld w1 5 a).heap.size := by rw [Lib.bytesWorld_size]; omega
      clear hB2 hB3 HT
      generalize a.data.toList[k] = u at *
      have hul := u.toNat_lt
      obtain ⟨y, hy⟩ : ∃ y : UInt8, y.toNat = u.toNat ^^^ x := ⟨UInt8.ofNat (u.toNat ^^^ x), UInt8.toNat_ofNat_of_lt' (xor_lt8 hul hx)⟩
      have hxx := u8_xor_nat u.toNat x hul hx
      rw [← hy] at hxx
      have hyu : y ≠ u := by
        rintro rfl
        apply hx0
        have e : y.toNat ^^^ x = y.toNat ^^^ 0 := by rw [← hy, Nat.xor_zero]
        exact xor_cancel_left e
      replace hset := hset y
      rw [hlen y] at hset
      have HTy := Lib.hid fun (t : ByteArray) => HTk.out t y hyu
      replace HB3 := Lib.hid (HB3.out y)
      obtain ⟨t, ht⟩ : ∃ t : ByteArray, t = ⟨(a.data.toList.set k y).toArray⟩ := ⟨_, rfl⟩
      rw [← ht] at hset
      have hct := HTy.out t (by rw [ht])
      have hts : t.size = s.size := by rw [ht, size_list]; exact hlen y
      have HCT : Hid (∀ W, Calls Try.prog 16 #[.string t] W fun e w' => e = .returned (.int .i64 5) ∧ Below W.heap.size W w') := Lib.hid fun W => by
        have h := check_any t (by omega) W
        rw [hct] at h
        exact h
      clear hct hts ht HTy HTk hlen hy hyu hx0
      generalize Lib.bytesWorld w1 5 a = wb at *
      go_wp2_with (go_at_call 16; refine (HCT.out _).mono ?_; rintro e w2 ⟨rfl, hb2⟩)
      go_ret
      exact ⟨rfl, HB3.out.trans (hb2.mono HB3.out.size)⟩

set_option maxRecDepth 100000 in
theorem lifted (os : Os) (started : os.Started) (H : Type) (enc : TypeId × Value → H) :
    ReturnsInHanded {} Try.checked os 6 .any (Rows.crcTurnsSpec.pre6 enc Try.prog Try.f6 Rows.crcTurnsRow.domain false) (Rows.crcTurnsSpec.post enc Try.prog Try.f6 false true false false) := by
  refine returnsInHanded_of_change_sized (C := Try.checked) own started (by kernel_rfl) Try.func6
    (ChangeSpec.witness6 (enc := enc) (C := Try.checked) false ⟨#[], #[.string ⟨#[]⟩, .int .i64 0, .int .u8 0], []⟩ 8 (by kernel_rfl) (by kernel_rfl) (by kernel_rfl) (by kernel_rfl)) ?_
  intro W base args ds gs before hval0 hW _ _ _
  have hval : ∀ (j : Nat) t v, Try.f6.params[j]? = some t → args[j]? = some v → Value.okWide Try.prog W .any base t v := hval0
  obtain ⟨p, q, hA0, _, _, _, _⟩ := id hW
  have hA : DataW.TrodAll enc Try.prog W 0 (fun _ => true) true Try.f6.params.toList args.toList ds p := hA0
  rw [Try.params6] at hA hval
  obtain ⟨v0, vs0, d0, ds0, p0, q0, hargs, rfl, rfl, h0, r0⟩ := trodAll_cons hA
  obtain ⟨v1, vs1, d1, ds1, p1, q1, rfl, rfl, rfl, h1, r1⟩ := trodAll_cons r0
  obtain ⟨v2, vs2, d2, ds2, p2, q2, rfl, rfl, rfl, h2, r2⟩ := trodAll_cons r1
  obtain ⟨rfl, rfl, rfl⟩ := trodAll_nil r2
  obtain rfl : args = #[v0, v1, v2] := by cases args; simp_all
  obtain ⟨a0, rfl, rfl, rfl, w0⟩ := Go.ChangeMaps.open_string Try.underlying9 (hval 0 9 v0 rfl rfl) h0
  obtain ⟨a1, rfl, rfl, rfl, w1⟩ := open_int Try.underlying3 (hval 1 3 v1 rfl rfl) h1
  obtain ⟨a2, rfl, rfl, rfl, w2⟩ := open_int Try.underlying5 (hval 2 5 v2 rfl rfl) h2
  obtain ⟨n2, rfl, b2⟩ := nat_u8 w2
  refine (walk a0 w0 a1 (bounds_i64 w1).1 (bounds_i64 w1).2 n2 b2 W).mono fun e W' ⟨he, hg⟩ => ?_
  subst he
  exact ⟨_, rfl, law_post laidOut Try.underlying4 (by kernel_rfl) (by kernel_rfl) rfl hW (by simp [Rows.crcTurnsSpec]) hg⟩

theorem proved : Rows.CrcTurnsSaid :=
  OpenClaim.holds_of_wide 6 Try.f6 rfl rfl rfl rfl rfl rfl rfl ⟨rfl, rfl, rfl, rfl, rfl⟩ rfl rfl rfl rfl rfl (by kernel_rfl) Try.func6 (by kernel_rfl)
    (of_decide_eq_true (by kernel_rfl)) (by unfold Func.isWrapper; first | (rw [if_pos (by decide +kernel)]; kernel_rfl) | (rw [if_neg (by decide +kernel)]; exact ⟨rfl, rfl⟩))
    (fun os started H enc _ => lifted os started H enc)
#print axioms proved
end Go.Proofs.Ytfancmomihdkbaa.crcTurns
