/-
  Two texts of one length that are unlike in one byte alone have unlike sums: any number, any text, any place, any turn (a text of at most 2000 bytes; a longer one is not asked of).
-/
import Derived.Test.YtfancmomihdkbaaLift
import Derived.Test.YtfancmomihdkbaaShown
import Derived.Test.YtfancmomihdkbaaText
import Derived.RegionCalls
import Derived.Deep.RegionHeld3
namespace Go.Proofs.Ytfancmomihdkbaa.crcOne
open Go.ChangeShapes Go.WideShapes Go.ChangeAt Go.RowKit
set_option linter.unusedVariables false

theorem upd_one (c : Nat) (s t : ByteArray) {k : Nat} (hk : k < s.data.toList.length) (y : UInt8) (hy : y ≠ s.data.toList[k]) (ht : t.data.toList = s.data.toList.set k y) : updOf c s ≠ updOf c t := by
  intro h
  unfold updOf at h
  rw [ht] at h
  exact hy (crc_set hk y h.symm)
theorem sum_one_of (s t : ByteArray) {k : Nat} (hk : k < s.data.toList.length) (y : UInt8) (hy : y ≠ s.data.toList[k]) (ht : t.data.toList = s.data.toList.set k y) : sumOf s ≠ sumOf t := by
  intro h
  unfold sumOf at h
  rw [ht] at h
  exact hy (crc_set hk y h.symm)

set_option maxHeartbeats 1000000 in
set_option maxRecDepth 100000 in
theorem walk (c : Nat) (hc : c < 4294967296) (s : ByteArray) (hs : s.size ≤ maxLen) (i : Int) (hi1 : -9223372036854775808 ≤ i) (hi2 : i ≤ 9223372036854775807) (x : Nat) (hx : x < 256) (w : World) :
    Calls Try.prog 7 #[.int .u32 (c : Int), .string s, .int .i64 i, .int .u8 (x : Int)] w fun e w' => e = .returned (.bool true) ∧ Below w.heap.size w w' := by
  have HB := Lib.hid (Below.refl w.heap.size w)
  have HS := Lib.hid hs
  by_cases hx0 : x = 0
  · have hxe : ((x : Int) == 0) = true := by simp; omega
    go_enter Try.func7, Try.ntmps7
    go_wp2_with (go_at_call 9; ((with_reducible refine (shown_any _).mono ?_); rintro e w1 ⟨rfl, hb1⟩); replace HB := Lib.hid (HB.out.trans (hb1.mono HB.out.size)); clear hb1)
    all_goals
      go_ret
      exact ⟨rfl, HB.out⟩
  have hxe : ((x : Int) == 0) = false := by simp; omega
  by_cases hbig : 2000 < s.size ∨ i < 0 ∨ (s.size : Int) ≤ i
  · rcases (by omega : 2000 < s.size ∨ (s.size ≤ 2000 ∧ i < 0) ∨ (s.size ≤ 2000 ∧ 0 ≤ i ∧ (s.size : Int) ≤ i)) with h | ⟨h, h'⟩ | ⟨h, h', h''⟩
    all_goals
      clear hbig
      go_enter Try.func7, Try.ntmps7
      go_wp2_with (go_at_call 9; ((with_reducible refine (shown_any _).mono ?_); rintro e w1 ⟨rfl, hb1⟩); replace HB := Lib.hid (HB.out.trans (hb1.mono HB.out.size)); clear hb1)
      go_ret
      exact ⟨rfl, HB.out⟩
  obtain ⟨k, rfl⟩ : ∃ k : Nat, i = (k : Int) := ⟨i.toNat, by omega⟩
  have hl : s.size ≤ 2000 := by omega
  have hkl : k < s.size := by omega
  clear hbig
  have hkl2 : k < s.data.toList.length := by rw [← size_list]; exact hkl
  go_enter Try.func7, Try.ntmps7
  go_wp2_with fail
  refine (shown_any _).mono ?_
  rintro e w1 ⟨rfl, hb1⟩
  have HB1 := Lib.hid hb1
  clear hb1 HB
  have hcell := bytes_cell w1 5 s (List.getElem?_eq_getElem hkl2)
  have hfree := bytes_free w1 5 s (j := k) hkl
  have hby := bytes_of w1 s
  have hB2 := bytes_below HB1.out HB1.out.size 5 s
  have hset := fun (y : UInt8) => set_cells (w := Lib.bytesWorld w1 5 s) (b := w1.heap.size) hkl2 y (fun j u hu => by rw [Nat.zero_add]; exact bytes_cell w1 5 s hu)
  have hlen : ∀ y : UInt8, (s.data.toList.set k y).length = s.size := fun y => by rw [List.length_set, ← size_list]
  have hB3 := fun (y : UInt8) => hB2.setCell (p := ⟨w1.heap.size, k, none⟩) HB1.out.size (.int .u8 (y.toNat : Int))
  have HB3 := Lib.hid hB3
  have hgs : w1.heap.size < (Lib.bytesWorld w1 5 s).heap.size := by rw [Lib.bytesWorld_size]; omega
  have hU := fun (t : ByteArray) (y : UInt8) => upd_one c s t hkl2 y
  have hM := fun (t : ByteArray) (y : UInt8) => sum_one_of s t hkl2 y
  clear hB2 hB3
  generalize s.data.toList[k] = u at *
  have hul := u.toNat_lt
  obtain ⟨y, hy⟩ : ∃ y : UInt8, y.toNat = u.toNat ^^^ x := ⟨UInt8.ofNat (u.toNat ^^^ x), UInt8.toNat_ofNat_of_lt' (xor_lt8 hul hx)⟩
  have hxx := u8_xor_nat u.toNat x hul hx
  rw [← hy] at hxx
  have hyu : y ≠ u := by
    rintro rfl
    apply hx0
    have e : y.toNat ^^^ x = y.toNat ^^^ 0 := by rw [← hy, Nat.xor_zero]
    exact xor_cancel_left e
  replace hset := hset y
  replace HB3 := Lib.hid (HB3.out y)
  obtain ⟨t, ht⟩ : ∃ t : ByteArray, t = ⟨(s.data.toList.set k y).toArray⟩ := ⟨_, rfl⟩
  have hts : t.size ≤ maxLen := by rw [ht, size_list]; show (s.data.toList.set k y).length ≤ _; rw [hlen y]; unfold maxLen; omega
  have HU := Lib.hid (hU t y hyu (by rw [ht]))
  have HM := Lib.hid (hM t y hyu (by rw [ht]))
  have hK : ∀ W, Below ((Lib.bytesWorld w1 5 s).setCell ⟨w1.heap.size, k, none⟩ (.int .u8 (y.toNat : Int))).heap.size ((Lib.bytesWorld w1 5 s).setCell ⟨w1.heap.size, k, none⟩ (.int .u8 (y.toNat : Int))) W →
      (convert 32 9 (.slice (some ⟨w1.heap.size, 0, none⟩) s.size (grownCap w1 s.size 0 5))).run Try.prog W = .ok (.string t) W := fun W hW => by
    have h := text_of W w1.heap.size 0 (grownCap w1 s.size 0 5) (s.data.toList.set k y) (fun j v hv => (hW.cell (p := ⟨w1.heap.size, 0 + j, none⟩) (by simp; omega)).trans (hset j v hv))
    rw [hlen y, ← ht] at h
    exact h
  have HK := Lib.hid hK
  have HTS := Lib.hid hts
  clear hU hM hK hset hlen hy hyu hts ht hx0
  generalize Lib.bytesWorld w1 5 s = wb at *
  go_wp2_with fail
  generalize wb.setCell ⟨w1.heap.size, k, none⟩ (.int .u8 (y.toNat : Int)) = wc at *
  have hbc := HB3.out
  generalize hcv : grownCap w1 s.size 0 5 = cap at *
  have HUs : Hid (∀ W, Below wc.heap.size wc W → Calls Try.prog 10 #[.int .u32 (c : Int), .string s] W fun e w' => e = .returned (.int .u32 ((updOf c s : Nat) : Int)) ∧ (convert 32 9 (.slice (some ⟨w1.heap.size, 0, none⟩) s.size cap)).run Try.prog w' = .ok (.string t) w' ∧ Below wc.heap.size wc w') :=
    Lib.hid fun W hW => (update_any c hc s HS.out W).mono fun e w' ⟨he, hb⟩ => ⟨he, HK.out _ (hW.trans (hb.mono hW.size)), hW.trans (hb.mono hW.size)⟩
  have HUt : Hid (∀ W, Below wc.heap.size wc W → Calls Try.prog 10 #[.int .u32 (c : Int), .string t] W fun e w' => e = .returned (.int .u32 ((updOf c t : Nat) : Int)) ∧ (convert 32 9 (.slice (some ⟨w1.heap.size, 0, none⟩) s.size cap)).run Try.prog w' = .ok (.string t) w' ∧ Below wc.heap.size wc w') :=
    Lib.hid fun W hW => (update_any c hc t HTS.out W).mono fun e w' ⟨he, hb⟩ => ⟨he, HK.out _ (hW.trans (hb.mono hW.size)), hW.trans (hb.mono hW.size)⟩
  have HMs : Hid (∀ W, Below wc.heap.size wc W → Calls Try.prog 12 #[.string s] W fun e w' => e = .returned (.int .u32 ((sumOf s : Nat) : Int)) ∧ (convert 32 9 (.slice (some ⟨w1.heap.size, 0, none⟩) s.size cap)).run Try.prog w' = .ok (.string t) w' ∧ Below wc.heap.size wc w') :=
    Lib.hid fun W hW => (sum_any s HS.out W).mono fun e w' ⟨he, hb⟩ => ⟨he, HK.out _ (hW.trans (hb.mono hW.size)), hW.trans (hb.mono hW.size)⟩
  have HMt : Hid (∀ W, Below wc.heap.size wc W → Calls Try.prog 12 #[.string t] W fun e w' => e = .returned (.int .u32 ((sumOf t : Nat) : Int)) ∧ (convert 32 9 (.slice (some ⟨w1.heap.size, 0, none⟩) s.size cap)).run Try.prog w' = .ok (.string t) w' ∧ Below wc.heap.size wc w') :=
    Lib.hid fun W hW => (sum_any t HTS.out W).mono fun e w' ⟨he, hb⟩ => ⟨he, HK.out _ (hW.trans (hb.mono hW.size)), hW.trans (hb.mono hW.size)⟩
  have hu1 : (((updOf c s : Nat) : Int) != ((updOf c t : Nat) : Int)) = true := by have := HU.out; simp; omega
  have hu2 : (((updOf c s : Nat) : Int) == ((updOf c t : Nat) : Int)) = false := by have := HU.out; simp; omega
  have hm1 : (((sumOf s : Nat) : Int) != ((sumOf t : Nat) : Int)) = true := by have := HM.out; simp; omega
  have hm2 : (((sumOf s : Nat) : Int) == ((sumOf t : Nat) : Int)) = false := by have := HM.out; simp; omega
  have hu3 : (updOf c s != updOf c t) = true := by have := HU.out; simp; omega
  have hu4 : (updOf c s == updOf c t) = false := by have := HU.out; simp; omega
  have hm3 : (sumOf s != sumOf t) = true := by have := HM.out; simp; omega
  have hm4 : (sumOf s == sumOf t) = false := by have := HM.out; simp; omega
  have HK0 := Lib.hid (And.intro (HK.out _ (Below.refl wc.heap.size wc).drew) (Below.refl wc.heap.size wc).drew)
  clear hby hcell hfree hbc HB1 hxx hxe
  go_region_held3 (fun w' => (convert 32 9 (.slice (some ⟨w1.heap.size, 0, none⟩) s.size cap)).run Try.prog w' = .ok (.string t) w' ∧ Below wc.heap.size wc w')
    (first | exact HK0.out | (go_split_ands; refine ⟨?_, ?_⟩ <;> assumption))
    (first
      | (go_at_call 10; go_split_ands; (with_reducible refine (HUs.out _ ?_).mono ?_); assumption; rintro e w2 ⟨rfl, hk2, hb2⟩)
      | (go_at_call 10; go_split_ands; (with_reducible refine (HUt.out _ ?_).mono ?_); assumption; rintro e w2 ⟨rfl, hk2, hb2⟩)
      | (go_at_call 12; go_split_ands; (with_reducible refine (HMs.out _ ?_).mono ?_); assumption; rintro e w2 ⟨rfl, hk2, hb2⟩)
      | (go_at_call 12; go_split_ands; (with_reducible refine (HMt.out _ ?_).mono ?_); assumption; rintro e w2 ⟨rfl, hk2, hb2⟩))
  go_wp2_with fail
  go_ret
  exact ⟨rfl, HB3.out.trans (hb2.mono HB3.out.size)⟩

set_option maxRecDepth 100000 in
theorem lifted (os : Os) (started : os.Started) (H : Type) (enc : TypeId × Value → H) :
    ReturnsInHanded {} Try.checked os 7 .any (Rows.crcOneSpec.pre6 enc Try.prog Try.f7 Rows.crcOneRow.domain false) (Rows.crcOneSpec.post enc Try.prog Try.f7 false true false false) := by
  refine returnsInHanded_of_change_sized (C := Try.checked) own started (by kernel_rfl) Try.func7
    (ChangeSpec.witness6 (enc := enc) (C := Try.checked) false ⟨#[], #[.int .u32 0, .string ⟨#[]⟩, .int .i64 0, .int .u8 0], []⟩ 8 (by kernel_rfl) (by kernel_rfl) (by kernel_rfl) (by kernel_rfl)) ?_
  intro W base args ds gs before hval0 hW _ _ _
  have hval : ∀ (j : Nat) t v, Try.f7.params[j]? = some t → args[j]? = some v → Value.okWide Try.prog W .any base t v := hval0
  obtain ⟨p, q, hA0, _, _, _, _⟩ := id hW
  have hA : DataW.TrodAll enc Try.prog W 0 (fun _ => true) true Try.f7.params.toList args.toList ds p := hA0
  rw [Try.params7] at hA hval
  obtain ⟨v0, vs0, d0, ds0, p0, q0, hargs, rfl, rfl, h0, r0⟩ := trodAll_cons hA
  obtain ⟨v1, vs1, d1, ds1, p1, q1, rfl, rfl, rfl, h1, r1⟩ := trodAll_cons r0
  obtain ⟨v2, vs2, d2, ds2, p2, q2, rfl, rfl, rfl, h2, r2⟩ := trodAll_cons r1
  obtain ⟨v3, vs3, d3, ds3, p3, q3, rfl, rfl, rfl, h3, r3⟩ := trodAll_cons r2
  obtain ⟨rfl, rfl, rfl⟩ := trodAll_nil r3
  obtain rfl : args = #[v0, v1, v2, v3] := by cases args; simp_all
  obtain ⟨a0, rfl, rfl, rfl, w0⟩ := open_int Try.underlying22 (hval 0 22 v0 rfl rfl) h0
  obtain ⟨n0, rfl, b0⟩ := nat_u32 w0
  obtain ⟨a1, rfl, rfl, rfl, w1⟩ := Go.ChangeMaps.open_string Try.underlying9 (hval 1 9 v1 rfl rfl) h1
  obtain ⟨a2, rfl, rfl, rfl, w2⟩ := open_int Try.underlying3 (hval 2 3 v2 rfl rfl) h2
  obtain ⟨a3, rfl, rfl, rfl, w3⟩ := open_int Try.underlying5 (hval 3 5 v3 rfl rfl) h3
  obtain ⟨n3, rfl, b3⟩ := nat_u8 w3
  refine (walk n0 b0 a1 w1 a2 (bounds_i64 w2).1 (bounds_i64 w2).2 n3 b3 W).mono fun e W' ⟨he, hg⟩ => ?_
  subst he
  exact ⟨_, rfl, law_post laidOut Try.underlying4 (by kernel_rfl) (by kernel_rfl) rfl hW (by simp [Rows.crcOneSpec]) hg⟩

theorem proved : Rows.CrcOneSaid :=
  OpenClaim.holds_of_wide 7 Try.f7 rfl rfl rfl rfl rfl rfl rfl ⟨rfl, rfl, rfl, rfl, rfl⟩ rfl rfl rfl rfl rfl (by kernel_rfl) Try.func7 (by kernel_rfl)
    (of_decide_eq_true (by kernel_rfl)) (by unfold Func.isWrapper; first | (rw [if_pos (by decide +kernel)]; kernel_rfl) | (rw [if_neg (by decide +kernel)]; exact ⟨rfl, rfl⟩))
    (fun os started H enc _ => lifted os started H enc)
#print axioms proved
end Go.Proofs.Ytfancmomihdkbaa.crcOne
