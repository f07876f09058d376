/-
  A sum goes on: of two texts one behind the other it is that of the second, on from the first; the sum of three texts of one length, xored, is their sums, xored: any number, any three texts (of at most 2000 bytes each; longer ones are not asked of).
-/
import Derived.Test.YtfancmomihdkbaaLift
import Derived.Test.YtfancmomihdkbaaShown
import Derived.Test.YtfancmomihdkbaaText
import Derived.Test.YtfancmomihdkbaaWords
import Derived.RegionCalls
import Derived.Deep.RegionHeld3
namespace Go.Proofs.Ytfancmomihdkbaa.crcJoins
open Go.ChangeShapes Go.WideShapes Go.ChangeAt Go.RowKit
set_option linter.unusedVariables false

theorem own_below_w {w W : World} {base size n : Nat} {e : TypeId} {v : Value} {xs : List Value} (h : w.ownsRow base e size v n xs) (hW : Below w.heap.size w W) : W.ownsRow base e size v n xs := by
  refine ⟨h.1, ?_⟩
  rcases h.2 with h0 | ⟨g, cap, cur, hv, hg, hh, h1, h2, h3⟩
  · exact .inl h0
  · exact .inr ⟨g, cap, cur, hv, hg, (hW.block g (Array.getElem?_eq_some_iff.1 hh).1).trans hh, h1, h2, h3⟩

set_option maxHeartbeats 1000000 in
set_option maxRecDepth 100000 in
theorem walk (c : Nat) (hc : c < 4294967296) (s : ByteArray) (hs : s.size ≤ maxLen) (t : ByteArray) (ht : t.size ≤ maxLen) (u : ByteArray) (hu : u.size ≤ maxLen) (w : World) :
    Calls Try.prog 5 #[.int .u32 (c : Int), .string s, .string t, .string u] w fun e w' => e = .returned (.bool true) ∧ Below w.heap.size w w' := by
  have HB := Lib.hid (Below.refl w.heap.size w)
  have HS := Lib.hid hs
  have HT := Lib.hid ht
  have HU := Lib.hid hu
  by_cases hbig : 2000 < s.size ∨ 2000 < t.size ∨ 2000 < u.size
  · rcases (by omega : 2000 < s.size ∨ (s.size ≤ 2000 ∧ 2000 < t.size) ∨ (s.size ≤ 2000 ∧ t.size ≤ 2000 ∧ 2000 < u.size)) with h | ⟨h, h'⟩ | ⟨h, h', h''⟩
    all_goals
      clear hbig
      go_enter Try.func5, Try.ntmps5
      go_wp2_with (go_at_call 9; ((with_reducible refine (shown_any _).mono ?_); rintro e w1 ⟨rfl, hb1⟩); replace HB := Lib.hid (HB.out.trans (hb1.mono HB.out.size)); clear hb1)
      go_ret
      exact ⟨rfl, HB.out⟩
  have hl1 : s.size ≤ 2000 := by omega
  have hl2 : t.size ≤ 2000 := by omega
  have hl3 : u.size ≤ 2000 := by omega
  clear hbig
  obtain ⟨m, hm⟩ : ∃ m : Nat, m = min t.size u.size := ⟨_, rfl⟩
  obtain ⟨n, hn⟩ : ∃ n : Nat, n = min s.size m := ⟨_, rfl⟩
  have hm1 : (if u.size < t.size then ((u.size : Nat) : Int) else ((t.size : Nat) : Int)) = (m : Int) := by split <;> omega
  have hm2 : (if m < s.size then ((m : Nat) : Int) else ((s.size : Nat) : Int)) = (n : Int) := by split <;> omega
  have hn1 : n ≤ s.size := by omega
  have hn2 : n ≤ t.size := by omega
  have hn3 : n ≤ u.size := by omega
  clear hm hn
  obtain ⟨i0, hi0, hz0, hz1, hz2⟩ := info_parts info8
  go_enter Try.func5, Try.ntmps5
  go_wp2_with (go_at_call 9; ((with_reducible refine (shown_any _).mono ?_); rintro e w1 ⟨rfl, hb1⟩); replace HB := Lib.hid (HB.out.trans (hb1.mono HB.out.size)); clear hb1)
  clear hm1 hm2
  have HI := Lib.hid hi0
  have HZ0 := Lib.hid hz0
  have HZ1 := Lib.hid hz1
  have HZ2 := Lib.hid hz2
  clear hi0 hz0 hz1 hz2
  go_loopw [11, 12] (fun v i wr => ∃ k : Nat, k ≤ n ∧ i = .int .i64 k ∧ Hid (wr.ownsRow w1.heap.size 5 1 v k ((xor3 (s.data.toList.take k) (t.data.toList.take k) (u.data.toList.take k)).map enc8) ∧ Below w1.heap.size w1 wr))
    (fun _ i _ => n - (intOf i).toNat)
  case atStart => exact ⟨0, Nat.zero_le _, rfl, Lib.hid ⟨World.ownsRow_nil _ _ _ _, Below.refl _ _⟩⟩
  case round =>
    obtain ⟨k, hk, rfl, HR⟩ := hrel
    by_cases hlt : k < n
    · have hks : k < s.size := by omega
      have hkt : k < t.size := by omega
      have hku : k < u.size := by omega
      have e1 := take_snoc s k hks
      have e2 := take_snoc t k hkt
      have e3 := take_snoc u k hku
      have HE := Lib.hid (show xor3 (s.data.toList.take (k + 1)) (t.data.toList.take (k + 1)) (u.data.toList.take (k + 1)) = _ from by
        rw [e1, e2, e3, xor3_snoc _ _ _ _ _ _ (by simp; omega) (by simp; omega)])
      have q0 : (0 : Int) ≤ (k : Int) := by omega
      have q1 : (k : Int) < (s.size : Int) := by omega
      have q2 : (k : Int) < (t.size : Int) := by omega
      have q3 : (k : Int) < (u.size : Int) := by omega
      clear e1 e2 e3
      have hx1 := u8_xor_nat s[k].toNat t[k].toNat s[k].toNat_lt t[k].toNat_lt
      rw [← UInt8.toNat_xor] at hx1
      have hx2 := u8_xor_nat (s[k] ^^^ t[k]).toNat u[k].toNat (s[k] ^^^ t[k]).toNat_lt u[k].toNat_lt
      rw [← UInt8.toNat_xor] at hx2
      generalize s[k] ^^^ t[k] ^^^ u[k] = y at *
      generalize s[k] ^^^ t[k] = y1 at *
      obtain ⟨wo, hwo⟩ : ∃ wo : World, wo = wr := ⟨_, rfl⟩
      rw [← hwo] at HR ⊢
      clear hwo
      go_wp2_with fail
      go_region_held3 (fun w' => Below w1.heap.size w1 w')
        (first | exact HR.out.2.drew | exact (HR.out.2.alloc HR.out.2.size _).drew | exact HR.out.2.drew.alloc HR.out.2.size _ | assumption)
        ((go_split_ands
          refine step_append_src _ (by rfl) (.tmp 45) (.tmp 57) _ (by rfl) w1 5 i0 _ 1 1 Try.underlying32 HI.out HZ0.out HZ1.out HZ2.out rfl (by omega) _ k _ (by rfl) ((HR.out.1.alloc _).drew) _ 1 [enc8 y] (by rfl) (Src.one ?_) ?_ ?_ ?_ ?_ ?_
          · exact (World.cell?_drew _ _).trans (cell_new_at _ _ _ rfl)
          · intro z hz; simp at hz; subst hz; rfl
          · simp only [maxLen]; omega
          · omega
          · assumption
          intro v58 w58 hown58 hg58 hb58))
      all_goals
        have HR2 := Lib.hid (And.intro hown58 hb58)
        clear hown58 hg58 hb58
        go_wp2_with fail
        go_roundw
        case rel =>
          refine ⟨k + 1, by omega, by go_num, Lib.hid ⟨?_, HR2.out.2⟩⟩
          have h := HR2.out.1
          rw [HE.out]
          simpa using h
        case measure => simp [intOf]; omega
    · obtain rfl : k = n := by omega
      have HTX := Lib.hid (text_own HR.out.1)
      have hres : crc 0 (xor3 (s.data.toList.take k) (t.data.toList.take k) (u.data.toList.take k)) = sumOf (s.extract 0 k) ^^^ sumOf (t.extract 0 k) ^^^ sumOf (u.extract 0 k) := by
        have h1 : (s.data.toList.take k).length = k := by rw [List.length_take, ← size_list]; omega
        have h2 : (t.data.toList.take k).length = k := by rw [List.length_take, ← size_list]; omega
        have h3 : (u.data.toList.take k).length = k := by rw [List.length_take, ← size_list]; omega
        rw [crc_xor3 _ _ _ (by rw [h1, h2]) (by rw [h2, h3])]
        unfold sumOf
        rw [extract_list, extract_list, extract_list, List.drop_zero, List.drop_zero, List.drop_zero, Nat.sub_zero]
      have hxl := xor3_length (s := s.data.toList.take k) (t := t.data.toList.take k) (u := u.data.toList.take k) (by simp; omega) (by simp; omega)
      obtain ⟨x, hx⟩ : ∃ x : ByteArray, x = ⟨(xor3 (s.data.toList.take k) (t.data.toList.take k) (u.data.toList.take k)).toArray⟩ := ⟨_, rfl⟩
      have hsx : sumOf x = sumOf (s.extract 0 k) ^^^ sumOf (t.extract 0 k) ^^^ sumOf (u.extract 0 k) := by rw [← hres, hx]; rfl
      have hxs : x.size ≤ maxLen := by
        rw [size_list, hx]
        show (xor3 _ _ _).length ≤ _
        rw [hxl, List.length_take, maxLen]
        omega
      have hK : ∀ W, Below wr.heap.size wr W → (convert 32 9 u11).run Try.prog W = .ok (.string x) W := fun W hW => by
        have h := text_own (own_below_w HR.out.1 hW)
        rw [← hx] at h
        exact h
      have HK := Lib.hid hK
      have hj : updOf (updOf c s) t = updOf c (s ++ t) := by
        unfold updOf
        rw [crc_append, ByteArray.data_append, Array.toList_append]
      have he : updOf c ⟨#[]⟩ = c := crc_nil c hc
      have hst : (s ++ t).size ≤ maxLen := by rw [ByteArray.size_append, maxLen]; omega
      have hes : (s.extract 0 k).size ≤ maxLen := by rw [ByteArray.size_extract, maxLen]; omega
      have het : (t.extract 0 k).size ≤ maxLen := by rw [ByteArray.size_extract, maxLen]; omega
      have heu : (u.extract 0 k).size ≤ maxLen := by rw [ByteArray.size_extract, maxLen]; omega
      have c2 := fun W => update_any (updOf c s) (updOf_lt c s) t HT.out W
      rw [hj] at c2
      have c4 := fun W => update_any c hc ⟨#[]⟩ (by decide) W
      rw [he] at c4
      have hx1 := u32_xor_nat (sumOf (s.extract 0 k)) (sumOf (t.extract 0 k)) (sumOf_lt _) (sumOf_lt _)
      have hx2 := u32_xor_nat (sumOf (s.extract 0 k) ^^^ sumOf (t.extract 0 k)) (sumOf (u.extract 0 k)) (xor_lt (sumOf_lt _) (sumOf_lt _)) (sumOf_lt _)
      rw [← hsx] at hx2
      generalize sumOf (s.extract 0 k) ^^^ sumOf (t.extract 0 k) = m12 at *
      have A1 : Hid (∀ W, Below wr.heap.size wr W → Calls Try.prog 10 #[.int .u32 (c : Int), .string s] W fun e w' => e = .returned (.int .u32 ((updOf c s : Nat) : Int)) ∧ (convert 32 9 u11).run Try.prog w' = .ok (.string x) w' ∧ Below wr.heap.size wr w') :=
        Lib.hid fun W hW => (update_any c hc s HS.out W).mono fun e w' ⟨he, hb⟩ => ⟨he, HK.out _ (hW.trans (hb.mono hW.size)), hW.trans (hb.mono hW.size)⟩
      have A2 : Hid (∀ W, Below wr.heap.size wr W → Calls Try.prog 10 #[.int .u32 ((updOf c s : Nat) : Int), .string t] W fun e w' => e = .returned (.int .u32 ((updOf c (s ++ t) : Nat) : Int)) ∧ (convert 32 9 u11).run Try.prog w' = .ok (.string x) w' ∧ Below wr.heap.size wr w') :=
        Lib.hid fun W hW => (c2 W).mono fun e w' ⟨he, hb⟩ => ⟨he, HK.out _ (hW.trans (hb.mono hW.size)), hW.trans (hb.mono hW.size)⟩
      have A3 : Hid (∀ W, Below wr.heap.size wr W → Calls Try.prog 10 #[.int .u32 (c : Int), .string (s ++ t)] W fun e w' => e = .returned (.int .u32 ((updOf c (s ++ t) : Nat) : Int)) ∧ (convert 32 9 u11).run Try.prog w' = .ok (.string x) w' ∧ Below wr.heap.size wr w') :=
        Lib.hid fun W hW => (update_any c hc _ hst W).mono fun e w' ⟨he, hb⟩ => ⟨he, HK.out _ (hW.trans (hb.mono hW.size)), hW.trans (hb.mono hW.size)⟩
      have A4 : Hid (∀ W, Below wr.heap.size wr W → Calls Try.prog 10 #[.int .u32 (c : Int), .string ⟨#[]⟩] W fun e w' => e = .returned (.int .u32 (c : Int)) ∧ (convert 32 9 u11).run Try.prog w' = .ok (.string x) w' ∧ Below wr.heap.size wr w') :=
        Lib.hid fun W hW => (c4 W).mono fun e w' ⟨he, hb⟩ => ⟨he, HK.out _ (hW.trans (hb.mono hW.size)), hW.trans (hb.mono hW.size)⟩
      have B1 : Hid (∀ W, Below wr.heap.size wr W → Calls Try.prog 12 #[.string x] W fun e w' => e = .returned (.int .u32 ((sumOf x : Nat) : Int)) ∧ (convert 32 9 u11).run Try.prog w' = .ok (.string x) w' ∧ Below wr.heap.size wr w') :=
        Lib.hid fun W hW => (sum_any x hxs W).mono fun e w' ⟨he, hb⟩ => ⟨he, HK.out _ (hW.trans (hb.mono hW.size)), hW.trans (hb.mono hW.size)⟩
      have B2 : Hid (∀ W, Below wr.heap.size wr W → Calls Try.prog 12 #[.string (s.extract 0 k)] W fun e w' => e = .returned (.int .u32 ((sumOf (s.extract 0 k) : Nat) : Int)) ∧ (convert 32 9 u11).run Try.prog w' = .ok (.string x) w' ∧ Below wr.heap.size wr w') :=
        Lib.hid fun W hW => (sum_any _ hes W).mono fun e w' ⟨he, hb⟩ => ⟨he, HK.out _ (hW.trans (hb.mono hW.size)), hW.trans (hb.mono hW.size)⟩
      have B3 : Hid (∀ W, Below wr.heap.size wr W → Calls Try.prog 12 #[.string (t.extract 0 k)] W fun e w' => e = .returned (.int .u32 ((sumOf (t.extract 0 k) : Nat) : Int)) ∧ (convert 32 9 u11).run Try.prog w' = .ok (.string x) w' ∧ Below wr.heap.size wr w') :=
        Lib.hid fun W hW => (sum_any _ het W).mono fun e w' ⟨he, hb⟩ => ⟨he, HK.out _ (hW.trans (hb.mono hW.size)), hW.trans (hb.mono hW.size)⟩
      have B4 : Hid (∀ W, Below wr.heap.size wr W → Calls Try.prog 12 #[.string (u.extract 0 k)] W fun e w' => e = .returned (.int .u32 ((sumOf (u.extract 0 k) : Nat) : Int)) ∧ (convert 32 9 u11).run Try.prog w' = .ok (.string x) w' ∧ Below wr.heap.size wr w') :=
        Lib.hid fun W hW => (sum_any _ heu W).mono fun e w' ⟨he, hb⟩ => ⟨he, HK.out _ (hW.trans (hb.mono hW.size)), hW.trans (hb.mono hW.size)⟩
      have HK0 := Lib.hid (And.intro (HK.out _ (Below.refl wr.heap.size wr).drew) (Below.refl wr.heap.size wr).drew)
      have HBZ := Lib.hid (HB.out.trans (HR.out.2.mono HB.out.size))
      have q0 : (0 : Int) ≤ (k : Int) := by omega
      have q1 : (k : Int) ≤ (s.size : Int) := by omega
      have q2 : (k : Int) ≤ (t.size : Int) := by omega
      have q3 : (k : Int) ≤ (u.size : Int) := by omega
      have q4 : ¬ 9223372036854775807 < s.size + t.size := by omega
      clear HTX hres hxl hx hsx hxs hj he hst hes het heu c2 c4 hK HI HZ0 HZ1 HZ2 HR
      go_wp2_with fail
      go_region_held3 (fun w' => (convert 32 9 u11).run Try.prog w' = .ok (.string x) w' ∧ Below wr.heap.size wr w')
        (first | exact HK0.out | (go_split_ands; refine ⟨?_, ?_⟩ <;> assumption))
        (first
          | (go_at_call 10; go_split_ands; (with_reducible refine (A1.out _ ?_).mono ?_); assumption; rintro e w2 ⟨rfl, hk2, hb2⟩)
          | (go_at_call 10; go_split_ands; (with_reducible refine (A2.out _ ?_).mono ?_); assumption; rintro e w2 ⟨rfl, hk2, hb2⟩)
          | (go_at_call 10; go_split_ands; (with_reducible refine (A3.out _ ?_).mono ?_); assumption; rintro e w2 ⟨rfl, hk2, hb2⟩)
          | (go_at_call 10; go_split_ands; (with_reducible refine (A4.out _ ?_).mono ?_); assumption; rintro e w2 ⟨rfl, hk2, hb2⟩)
          | (go_at_call 12; go_split_ands; (with_reducible refine (B1.out _ ?_).mono ?_); assumption; rintro e w2 ⟨rfl, hk2, hb2⟩)
          | (go_at_call 12; go_split_ands; (with_reducible refine (B2.out _ ?_).mono ?_); assumption; rintro e w2 ⟨rfl, hk2, hb2⟩)
          | (go_at_call 12; go_split_ands; (with_reducible refine (B3.out _ ?_).mono ?_); assumption; rintro e w2 ⟨rfl, hk2, hb2⟩)
          | (go_at_call 12; go_split_ands; (with_reducible refine (B4.out _ ?_).mono ?_); assumption; rintro e w2 ⟨rfl, hk2, hb2⟩))
      go_wp2_with fail
      go_ret
      exact ⟨rfl, HBZ.out.trans (hb2.mono HBZ.out.size)⟩

set_option maxRecDepth 100000 in
theorem lifted (os : Os) (started : os.Started) (H : Type) (enc : TypeId × Value → H) :
    ReturnsInHanded {} Try.checked os 5 .any (Rows.crcJoinsSpec.pre6 enc Try.prog Try.f5 Rows.crcJoinsRow.domain false) (Rows.crcJoinsSpec.post enc Try.prog Try.f5 false true false false) := by
  refine returnsInHanded_of_change_sized (C := Try.checked) own started (by kernel_rfl) Try.func5
    (ChangeSpec.witness6 (enc := enc) (C := Try.checked) false ⟨#[], #[.int .u32 0, .string ⟨#[]⟩, .string ⟨#[]⟩, .string ⟨#[]⟩], []⟩ 8 (by kernel_rfl) (by kernel_rfl) (by kernel_rfl) (by kernel_rfl)) ?_
  intro W base args ds gs before hval0 hW _ _ _
  have hval : ∀ (j : Nat) t v, Try.f5.params[j]? = some t → args[j]? = some v → Value.okWide Try.prog W .any base t v := hval0
  obtain ⟨p, q, hA0, _, _, _, _⟩ := id hW
  have hA : DataW.TrodAll enc Try.prog W 0 (fun _ => true) true Try.f5.params.toList args.toList ds p := hA0
  rw [Try.params5] at hA hval
  obtain ⟨v0, vs0, d0, ds0, p0, q0, hargs, rfl, rfl, h0, r0⟩ := trodAll_cons hA
  obtain ⟨v1, vs1, d1, ds1, p1, q1, rfl, rfl, rfl, h1, r1⟩ := trodAll_cons r0
  obtain ⟨v2, vs2, d2, ds2, p2, q2, rfl, rfl, rfl, h2, r2⟩ := trodAll_cons r1
  obtain ⟨v3, vs3, d3, ds3, p3, q3, rfl, rfl, rfl, h3, r3⟩ := trodAll_cons r2
  obtain ⟨rfl, rfl, rfl⟩ := trodAll_nil r3
  obtain rfl : args = #[v0, v1, v2, v3] := by cases args; simp_all
  obtain ⟨a0, rfl, rfl, rfl, w0⟩ := open_int Try.underlying22 (hval 0 22 v0 rfl rfl) h0
  obtain ⟨n0, rfl, b0⟩ := nat_u32 w0
  obtain ⟨a1, rfl, rfl, rfl, w1⟩ := Go.ChangeMaps.open_string Try.underlying9 (hval 1 9 v1 rfl rfl) h1
  obtain ⟨a2, rfl, rfl, rfl, w2⟩ := Go.ChangeMaps.open_string Try.underlying9 (hval 2 9 v2 rfl rfl) h2
  obtain ⟨a3, rfl, rfl, rfl, w3⟩ := Go.ChangeMaps.open_string Try.underlying9 (hval 3 9 v3 rfl rfl) h3
  refine (walk n0 b0 a1 w1 a2 w2 a3 w3 W).mono fun e W' ⟨he, hg⟩ => ?_
  subst he
  exact ⟨_, rfl, law_post laidOut Try.underlying4 (by kernel_rfl) (by kernel_rfl) rfl hW (by simp [Rows.crcJoinsSpec]) hg⟩

theorem proved : Rows.CrcJoinsSaid :=
  OpenClaim.holds_of_wide 5 Try.f5 rfl rfl rfl rfl rfl rfl rfl ⟨rfl, rfl, rfl, rfl, rfl⟩ rfl rfl rfl rfl rfl (by kernel_rfl) Try.func5 (by kernel_rfl)
    (of_decide_eq_true (by kernel_rfl)) (by unfold Func.isWrapper; first | (rw [if_pos (by decide +kernel)]; kernel_rfl) | (rw [if_neg (by decide +kernel)]; exact ⟨rfl, rfl⟩))
    (fun os started H enc _ => lifted os started H enc)
#print axioms proved
end Go.Proofs.Ytfancmomihdkbaa.crcJoins
