/-
  What is missing did not come, and what came is not missing: all between the cumulative number and the last one: any right got.
-/
import Derived.Test.YtfmgfpfaigifaaaLift
import Derived.Test.YtfmgfpfaigifaaaArgs
import Derived.Test.YtfmgfpfaigifaaaGl
import Derived.Test.YtfmgfpfaigifaaaGv
import Derived.Test.YtfmgfpfaigifaaaWaits
namespace Go.Proofs.Ytfmgfpfaigifaaa.gotMisses
open Go.ChangeShapes Go.WideShapes Go.ChangeAt Go.RowKit
set_option linter.unusedVariables false
set_option linter.unusedSimpArgs false

theorem last_small {c : UInt32} {ab du : List UInt32} (hr : RightG ⟨c, ab, du⟩) : key c (lastG ⟨c, ab, du⟩) ≤ 4000 := by
  unfold lastG
  simp only
  by_cases h : ab.length = 0
  · rw [if_pos h, key_self]; omega
  · rw [if_neg h]
    have hm : ab[ab.length - 1]! ∈ ab := by rw [getElem!_pos ab _ (by omega)]; exact List.getElem_mem _
    exact (hr.near _ hm).2
theorem miss_not {c : UInt32} {ab du : List UInt32} (hr : RightG ⟨c, ab, du⟩) {x : UInt32} (hx : x ∈ missG ⟨c, ab, du⟩) : hasB ⟨c, ab, du⟩ x = false := by
  obtain ⟨h1, h2, h3⟩ := missTo_near (last_small hr) x hx
  have h4 : key c x ≤ 4000 := Nat.le_trans h3 (last_small hr)
  unfold hasB
  rw [Bool.or_eq_false_iff]
  refine ⟨decide_eq_false ?_, decide_eq_false h1⟩
  show ¬ (c - x).toNat < 2147483648
  have h2' : 1 ≤ key c x := h2
  unfold key at h4 h2'
  simp only [UInt32.toNat_sub] at *
  have := c.toNat_lt; have := x.toNat_lt
  omega
theorem miss_up {c : UInt32} {ab du : List UInt32} (hr : RightG ⟨c, ab, du⟩) {z : Nat} (h : z + 1 < (missG ⟨c, ab, du⟩).length) : key c (missG ⟨c, ab, du⟩)[z]! < key c (missG ⟨c, ab, du⟩)[z + 1]! := by
  have h1 := missTo_rise (c := c) (ab := ab) (last_small hr)
  rw [getElem!_pos _ z (by omega), getElem!_pos _ (z + 1) h]
  exact List.pairwise_iff_getElem.1 h1 z (z + 1) (by exact Nat.lt_of_succ_lt h) h (by omega)
set_option maxHeartbeats 4000000 in
set_option maxRecDepth 100000 in
theorem walk (c : UInt32) (ab du : List UInt32) (va vd : Value) (w : World) (h1 : RowE enc32 w va ab) (h2 : RowE enc32 w vd du) : Calls Try.prog 7 #[.agg #[.int .u32 (c.toNat : Int), va, vd]] w fun e w' => e = .returned (.bool true) ∧ Below w.heap.size w w' := by
  have HSH := Lib.hid (fun W => shown_any W)
  have hcl := c.toNat_lt
  obtain ⟨A, k, rfl, hk1, hk2, -⟩ := id h1
  obtain ⟨A', k', rfl, hk3, hk4, -⟩ := id h2
  have hma : ab.length ≤ maxLen := by omega
  have hmd : du.length ≤ maxLen := by omega
  have hmI : (ab.length : Int) ≤ 9223372036854775807 := by unfold maxLen at hma; omega
  have HBX := Bx.fresh w 25 #[.int .u32 (c.toNat : Int), .slice A ab.length k, .slice A' du.length k']
  have HB := Lib.hid ((Below.refl w.heap.size w).alloc (Nat.le_refl _) (.cells #[.int .u32 (c.toNat : Int), .slice A ab.length k, .slice A' du.length k'] 25))
  have HK : Hid (AllG [⟨25, w.heap.size, c, ab, du, .slice A ab.length k, .slice A' du.length k'⟩] (w.alloc (.cells #[.int .u32 (c.toNat : Int), .slice A ab.length k, .slice A' du.length k'] 25))) := Lib.hid (fun x hx => by rw [List.mem_singleton.1 hx]; exact ⟨HBX, h1.below HB.out, h2.below HB.out⟩)
  clear h1 h2 HBX hk1 hk2 hk3 hk4
  by_cases hr : RightG ⟨c, ab, du⟩
  · have HRT := Lib.hid (fun va vd W h h' => right_yes c ab du hma hmd va vd W h h' hr)
    by_cases h60 : ab.length ≤ 60
    · have q60 : ¬ (60 : Int) < (ab.length : Int) := by omega
      have hd6 : du.length ≤ 1000000 := by have := hr.dups; dsimp only at this; omega
      have ha6 : ab.length ≤ 1000000 := by omega
      have HMS := Lib.hid (fun va vd W h h' => missing_any c ab du ha6 hd6 va vd W h h' hr)
      have HLS := Lib.hid (fun va vd W h h' => last_any c ab du ha6 hd6 va vd W h h')
      have HHS := Lib.hid (fun va vd W h h' n => has_any c ab du ha6 hd6 va vd W h h' n)
      have HNT := Lib.hid (fun x hx => miss_not (x := x) hr hx)
      have HUP := Lib.hid (fun z h => miss_up (z := z) hr h)
      have hls := last_small hr
      have s3 : (((lastG ⟨c, ab, du⟩).toNat : Int) - (c.toNat : Int)) % 4294967296 = (key c (lastG ⟨c, ab, du⟩) : Int) := sub_toNat32 _ _
      generalize key c (lastG ⟨c, ab, du⟩) = kl at *
      generalize lastG ⟨c, ab, du⟩ = gl at *
      have hgl := gl.toNat_lt
      generalize missG ⟨c, ab, du⟩ = ml at *
      clear hr
      go_enter Try.func7, Try.ntmps7
      go_wp2_with (first
    | (go_at_call 10; (with_reducible refine (HSH.out _).mono ?_); rintro e w1 ⟨rfl, hb⟩; replace HK := Lib.hid (HK.out.later hb); replace HB := Lib.hid (HB.out.trans (hb.mono HB.out.size)); clear hb; have c0 := ((show Bx _ (w.heap.size) 25 #[.int .u32 (c.toNat : Int), .slice A ab.length k, .slice A' du.length k'] from (AllG.nth HK.out 0 rfl).1)).cell 0 (.int .u32 (c.toNat : Int)) rfl; have c1 := ((show Bx _ (w.heap.size) 25 #[.int .u32 (c.toNat : Int), .slice A ab.length k, .slice A' du.length k'] from (AllG.nth HK.out 0 rfl).1)).cell 1 (.slice A ab.length k) rfl; have c2 := ((show Bx _ (w.heap.size) 25 #[.int .u32 (c.toNat : Int), .slice A ab.length k, .slice A' du.length k'] from (AllG.nth HK.out 0 rfl).1)).cell 2 (.slice A' du.length k') rfl)
    | ((with_reducible refine gate9 ?_); refine ldB (ty := 25) rfl rfl rfl (show Bx _ (w.heap.size) 25 #[.int .u32 (c.toNat : Int), .slice A ab.length k, .slice A' du.length k'] from (AllG.nth HK.out 0 rfl).1) Try.underlying25 rfl infoG ?_)
    | (go_at_call 12; (with_reducible refine (as_any c.toNat hcl A A' _ k _ k' _).mono ?_); rintro e w1 ⟨rfl, hb⟩; replace HK := Lib.hid (HK.out.later hb); replace HB := Lib.hid (HB.out.trans (hb.mono HB.out.size)); clear hb)
    | (go_at_call 11; have hr9 := (show RowE enc32 _ (.slice A ab.length k) ab from (AllG.nth HK.out 0 rfl).2.1); have hd9 := (show RowE enc32 _ (.slice A' du.length k') du from (AllG.nth HK.out 0 rfl).2.2); (with_reducible refine (HRT.out _ _ _ hr9 hd9).mono ?_); clear hr9 hd9; rintro e w1 ⟨rfl, hb⟩; replace HK := Lib.hid (HK.out.later hb); replace HB := Lib.hid (HB.out.trans (hb.mono HB.out.size)); clear hb; have c0 := ((show Bx _ (w.heap.size) 25 #[.int .u32 (c.toNat : Int), .slice A ab.length k, .slice A' du.length k'] from (AllG.nth HK.out 0 rfl).1)).cell 0 (.int .u32 (c.toNat : Int)) rfl; have c1 := ((show Bx _ (w.heap.size) 25 #[.int .u32 (c.toNat : Int), .slice A ab.length k, .slice A' du.length k'] from (AllG.nth HK.out 0 rfl).1)).cell 1 (.slice A ab.length k) rfl; have c2 := ((show Bx _ (w.heap.size) 25 #[.int .u32 (c.toNat : Int), .slice A ab.length k, .slice A' du.length k'] from (AllG.nth HK.out 0 rfl).1)).cell 2 (.slice A' du.length k') rfl))
      have hr9 := (show RowE enc32 _ (.slice A ab.length k) ab from (AllG.nth HK.out 0 rfl).2.1)
      have hd9 := (show RowE enc32 _ (.slice A' du.length k') du from (AllG.nth HK.out 0 rfl).2.2)
      refine (HMS.out _ _ _ hr9 hd9).mono ?_
      clear hr9 hd9 c0 c1 c2
      rintro e w5 ⟨A5, k5, rfl, hown, hcnt, hb⟩
      replace HK := Lib.hid (HK.out.later hb)
      replace HB := Lib.hid (HB.out.trans (hb.mono HB.out.size))
      have HRM := Lib.hid (rowE_of_ownG hown)
      have HCN := Lib.hid hcnt
      have hml : (ml.length : Int) ≤ 4000 := by omega
      clear hown hb hcnt HMS
      go_wp2_with fail
      obtain ⟨w8, hw8⟩ : ∃ z, z = w5 := ⟨_, rfl⟩
      subst hw8
      go_loopw [6] (fun v wq => ∃ q : Nat, q ≤ ml.length ∧ v = .int .i64 q ∧ Hid (Below w8.heap.size w8 wq))
        (fun v _ => ml.length - (intOf v).toNat)
      case atStart => exact ⟨0, Nat.zero_le _, rfl, Lib.hid (by first | exact Below.refl _ _)⟩
      case round =>
        obtain ⟨q, hq, rfl, HWQ⟩ := hrel
        by_cases hlq : q < ml.length
        · obtain ⟨A9, k9, hv9, -, hk9, hc9⟩ := id HRM.out
          cases hv9
          obtain ⟨b9, o9, rfl, hb9, -⟩ := hc9 (by omega)
          clear hc9
          have hmS : ml[q]! ∈ ml := by rw [getElem!_pos ml q hlq]; exact List.getElem_mem hlq
          have HHQ := Lib.hid (fun va vd W h h' => HHS.out va vd W h h' ml[q]!)
          rw [HNT.out _ hmS] at HHQ
          have p1 : (q : Int) < (ml.length : Int) := by omega
          have hcf : ∀ (z : Nat), z < ml.length → ∀ V, RowE enc32 V (.slice (some ⟨b9, o9, none⟩) ml.length k5) ml → V.cell? ⟨b9, o9 + z, none⟩ = some (.int .u32 (ml[z]!.toNat : Int)) := fun z hz V hV => by
            obtain ⟨A7, k7, hv7, -, -, hc7⟩ := hV
            obtain ⟨b7, o7, h7, -, hc7⟩ := hc7 (by omega)
            rw [h7] at hv7
            cases hv7
            exact hc7 z hz
          have H1Q := Lib.hid (hcf q hlq)
          have s1 : ((ml[q]!.toNat : Int) - (c.toNat : Int)) % 4294967296 = (key c ml[q]! : Int) := sub_toNat32 _ _
          rcases Nat.eq_zero_or_pos q with rfl | hq0
          · generalize ml[0]!.toNat = ce at *
            clear s1 hcf hmS
            rw [Nat.add_zero] at H1Q
            have HS : (fun V => AllG [⟨25, w.heap.size, c, ab, du, .slice A ab.length k, .slice A' du.length k'⟩] V ∧ RowE enc32 V (.slice (some ⟨b9, o9, none⟩) ml.length k5) ml ∧ Below w8.heap.size w8 V) _ := ⟨(HK.out.later HWQ.out).drew, (HRM.out.below (below_drawn HWQ.out)), below_drawn HWQ.out⟩
            clear HWQ
            go_wp2_with fail
            refine wp_region_noPanic ?_
            refine wp_region_waits (S := (fun V => AllG [⟨25, w.heap.size, c, ab, du, .slice A ab.length k, .slice A' du.length k'⟩] V ∧ RowE enc32 V (.slice (some ⟨b9, o9, none⟩) ml.length k5) ml ∧ Below w8.heap.size w8 V)) [] (by kernel_rfl) HS (fun hHeld => ?_)
            clear HS
            refine wpAnyW_take (i := 0) (v := _) (by simp only [List.getElem?_toArray, List.getElem?_cons_zero]; rfl) (by kernel_rfl) (by kernel_rfl) (by kernel_rfl) (by kernel_rfl) (by kernel_rfl) (fun _ _ _ h => h) (yB (ty := 25) (by rfl) rfl rfl (fun V h => (show Bx V (w.heap.size) 25 #[.int .u32 (c.toNat : Int), .slice A ab.length k, .slice A' du.length k'] from (AllG.nth h.1 0 rfl).1)) Try.underlying25 rfl infoG) (by assumption) ?_
            try simp only [Act.put, List.setIfInBounds_toArray, List.set_cons_zero, List.set_cons_succ]
            refine wpAnyW_take (i := 1) (v := ?_) (by simp only [List.getElem?_toArray, List.getElem?_cons_succ, List.getElem?_cons_zero]; rfl) (by kernel_rfl) (by kernel_rfl) (by kernel_rfl) (by kernel_rfl) (by kernel_rfl) (fun _ _ _ h => h) (Or.inl ⟨by rfl, ?_⟩) (by assumption) ?_
            rotate_left 1
            · (intro w' hSw; go_simp; try with_reducible rfl)
            try simp only [Act.put, List.setIfInBounds_toArray, List.set_cons_zero, List.set_cons_succ]
            refine wpAnyW_take (i := 2) (v := ?_) (by simp only [List.getElem?_toArray, List.getElem?_cons_succ, List.getElem?_cons_zero]; rfl) (by kernel_rfl) (by kernel_rfl) (by kernel_rfl) (by kernel_rfl) (by kernel_rfl) (fun _ _ _ h => h) (Or.inl ⟨by rfl, ?_⟩) (by assumption) ?_
            rotate_left 1
            · (intro w' hSw; go_simp; try with_reducible rfl)
            try simp only [Act.put, List.setIfInBounds_toArray, List.set_cons_zero, List.set_cons_succ]
            refine wpAnyW_take (i := 3) (v := ?_) (by simp only [List.getElem?_toArray, List.getElem?_cons_succ, List.getElem?_cons_zero]; rfl) (by kernel_rfl) (by kernel_rfl) (by kernel_rfl) (by kernel_rfl) (by kernel_rfl) (fun _ _ _ h => h) (Or.inl ⟨by rfl, ?_⟩) (by assumption) ?_
            rotate_left 1
            · (intro w' hSw; go_simp; try with_reducible rfl)
            try simp only [Act.put, List.setIfInBounds_toArray, List.set_cons_zero, List.set_cons_succ]
            refine wpAnyW_take (i := 4) (v := ?_) (by simp only [List.getElem?_toArray, List.getElem?_cons_succ, List.getElem?_cons_zero]; rfl) (by kernel_rfl) (by kernel_rfl) (by kernel_rfl) (by kernel_rfl) (by kernel_rfl) (fun _ _ _ h => h) (Or.inl ⟨by rfl, ?_⟩) (by assumption) ?_
            rotate_left 1
            · (intro w' hSw; have h1q : w'.cell? ⟨b9, o9, none⟩ = some (.int .u32 (ce : Int)) := H1Q.out _ hSw.2.1; go_simp; try with_reducible rfl)
            try simp only [Act.put, List.setIfInBounds_toArray, List.set_cons_zero, List.set_cons_succ]
            refine wpAnyW_held (i := 5) (by kernel_rfl) (by simp only [List.getElem?_toArray, List.getElem?_cons_succ, List.getElem?_cons_zero]; rfl) (fun K hK => ?_)
            rw [if_pos (by rfl)]
            go_simp
            have hr9 := (show RowE enc32 _ (.slice A ab.length k) ab from (AllG.nth hHeld.1 0 rfl).2.1)
            have hd9 := (show RowE enc32 _ (.slice A' du.length k') du from (AllG.nth hHeld.1 0 rfl).2.2)
            refine (HHQ.out _ _ _ hr9 hd9).mono ?_
            clear hr9 hd9
            rintro _ w10 ⟨rfl, hb⟩
            have HS := And.intro (hHeld.1.later hb) (And.intro (hHeld.2.1.below hb) (hHeld.2.2.trans (hb.mono hHeld.2.2.size)))
            clear hHeld hb
            go_wp2_with fail
            refine hK.out _ _ HS (fun hHeld => ?_)
            clear hK K HS
            try simp only [Act.put, List.setIfInBounds_toArray, List.set_cons_zero, List.set_cons_succ]
            refine wpAnyW_take (i := 6) (v := ?_) (by simp only [List.getElem?_toArray, List.getElem?_cons_succ, List.getElem?_cons_zero]; rfl) (by kernel_rfl) (by kernel_rfl) (by kernel_rfl) (by kernel_rfl) (by kernel_rfl) (fun _ _ _ h => h) (Or.inl ⟨by rfl, ?_⟩) (by assumption) ?_
            rotate_left 1
            · (intro w' hSw; go_simp; try with_reducible rfl)
            try simp only [Act.put, List.setIfInBounds_toArray, List.set_cons_zero, List.set_cons_succ]
            refine wpAnyW_take (i := 7) (v := ?_) (by simp only [List.getElem?_toArray, List.getElem?_cons_succ, List.getElem?_cons_zero]; rfl) (by kernel_rfl) (by kernel_rfl) (by kernel_rfl) (by kernel_rfl) (by kernel_rfl) (fun _ _ _ h => h) (Or.inl ⟨by rfl, ?_⟩) (by assumption) ?_
            rotate_left 1
            · (intro w' hSw; go_simp; try with_reducible rfl)
            try simp only [Act.put, List.setIfInBounds_toArray, List.set_cons_zero, List.set_cons_succ]
            refine wpAnyW_take (i := 8) (v := ?_) (by simp only [List.getElem?_toArray, List.getElem?_cons_succ, List.getElem?_cons_zero]; rfl) (by kernel_rfl) (by kernel_rfl) (by kernel_rfl) (by kernel_rfl) (by kernel_rfl) (fun _ _ _ h => h) (Or.inl ⟨by rfl, ?_⟩) (by assumption) ?_
            rotate_left 1
            · (intro w' hSw; go_simp; try with_reducible rfl)
            try simp only [Act.put, List.setIfInBounds_toArray, List.set_cons_zero, List.set_cons_succ]
            refine wpAnyW_take (i := 9) (v := ?_) (by simp only [List.getElem?_toArray, List.getElem?_cons_succ, List.getElem?_cons_zero]; rfl) (by kernel_rfl) (by kernel_rfl) (by kernel_rfl) (by kernel_rfl) (by kernel_rfl) (fun _ _ _ h => h) (Or.inl ⟨by rfl, ?_⟩) (by assumption) ?_
            rotate_left 1
            · (intro w' hSw; go_simp; try with_reducible rfl)
            try simp only [Act.put, List.setIfInBounds_toArray, List.set_cons_zero, List.set_cons_succ]
            refine wpAnyW_take (i := 10) (v := undef) (by simp only [List.getElem?_toArray, List.getElem?_cons_succ, List.getElem?_cons_zero]; rfl) (by kernel_rfl) (by kernel_rfl) (by kernel_rfl) (by kernel_rfl) (by kernel_rfl) (fun _ _ _ h => h) (Or.inr ⟨by rfl, rfl⟩) (by assumption) ?_
            try simp only [Act.put, List.setIfInBounds_toArray, List.set_cons_zero, List.set_cons_succ]
            refine wpAnyW_take (i := 11) (v := undef) (by simp only [List.getElem?_toArray, List.getElem?_cons_succ, List.getElem?_cons_zero]; rfl) (by kernel_rfl) (by kernel_rfl) (by kernel_rfl) (by kernel_rfl) (by kernel_rfl) (fun _ _ _ h => h) (Or.inr ⟨by rfl, rfl⟩) (by assumption) ?_
            try simp only [Act.put, List.setIfInBounds_toArray, List.set_cons_zero, List.set_cons_succ]
            refine wpAnyW_take (i := 12) (v := undef) (by simp only [List.getElem?_toArray, List.getElem?_cons_succ, List.getElem?_cons_zero]; rfl) (by kernel_rfl) (by kernel_rfl) (by kernel_rfl) (by kernel_rfl) (by kernel_rfl) (fun _ _ _ h => h) (Or.inr ⟨by rfl, rfl⟩) (by assumption) ?_
            try simp only [Act.put, List.setIfInBounds_toArray, List.set_cons_zero, List.set_cons_succ]
            refine wpAnyW_take (i := 13) (v := undef) (by simp only [List.getElem?_toArray, List.getElem?_cons_succ, List.getElem?_cons_zero]; rfl) (by kernel_rfl) (by kernel_rfl) (by kernel_rfl) (by kernel_rfl) (by kernel_rfl) (fun _ _ _ h => h) (Or.inr ⟨by rfl, rfl⟩) (by assumption) ?_
            try simp only [Act.put, List.setIfInBounds_toArray, List.set_cons_zero, List.set_cons_succ]
            refine wpAnyW_take (i := 14) (v := undef) (by simp only [List.getElem?_toArray, List.getElem?_cons_succ, List.getElem?_cons_zero]; rfl) (by kernel_rfl) (by kernel_rfl) (by kernel_rfl) (by kernel_rfl) (by kernel_rfl) (fun _ _ _ h => h) (Or.inr ⟨by rfl, rfl⟩) (by assumption) ?_
            try simp only [Act.put, List.setIfInBounds_toArray, List.set_cons_zero, List.set_cons_succ]
            refine wpAnyW_take (i := 15) (v := undef) (by simp only [List.getElem?_toArray, List.getElem?_cons_succ, List.getElem?_cons_zero]; rfl) (by kernel_rfl) (by kernel_rfl) (by kernel_rfl) (by kernel_rfl) (by kernel_rfl) (fun _ _ _ h => h) (Or.inr ⟨by rfl, rfl⟩) (by assumption) ?_
            try simp only [Act.put, List.setIfInBounds_toArray, List.set_cons_zero, List.set_cons_succ]
            refine wpAnyW_take (i := 16) (v := undef) (by simp only [List.getElem?_toArray, List.getElem?_cons_succ, List.getElem?_cons_zero]; rfl) (by kernel_rfl) (by kernel_rfl) (by kernel_rfl) (by kernel_rfl) (by kernel_rfl) (fun _ _ _ h => h) (Or.inr ⟨by rfl, rfl⟩) (by assumption) ?_
            try simp only [Act.put, List.setIfInBounds_toArray, List.set_cons_zero, List.set_cons_succ]
            refine wpAnyW_take (i := 17) (v := undef) (by simp only [List.getElem?_toArray, List.getElem?_cons_succ, List.getElem?_cons_zero]; rfl) (by kernel_rfl) (by kernel_rfl) (by kernel_rfl) (by kernel_rfl) (by kernel_rfl) (fun _ _ _ h => h) (Or.inr ⟨by rfl, rfl⟩) (by assumption) ?_
            try simp only [Act.put, List.setIfInBounds_toArray, List.set_cons_zero, List.set_cons_succ]
            refine wpAnyW_take (i := 18) (v := undef) (by simp only [List.getElem?_toArray, List.getElem?_cons_succ, List.getElem?_cons_zero]; rfl) (by kernel_rfl) (by kernel_rfl) (by kernel_rfl) (by kernel_rfl) (by kernel_rfl) (fun _ _ _ h => h) (Or.inr ⟨by rfl, rfl⟩) (by assumption) ?_
            try simp only [Act.put, List.setIfInBounds_toArray, List.set_cons_zero, List.set_cons_succ]
            refine wpAnyW_take (i := 19) (v := undef) (by simp only [List.getElem?_toArray, List.getElem?_cons_succ, List.getElem?_cons_zero]; rfl) (by kernel_rfl) (by kernel_rfl) (by kernel_rfl) (by kernel_rfl) (by kernel_rfl) (fun _ _ _ h => h) (Or.inr ⟨by rfl, rfl⟩) (by assumption) ?_
            try simp only [Act.put, List.setIfInBounds_toArray, List.set_cons_zero, List.set_cons_succ]
            refine wpAnyW_take (i := 20) (v := undef) (by simp only [List.getElem?_toArray, List.getElem?_cons_succ, List.getElem?_cons_zero]; rfl) (by kernel_rfl) (by kernel_rfl) (by kernel_rfl) (by kernel_rfl) (by kernel_rfl) (fun _ _ _ h => h) (Or.inr ⟨by rfl, rfl⟩) (by assumption) ?_
            try simp only [Act.put, List.setIfInBounds_toArray, List.set_cons_zero, List.set_cons_succ]
            refine wpAnyW_take (i := 21) (v := undef) (by simp only [List.getElem?_toArray, List.getElem?_cons_succ, List.getElem?_cons_zero]; rfl) (by kernel_rfl) (by kernel_rfl) (by kernel_rfl) (by kernel_rfl) (by kernel_rfl) (fun _ _ _ h => h) (Or.inr ⟨by rfl, rfl⟩) (by assumption) ?_
            try simp only [Act.put, List.setIfInBounds_toArray, List.set_cons_zero, List.set_cons_succ]
            refine wpAnyW_take (i := 22) (v := undef) (by simp only [List.getElem?_toArray, List.getElem?_cons_succ, List.getElem?_cons_zero]; rfl) (by kernel_rfl) (by kernel_rfl) (by kernel_rfl) (by kernel_rfl) (by kernel_rfl) (fun _ _ _ h => h) (Or.inr ⟨by rfl, rfl⟩) (by assumption) ?_
            try simp only [Act.put, List.setIfInBounds_toArray, List.set_cons_zero, List.set_cons_succ]
            refine wpAnyW_take (i := 23) (v := undef) (by simp only [List.getElem?_toArray, List.getElem?_cons_succ, List.getElem?_cons_zero]; rfl) (by kernel_rfl) (by kernel_rfl) (by kernel_rfl) (by kernel_rfl) (by kernel_rfl) (fun _ _ _ h => h) (Or.inr ⟨by rfl, rfl⟩) (by assumption) ?_
            try simp only [Act.put, List.setIfInBounds_toArray, List.set_cons_zero, List.set_cons_succ]
            refine wpAnyW_take (i := 24) (v := undef) (by simp only [List.getElem?_toArray, List.getElem?_cons_succ, List.getElem?_cons_zero]; rfl) (by kernel_rfl) (by kernel_rfl) (by kernel_rfl) (by kernel_rfl) (by kernel_rfl) (fun _ _ _ h => h) (Or.inr ⟨by rfl, rfl⟩) (by assumption) ?_
            try simp only [Act.put, List.setIfInBounds_toArray, List.set_cons_zero, List.set_cons_succ]
            refine wpAnyW_take (i := 25) (v := undef) (by simp only [List.getElem?_toArray, List.getElem?_cons_succ, List.getElem?_cons_zero]; rfl) (by kernel_rfl) (by kernel_rfl) (by kernel_rfl) (by kernel_rfl) (by kernel_rfl) (fun _ _ _ h => h) (Or.inr ⟨by rfl, rfl⟩) (by assumption) ?_
            try simp only [Act.put, List.setIfInBounds_toArray, List.set_cons_zero, List.set_cons_succ]
            refine wpAnyW_take (i := 26) (v := ?_) (by simp only [List.getElem?_toArray, List.getElem?_cons_succ, List.getElem?_cons_zero]; rfl) (by kernel_rfl) (by kernel_rfl) (by kernel_rfl) (by kernel_rfl) (by kernel_rfl) (fun _ _ _ h => h) (Or.inl ⟨by rfl, ?_⟩) (by assumption) ?_
            rotate_left 1
            · (intro w' hSw; go_simp; try with_reducible rfl)
            try simp only [Act.put, List.setIfInBounds_toArray, List.set_cons_zero, List.set_cons_succ]
            refine wpAnyW_take (i := 27) (v := ?_) (by simp only [List.getElem?_toArray, List.getElem?_cons_succ, List.getElem?_cons_zero]; rfl) (by kernel_rfl) (by kernel_rfl) (by kernel_rfl) (by kernel_rfl) (by kernel_rfl) (fun _ _ _ h => h) (Or.inl ⟨by rfl, ?_⟩) (by assumption) ?_
            rotate_left 1
            · (intro w' hSw; go_simp; try with_reducible rfl)
            try simp only [Act.put, List.setIfInBounds_toArray, List.set_cons_zero, List.set_cons_succ]
            have hWQ := Lib.hid hHeld.2.2
            clear hHeld
            refine wpAnyW_done (by kernel_rfl) ?_ _
            refine NoPanic.normal ?_
            go_wp2_with fail
            go_roundw
            case rel => first | exact ⟨0 + 1, by omega, by first | rfl | go_num, Lib.hid hWQ.out⟩ | ((repeat apply Exists.intro); exact ⟨⟨0 + 1, by omega, by first | rfl | go_num, Lib.hid hWQ.out⟩, rfl⟩)
            case measure => simp [intOf]; omega
          · obtain ⟨z, rfl⟩ : ∃ z, q = z + 1 := ⟨q - 1, by omega⟩
            have H2Q := Lib.hid (hcf z (by omega))
            have s1' : IntKind.u32.wrap ((ml[z + 1]!.toNat : Int) - (c.toNat : Int)) = (key c ml[z + 1]! : Int) := by rw [← s1]; rfl
            have s2' : IntKind.u32.wrap ((ml[z]!.toNat : Int) - (c.toNat : Int)) = (key c ml[z]! : Int) := by
              have h9 : ((ml[z]!.toNat : Int) - (c.toNat : Int)) % 4294967296 = (key c ml[z]! : Int) := sub_toNat32 _ _
              rw [← h9]; rfl
            have s5' : IntKind.i64.wrap (z : Int) = (z : Int) := by rw [IntKind.wrap_i64]; omega
            clear s1
            have hup := HUP.out z hlq
            have g9 : ¬ (key c ml[z + 1]! : Int) ≤ (key c ml[z]! : Int) := by omega
            clear hcf hmS hup
            generalize key c ml[z + 1]! = kq at *
            generalize key c ml[z]! = kz at *
            generalize ml[z + 1]!.toNat = ce at *
            generalize ml[z]!.toNat = cd at *
            have p0 : (0 : Int) ≤ (z : Int) := by omega
            have p4 : (0 : Int) ≤ (z : Int) + 1 := by omega
            have p5 : (0 : Int) < (z : Int) + 1 := by omega
            have p2 : (z : Int) + 1 < (ml.length : Int) := by omega
            have p3 : (z : Int) < (ml.length : Int) := by omega
            have HS : (fun V => AllG [⟨25, w.heap.size, c, ab, du, .slice A ab.length k, .slice A' du.length k'⟩] V ∧ RowE enc32 V (.slice (some ⟨b9, o9, none⟩) ml.length k5) ml ∧ Below w8.heap.size w8 V) _ := ⟨(HK.out.later HWQ.out).drew, (HRM.out.below (below_drawn HWQ.out)), below_drawn HWQ.out⟩
            clear HWQ
            go_wp2_with fail
            refine wp_region_noPanic ?_
            refine wp_region_waits (S := (fun V => AllG [⟨25, w.heap.size, c, ab, du, .slice A ab.length k, .slice A' du.length k'⟩] V ∧ RowE enc32 V (.slice (some ⟨b9, o9, none⟩) ml.length k5) ml ∧ Below w8.heap.size w8 V)) [] (by kernel_rfl) HS (fun hHeld => ?_)
            clear HS
            refine wpAnyW_take (i := 0) (v := _) (by simp only [List.getElem?_toArray, List.getElem?_cons_zero]; rfl) (by kernel_rfl) (by kernel_rfl) (by kernel_rfl) (by kernel_rfl) (by kernel_rfl) (fun _ _ _ h => h) (yB (ty := 25) (by rfl) rfl rfl (fun V h => (show Bx V (w.heap.size) 25 #[.int .u32 (c.toNat : Int), .slice A ab.length k, .slice A' du.length k'] from (AllG.nth h.1 0 rfl).1)) Try.underlying25 rfl infoG) (by assumption) ?_
            try simp only [Act.put, List.setIfInBounds_toArray, List.set_cons_zero, List.set_cons_succ]
            refine wpAnyW_take (i := 1) (v := ?_) (by simp only [List.getElem?_toArray, List.getElem?_cons_succ, List.getElem?_cons_zero]; rfl) (by kernel_rfl) (by kernel_rfl) (by kernel_rfl) (by kernel_rfl) (by kernel_rfl) (fun _ _ _ h => h) (Or.inl ⟨by rfl, ?_⟩) (by assumption) ?_
            rotate_left 1
            · (intro w' hSw; go_simp; try with_reducible rfl)
            try simp only [Act.put, List.setIfInBounds_toArray, List.set_cons_zero, List.set_cons_succ]
            refine wpAnyW_take (i := 2) (v := ?_) (by simp only [List.getElem?_toArray, List.getElem?_cons_succ, List.getElem?_cons_zero]; rfl) (by kernel_rfl) (by kernel_rfl) (by kernel_rfl) (by kernel_rfl) (by kernel_rfl) (fun _ _ _ h => h) (Or.inl ⟨by rfl, ?_⟩) (by assumption) ?_
            rotate_left 1
            · (intro w' hSw; go_simp; try with_reducible rfl)
            try simp only [Act.put, List.setIfInBounds_toArray, List.set_cons_zero, List.set_cons_succ]
            refine wpAnyW_take (i := 3) (v := ?_) (by simp only [List.getElem?_toArray, List.getElem?_cons_succ, List.getElem?_cons_zero]; rfl) (by kernel_rfl) (by kernel_rfl) (by kernel_rfl) (by kernel_rfl) (by kernel_rfl) (fun _ _ _ h => h) (Or.inl ⟨by rfl, ?_⟩) (by assumption) ?_
            rotate_left 1
            · (intro w' hSw; go_simp; try with_reducible rfl)
            try simp only [Act.put, List.setIfInBounds_toArray, List.set_cons_zero, List.set_cons_succ]
            refine wpAnyW_take (i := 4) (v := ?_) (by simp only [List.getElem?_toArray, List.getElem?_cons_succ, List.getElem?_cons_zero]; rfl) (by kernel_rfl) (by kernel_rfl) (by kernel_rfl) (by kernel_rfl) (by kernel_rfl) (fun _ _ _ h => h) (Or.inl ⟨by rfl, ?_⟩) (by assumption) ?_
            rotate_left 1
            · (intro w' hSw; have h1q : w'.cell? ⟨b9, o9 + (z + 1), none⟩ = some (.int .u32 (ce : Int)) := H1Q.out _ hSw.2.1; go_simp; try with_reducible rfl)
            try simp only [Act.put, List.setIfInBounds_toArray, List.set_cons_zero, List.set_cons_succ]
            refine wpAnyW_held (i := 5) (by kernel_rfl) (by simp only [List.getElem?_toArray, List.getElem?_cons_succ, List.getElem?_cons_zero]; rfl) (fun K hK => ?_)
            rw [if_pos (by rfl)]
            go_simp
            have hr9 := (show RowE enc32 _ (.slice A ab.length k) ab from (AllG.nth hHeld.1 0 rfl).2.1)
            have hd9 := (show RowE enc32 _ (.slice A' du.length k') du from (AllG.nth hHeld.1 0 rfl).2.2)
            refine (HHQ.out _ _ _ hr9 hd9).mono ?_
            clear hr9 hd9
            rintro _ w10 ⟨rfl, hb⟩
            have HS := And.intro (hHeld.1.later hb) (And.intro (hHeld.2.1.below hb) (hHeld.2.2.trans (hb.mono hHeld.2.2.size)))
            clear hHeld hb
            go_wp2_with fail
            refine hK.out _ _ HS (fun hHeld => ?_)
            clear hK K HS
            try simp only [Act.put, List.setIfInBounds_toArray, List.set_cons_zero, List.set_cons_succ]
            refine wpAnyW_take (i := 6) (v := ?_) (by simp only [List.getElem?_toArray, List.getElem?_cons_succ, List.getElem?_cons_zero]; rfl) (by kernel_rfl) (by kernel_rfl) (by kernel_rfl) (by kernel_rfl) (by kernel_rfl) (fun _ _ _ h => h) (Or.inl ⟨by rfl, ?_⟩) (by assumption) ?_
            rotate_left 1
            · (intro w' hSw; go_simp; try with_reducible rfl)
            try simp only [Act.put, List.setIfInBounds_toArray, List.set_cons_zero, List.set_cons_succ]
            refine wpAnyW_take (i := 7) (v := ?_) (by simp only [List.getElem?_toArray, List.getElem?_cons_succ, List.getElem?_cons_zero]; rfl) (by kernel_rfl) (by kernel_rfl) (by kernel_rfl) (by kernel_rfl) (by kernel_rfl) (fun _ _ _ h => h) (Or.inl ⟨by rfl, ?_⟩) (by assumption) ?_
            rotate_left 1
            · (intro w' hSw; go_simp; try with_reducible rfl)
            try simp only [Act.put, List.setIfInBounds_toArray, List.set_cons_zero, List.set_cons_succ]
            refine wpAnyW_take (i := 8) (v := ?_) (by simp only [List.getElem?_toArray, List.getElem?_cons_succ, List.getElem?_cons_zero]; rfl) (by kernel_rfl) (by kernel_rfl) (by kernel_rfl) (by kernel_rfl) (by kernel_rfl) (fun _ _ _ h => h) (Or.inl ⟨by rfl, ?_⟩) (by assumption) ?_
            rotate_left 1
            · (intro w' hSw; go_simp; try with_reducible rfl)
            try simp only [Act.put, List.setIfInBounds_toArray, List.set_cons_zero, List.set_cons_succ]
            refine wpAnyW_take (i := 9) (v := ?_) (by simp only [List.getElem?_toArray, List.getElem?_cons_succ, List.getElem?_cons_zero]; rfl) (by kernel_rfl) (by kernel_rfl) (by kernel_rfl) (by kernel_rfl) (by kernel_rfl) (fun _ _ _ h => h) (Or.inl ⟨by rfl, ?_⟩) (by assumption) ?_
            rotate_left 1
            · (intro w' hSw; go_simp; try with_reducible rfl)
            try simp only [Act.put, List.setIfInBounds_toArray, List.set_cons_zero, List.set_cons_succ]
            refine wpAnyW_take (i := 10) (v := ?_) (by simp only [List.getElem?_toArray, List.getElem?_cons_succ, List.getElem?_cons_zero]; rfl) (by kernel_rfl) (by kernel_rfl) (by kernel_rfl) (by kernel_rfl) (by kernel_rfl) (fun _ _ _ h => h) (Or.inl ⟨by rfl, ?_⟩) (by assumption) ?_
            rotate_left 1
            · (intro w' hSw; go_simp; try with_reducible rfl)
            try simp only [Act.put, List.setIfInBounds_toArray, List.set_cons_zero, List.set_cons_succ]
            refine wpAnyW_take (i := 11) (v := ?_) (by simp only [List.getElem?_toArray, List.getElem?_cons_succ, List.getElem?_cons_zero]; rfl) (by kernel_rfl) (by kernel_rfl) (by kernel_rfl) (by kernel_rfl) (by kernel_rfl) (fun _ _ _ h => h) (Or.inl ⟨by rfl, ?_⟩) (by assumption) ?_
            rotate_left 1
            · (intro w' hSw; go_simp; try with_reducible rfl)
            try simp only [Act.put, List.setIfInBounds_toArray, List.set_cons_zero, List.set_cons_succ]
            refine wpAnyW_take (i := 12) (v := ?_) (by simp only [List.getElem?_toArray, List.getElem?_cons_succ, List.getElem?_cons_zero]; rfl) (by kernel_rfl) (by kernel_rfl) (by kernel_rfl) (by kernel_rfl) (by kernel_rfl) (fun _ _ _ h => h) (Or.inl ⟨by rfl, ?_⟩) (by assumption) ?_
            rotate_left 1
            · (intro w' hSw; go_simp; try with_reducible rfl)
            try simp only [Act.put, List.setIfInBounds_toArray, List.set_cons_zero, List.set_cons_succ]
            refine wpAnyW_take (i := 13) (v := ?_) (by simp only [List.getElem?_toArray, List.getElem?_cons_succ, List.getElem?_cons_zero]; rfl) (by kernel_rfl) (by kernel_rfl) (by kernel_rfl) (by kernel_rfl) (by kernel_rfl) (fun _ _ _ h => h) (Or.inl ⟨by rfl, ?_⟩) (by assumption) ?_
            rotate_left 1
            · (intro w' hSw; have h1q : w'.cell? ⟨b9, o9 + (z + 1), none⟩ = some (.int .u32 (ce : Int)) := H1Q.out _ hSw.2.1; go_simp; try with_reducible rfl)
            try simp only [Act.put, List.setIfInBounds_toArray, List.set_cons_zero, List.set_cons_succ]
            refine wpAnyW_take (i := 14) (v := ?_) (by simp only [List.getElem?_toArray, List.getElem?_cons_succ, List.getElem?_cons_zero]; rfl) (by kernel_rfl) (by kernel_rfl) (by kernel_rfl) (by kernel_rfl) (by kernel_rfl) (fun _ _ _ h => h) (Or.inl ⟨by rfl, ?_⟩) (by assumption) ?_
            rotate_left 1
            · (intro w' hSw; go_simp; try with_reducible rfl)
            try simp only [Act.put, List.setIfInBounds_toArray, List.set_cons_zero, List.set_cons_succ]
            refine wpAnyW_take (i := 15) (v := ?_) (by simp only [List.getElem?_toArray, List.getElem?_cons_succ, List.getElem?_cons_zero]; rfl) (by kernel_rfl) (by kernel_rfl) (by kernel_rfl) (by kernel_rfl) (by kernel_rfl) (fun _ _ _ h => h) (Or.inl ⟨by rfl, ?_⟩) (by assumption) ?_
            rotate_left 1
            · (intro w' hSw; have hq : w'.cell? ⟨w.heap.size, 0, none⟩ = some (.int .u32 (c.toNat : Int)) := (show Bx w' (w.heap.size) 25 #[.int .u32 (c.toNat : Int), .slice A ab.length k, .slice A' du.length k'] from (AllG.nth hSw.1 0 rfl).1).cell 0 (.int .u32 (c.toNat : Int)) rfl; go_simp; try with_reducible rfl)
            try simp only [Act.put, List.setIfInBounds_toArray, List.set_cons_zero, List.set_cons_succ]
            refine wpAnyW_take (i := 16) (v := ?_) (by simp only [List.getElem?_toArray, List.getElem?_cons_succ, List.getElem?_cons_zero]; rfl) (by kernel_rfl) (by kernel_rfl) (by kernel_rfl) (by kernel_rfl) (by kernel_rfl) (fun _ _ _ h => h) (Or.inl ⟨by rfl, ?_⟩) (by assumption) ?_
            rotate_left 1
            · (intro w' hSw; go_simp; try with_reducible rfl)
            try simp only [Act.put, List.setIfInBounds_toArray, List.set_cons_zero, List.set_cons_succ]
            refine wpAnyW_take (i := 17) (v := ?_) (by simp only [List.getElem?_toArray, List.getElem?_cons_succ, List.getElem?_cons_zero]; rfl) (by kernel_rfl) (by kernel_rfl) (by kernel_rfl) (by kernel_rfl) (by kernel_rfl) (fun _ _ _ h => h) (Or.inl ⟨by rfl, ?_⟩) (by assumption) ?_
            rotate_left 1
            · (intro w' hSw; go_simp; try with_reducible rfl)
            try simp only [Act.put, List.setIfInBounds_toArray, List.set_cons_zero, List.set_cons_succ]
            refine wpAnyW_take (i := 18) (v := ?_) (by simp only [List.getElem?_toArray, List.getElem?_cons_succ, List.getElem?_cons_zero]; rfl) (by kernel_rfl) (by kernel_rfl) (by kernel_rfl) (by kernel_rfl) (by kernel_rfl) (fun _ _ _ h => h) (Or.inl ⟨by rfl, ?_⟩) (by assumption) ?_
            rotate_left 1
            · (intro w' hSw; go_simp; try with_reducible rfl)
            try simp only [Act.put, List.setIfInBounds_toArray, List.set_cons_zero, List.set_cons_succ]
            refine wpAnyW_take (i := 19) (v := ?_) (by simp only [List.getElem?_toArray, List.getElem?_cons_succ, List.getElem?_cons_zero]; rfl) (by kernel_rfl) (by kernel_rfl) (by kernel_rfl) (by kernel_rfl) (by kernel_rfl) (fun _ _ _ h => h) (Or.inl ⟨by rfl, ?_⟩) (by assumption) ?_
            rotate_left 1
            · (intro w' hSw; go_simp; try with_reducible rfl)
            try simp only [Act.put, List.setIfInBounds_toArray, List.set_cons_zero, List.set_cons_succ]
            refine wpAnyW_take (i := 20) (v := ?_) (by simp only [List.getElem?_toArray, List.getElem?_cons_succ, List.getElem?_cons_zero]; rfl) (by kernel_rfl) (by kernel_rfl) (by kernel_rfl) (by kernel_rfl) (by kernel_rfl) (fun _ _ _ h => h) (Or.inl ⟨by rfl, ?_⟩) (by assumption) ?_
            rotate_left 1
            · (intro w' hSw; go_simp; try with_reducible rfl)
            try simp only [Act.put, List.setIfInBounds_toArray, List.set_cons_zero, List.set_cons_succ]
            refine wpAnyW_take (i := 21) (v := ?_) (by simp only [List.getElem?_toArray, List.getElem?_cons_succ, List.getElem?_cons_zero]; rfl) (by kernel_rfl) (by kernel_rfl) (by kernel_rfl) (by kernel_rfl) (by kernel_rfl) (fun _ _ _ h => h) (Or.inl ⟨by rfl, ?_⟩) (by assumption) ?_
            rotate_left 1
            · (intro w' hSw; have h2q : w'.cell? ⟨b9, o9 + z, none⟩ = some (.int .u32 (cd : Int)) := H2Q.out _ hSw.2.1; go_simp; try with_reducible rfl)
            try simp only [Act.put, List.setIfInBounds_toArray, List.set_cons_zero, List.set_cons_succ]
            refine wpAnyW_take (i := 22) (v := ?_) (by simp only [List.getElem?_toArray, List.getElem?_cons_succ, List.getElem?_cons_zero]; rfl) (by kernel_rfl) (by kernel_rfl) (by kernel_rfl) (by kernel_rfl) (by kernel_rfl) (fun _ _ _ h => h) (Or.inl ⟨by rfl, ?_⟩) (by assumption) ?_
            rotate_left 1
            · (intro w' hSw; go_simp; try with_reducible rfl)
            try simp only [Act.put, List.setIfInBounds_toArray, List.set_cons_zero, List.set_cons_succ]
            refine wpAnyW_take (i := 23) (v := ?_) (by simp only [List.getElem?_toArray, List.getElem?_cons_succ, List.getElem?_cons_zero]; rfl) (by kernel_rfl) (by kernel_rfl) (by kernel_rfl) (by kernel_rfl) (by kernel_rfl) (fun _ _ _ h => h) (Or.inl ⟨by rfl, ?_⟩) (by assumption) ?_
            rotate_left 1
            · (intro w' hSw; have hq : w'.cell? ⟨w.heap.size, 0, none⟩ = some (.int .u32 (c.toNat : Int)) := (show Bx w' (w.heap.size) 25 #[.int .u32 (c.toNat : Int), .slice A ab.length k, .slice A' du.length k'] from (AllG.nth hSw.1 0 rfl).1).cell 0 (.int .u32 (c.toNat : Int)) rfl; go_simp; try with_reducible rfl)
            try simp only [Act.put, List.setIfInBounds_toArray, List.set_cons_zero, List.set_cons_succ]
            refine wpAnyW_take (i := 24) (v := ?_) (by simp only [List.getElem?_toArray, List.getElem?_cons_succ, List.getElem?_cons_zero]; rfl) (by kernel_rfl) (by kernel_rfl) (by kernel_rfl) (by kernel_rfl) (by kernel_rfl) (fun _ _ _ h => h) (Or.inl ⟨by rfl, ?_⟩) (by assumption) ?_
            rotate_left 1
            · (intro w' hSw; go_simp; try with_reducible rfl)
            try simp only [Act.put, List.setIfInBounds_toArray, List.set_cons_zero, List.set_cons_succ]
            refine wpAnyW_take (i := 25) (v := ?_) (by simp only [List.getElem?_toArray, List.getElem?_cons_succ, List.getElem?_cons_zero]; rfl) (by kernel_rfl) (by kernel_rfl) (by kernel_rfl) (by kernel_rfl) (by kernel_rfl) (fun _ _ _ h => h) (Or.inl ⟨by rfl, ?_⟩) (by assumption) ?_
            rotate_left 1
            · (intro w' hSw; go_simp; try with_reducible rfl)
            try simp only [Act.put, List.setIfInBounds_toArray, List.set_cons_zero, List.set_cons_succ]
            refine wpAnyW_take (i := 26) (v := ?_) (by simp only [List.getElem?_toArray, List.getElem?_cons_succ, List.getElem?_cons_zero]; rfl) (by kernel_rfl) (by kernel_rfl) (by kernel_rfl) (by kernel_rfl) (by kernel_rfl) (fun _ _ _ h => h) (Or.inl ⟨by rfl, ?_⟩) (by assumption) ?_
            rotate_left 1
            · (intro w' hSw; go_simp; try with_reducible rfl)
            try simp only [Act.put, List.setIfInBounds_toArray, List.set_cons_zero, List.set_cons_succ]
            refine wpAnyW_take (i := 27) (v := ?_) (by simp only [List.getElem?_toArray, List.getElem?_cons_succ, List.getElem?_cons_zero]; rfl) (by kernel_rfl) (by kernel_rfl) (by kernel_rfl) (by kernel_rfl) (by kernel_rfl) (fun _ _ _ h => h) (Or.inl ⟨by rfl, ?_⟩) (by assumption) ?_
            rotate_left 1
            · (intro w' hSw; go_simp; try with_reducible rfl)
            try simp only [Act.put, List.setIfInBounds_toArray, List.set_cons_zero, List.set_cons_succ]
            have hWQ := Lib.hid hHeld.2.2
            clear hHeld
            refine wpAnyW_done (by kernel_rfl) ?_ _
            refine NoPanic.normal ?_
            go_wp2_with fail
            go_roundw
            case rel => first | exact ⟨z + 1 + 1, by omega, by first | rfl | go_num, Lib.hid hWQ.out⟩ | ((repeat apply Exists.intro); exact ⟨⟨z + 1 + 1, by omega, by first | rfl | go_num, Lib.hid hWQ.out⟩, rfl⟩)
            case measure => simp [intOf]; omega
        · obtain rfl : q = ml.length := by omega
          have e9 : ((kl : Int) == (ml.length : Int) + (ab.length : Int)) = true := by have := HCN.out; rw [beq_iff_eq]; omega
          have hkl : (kl : Int) ≤ 4000 := by omega
          have s3' : IntKind.u32.wrap ((gl.toNat : Int) - (c.toNat : Int)) = (kl : Int) := by rw [← s3]; rfl
          have s4' : IntKind.i64.wrap (kl : Int) = (kl : Int) := by rw [IntKind.wrap_i64]; omega
          have s6' : IntKind.i64.wrap ((ml.length : Int) + (ab.length : Int)) = (ml.length : Int) + (ab.length : Int) := by rw [IntKind.wrap_i64]; omega
          clear s3
          have ha9 : (ab.length : Int) ≤ 60 := by omega
          have HL9 := Lib.hid (fun V (h : AllG [⟨25, w.heap.size, c, ab, du, .slice A ab.length k, .slice A' du.length k'⟩] V) => HLS.out _ _ V (show RowE enc32 V (.slice A ab.length k) ab from (AllG.nth h 0 rfl).2.1) (show RowE enc32 V (.slice A' du.length k') du from (AllG.nth h 0 rfl).2.2))
          have HS : (fun V => AllG [⟨25, w.heap.size, c, ab, du, .slice A ab.length k, .slice A' du.length k'⟩] V) _ := (HK.out.later HWQ.out)
          replace HB := Lib.hid (HB.out.trans (HWQ.out.mono HB.out.size))
          clear HWQ HK HCN HNT HUP HHS HLS hls
          generalize gl.toNat = y9 at *
          go_wp2_with fail
          refine wp_region_noPanic ?_
          refine wp_region_waits (S := (fun V => AllG [⟨25, w.heap.size, c, ab, du, .slice A ab.length k, .slice A' du.length k'⟩] V)) [13] (by kernel_rfl) (AllG.drew HS) (fun hHeld => ?_)
          clear HS
          replace HB := Lib.hid (below_drawn HB.out)
          refine wpAnyW_take (i := 0) (v := _) (by simp only [List.getElem?_toArray, List.getElem?_cons_zero]; rfl) (by kernel_rfl) (by kernel_rfl) (by kernel_rfl) (by kernel_rfl) (by kernel_rfl) (fun _ _ _ h => h) (yB (ty := 25) (by rfl) rfl rfl (fun V h => (show Bx V (w.heap.size) 25 #[.int .u32 (c.toNat : Int), .slice A ab.length k, .slice A' du.length k'] from (AllG.nth h 0 rfl).1)) Try.underlying25 rfl infoG) (by assumption) ?_
          try simp only [Act.put, List.setIfInBounds_toArray, List.set_cons_zero, List.set_cons_succ]
          refine wpAnyW_take (i := 2) (v := ?_) (by simp only [List.getElem?_toArray, List.getElem?_cons_succ, List.getElem?_cons_zero]; rfl) (by kernel_rfl) (by kernel_rfl) (by kernel_rfl) (by kernel_rfl) (by kernel_rfl) (fun _ _ _ h => h) (Or.inl ⟨by rfl, ?_⟩) (by assumption) ?_
          rotate_left 1
          · (intro w' hSw; go_simp; try with_reducible rfl)
          try simp only [Act.put, List.setIfInBounds_toArray, List.set_cons_zero, List.set_cons_succ]
          refine wpAnyW_take (i := 3) (v := ?_) (by simp only [List.getElem?_toArray, List.getElem?_cons_succ, List.getElem?_cons_zero]; rfl) (by kernel_rfl) (by kernel_rfl) (by kernel_rfl) (by kernel_rfl) (by kernel_rfl) (fun _ _ _ h => h) (Or.inl ⟨by rfl, ?_⟩) (by assumption) ?_
          rotate_left 1
          · (intro w' hSw; have hq : w'.cell? ⟨w.heap.size, 0, none⟩ = some (.int .u32 (c.toNat : Int)) := (show Bx w' (w.heap.size) 25 #[.int .u32 (c.toNat : Int), .slice A ab.length k, .slice A' du.length k'] from (AllG.nth hSw 0 rfl).1).cell 0 (.int .u32 (c.toNat : Int)) rfl; go_simp; try with_reducible rfl)
          try simp only [Act.put, List.setIfInBounds_toArray, List.set_cons_zero, List.set_cons_succ]
          refine wpAnyW_take (i := 6) (v := ?_) (by simp only [List.getElem?_toArray, List.getElem?_cons_succ, List.getElem?_cons_zero]; rfl) (by kernel_rfl) (by kernel_rfl) (by kernel_rfl) (by kernel_rfl) (by kernel_rfl) (fun _ _ _ h => h) (Or.inl ⟨by rfl, ?_⟩) (by assumption) ?_
          rotate_left 1
          · (intro w' hSw; go_simp; try with_reducible rfl)
          try simp only [Act.put, List.setIfInBounds_toArray, List.set_cons_zero, List.set_cons_succ]
          refine wpAnyW_take (i := 7) (v := ?_) (by simp only [List.getElem?_toArray, List.getElem?_cons_succ, List.getElem?_cons_zero]; rfl) (by kernel_rfl) (by kernel_rfl) (by kernel_rfl) (by kernel_rfl) (by kernel_rfl) (fun _ _ _ h => h) (Or.inl ⟨by rfl, ?_⟩) (by assumption) ?_
          rotate_left 1
          · (intro w' hSw; go_simp; try with_reducible rfl)
          try simp only [Act.put, List.setIfInBounds_toArray, List.set_cons_zero, List.set_cons_succ]
          refine wpAnyW_take (i := 8) (v := ?_) (by simp only [List.getElem?_toArray, List.getElem?_cons_succ, List.getElem?_cons_zero]; rfl) (by kernel_rfl) (by kernel_rfl) (by kernel_rfl) (by kernel_rfl) (by kernel_rfl) (fun _ _ _ h => h) (Or.inl ⟨by rfl, ?_⟩) (by assumption) ?_
          rotate_left 1
          · (intro w' hSw; go_simp; try with_reducible rfl)
          try simp only [Act.put, List.setIfInBounds_toArray, List.set_cons_zero, List.set_cons_succ]
          refine wpAnyW_take (i := 9) (v := ?_) (by simp only [List.getElem?_toArray, List.getElem?_cons_succ, List.getElem?_cons_zero]; rfl) (by kernel_rfl) (by kernel_rfl) (by kernel_rfl) (by kernel_rfl) (by kernel_rfl) (fun _ _ _ h => h) (Or.inl ⟨by rfl, ?_⟩) (by assumption) ?_
          rotate_left 1
          · (intro w' hSw; have hq : w'.cell? ⟨w.heap.size, 1, none⟩ = some (.slice A ab.length k) := (show Bx w' (w.heap.size) 25 #[.int .u32 (c.toNat : Int), .slice A ab.length k, .slice A' du.length k'] from (AllG.nth hSw 0 rfl).1).cell 1 (.slice A ab.length k) rfl; go_simp; try with_reducible rfl)
          try simp only [Act.put, List.setIfInBounds_toArray, List.set_cons_zero, List.set_cons_succ]
          refine wpAnyW_take (i := 10) (v := ?_) (by simp only [List.getElem?_toArray, List.getElem?_cons_succ, List.getElem?_cons_zero]; rfl) (by kernel_rfl) (by kernel_rfl) (by kernel_rfl) (by kernel_rfl) (by kernel_rfl) (fun _ _ _ h => h) (Or.inl ⟨by rfl, ?_⟩) (by assumption) ?_
          rotate_left 1
          · (intro w' hSw; go_simp; try with_reducible rfl)
          try simp only [Act.put, List.setIfInBounds_toArray, List.set_cons_zero, List.set_cons_succ]
          refine wpAnyW_take (i := 11) (v := ?_) (by simp only [List.getElem?_toArray, List.getElem?_cons_succ, List.getElem?_cons_zero]; rfl) (by kernel_rfl) (by kernel_rfl) (by kernel_rfl) (by kernel_rfl) (by kernel_rfl) (fun _ _ _ h => h) (Or.inl ⟨by rfl, ?_⟩) (by assumption) ?_
          rotate_left 1
          · (intro w' hSw; go_simp; try with_reducible rfl)
          try simp only [Act.put, List.setIfInBounds_toArray, List.set_cons_zero, List.set_cons_succ]
          refine wpAnyW_held (i := 1) (by kernel_rfl) (by simp only [List.getElem?_toArray, List.getElem?_cons_succ, List.getElem?_cons_zero]; rfl) (fun K hK => ?_)
          rw [if_pos (by rfl)]
          go_simp
          refine (HL9.out _ hHeld).mono ?_
          rintro _ w10 ⟨rfl, hb⟩
          have HS := hHeld.later hb
          replace HB := Lib.hid (HB.out.trans (hb.mono HB.out.size))
          clear hHeld hb
          go_wp2_with fail
          refine hK.out _ _ HS (fun hHeld => ?_)
          clear hK K HS
          try simp only [Act.put, List.setIfInBounds_toArray, List.set_cons_zero, List.set_cons_succ]
          refine wpAnyW_take (i := 4) (v := ?_) (by simp only [List.getElem?_toArray, List.getElem?_cons_succ, List.getElem?_cons_zero]; rfl) (by kernel_rfl) (by kernel_rfl) (by kernel_rfl) (by kernel_rfl) (by kernel_rfl) (fun _ _ _ h => h) (Or.inl ⟨by rfl, ?_⟩) (by assumption) ?_
          rotate_left 1
          · (intro w' hSw; go_simp; try with_reducible rfl)
          try simp only [Act.put, List.setIfInBounds_toArray, List.set_cons_zero, List.set_cons_succ]
          refine wpAnyW_take (i := 5) (v := ?_) (by simp only [List.getElem?_toArray, List.getElem?_cons_succ, List.getElem?_cons_zero]; rfl) (by kernel_rfl) (by kernel_rfl) (by kernel_rfl) (by kernel_rfl) (by kernel_rfl) (fun _ _ _ h => h) (Or.inl ⟨by rfl, ?_⟩) (by assumption) ?_
          rotate_left 1
          · (intro w' hSw; go_simp; try with_reducible rfl)
          try simp only [Act.put, List.setIfInBounds_toArray, List.set_cons_zero, List.set_cons_succ]
          refine wpAnyW_take (i := 12) (v := ?_) (by simp only [List.getElem?_toArray, List.getElem?_cons_succ, List.getElem?_cons_zero]; rfl) (by kernel_rfl) (by kernel_rfl) (by kernel_rfl) (by kernel_rfl) (by kernel_rfl) (fun _ _ _ h => h) (Or.inl ⟨by rfl, ?_⟩) (by assumption) ?_
          rotate_left 1
          · (intro w' hSw; go_simp; try with_reducible rfl)
          try simp only [Act.put, List.setIfInBounds_toArray, List.set_cons_zero, List.set_cons_succ]
          refine wpAnyW_freed (i := 13) (by kernel_rfl) (by kernel_rfl) (by simp only [List.getElem?_toArray, List.getElem?_cons_succ, List.getElem?_cons_zero]; rfl) (fun K hK => ?_)
          rw [if_pos (by rfl)]
          go_simp
          refine hK.out _ _ ?_
          clear hK K
          try simp only [Act.put, List.setIfInBounds_toArray, List.set_cons_zero, List.set_cons_succ]
          refine wpAnyW_done (by kernel_rfl) ?_ _
          refine NoPanic.normal ?_
          go_wp2_with fail
          go_ret
          exact ⟨rfl, HB.out⟩
    · have q60 : (60 : Int) < (ab.length : Int) := by omega
      go_enter Try.func7, Try.ntmps7
      go_wp2_with (first
    | (go_at_call 10; (with_reducible refine (HSH.out _).mono ?_); rintro e w1 ⟨rfl, hb⟩; replace HK := Lib.hid (HK.out.later hb); replace HB := Lib.hid (HB.out.trans (hb.mono HB.out.size)); clear hb; have c0 := ((show Bx _ (w.heap.size) 25 #[.int .u32 (c.toNat : Int), .slice A ab.length k, .slice A' du.length k'] from (AllG.nth HK.out 0 rfl).1)).cell 0 (.int .u32 (c.toNat : Int)) rfl; have c1 := ((show Bx _ (w.heap.size) 25 #[.int .u32 (c.toNat : Int), .slice A ab.length k, .slice A' du.length k'] from (AllG.nth HK.out 0 rfl).1)).cell 1 (.slice A ab.length k) rfl; have c2 := ((show Bx _ (w.heap.size) 25 #[.int .u32 (c.toNat : Int), .slice A ab.length k, .slice A' du.length k'] from (AllG.nth HK.out 0 rfl).1)).cell 2 (.slice A' du.length k') rfl)
    | ((with_reducible refine gate9 ?_); refine ldB (ty := 25) rfl rfl rfl (show Bx _ (w.heap.size) 25 #[.int .u32 (c.toNat : Int), .slice A ab.length k, .slice A' du.length k'] from (AllG.nth HK.out 0 rfl).1) Try.underlying25 rfl infoG ?_)
    | (go_at_call 12; (with_reducible refine (as_any c.toNat hcl A A' _ k _ k' _).mono ?_); rintro e w1 ⟨rfl, hb⟩; replace HK := Lib.hid (HK.out.later hb); replace HB := Lib.hid (HB.out.trans (hb.mono HB.out.size)); clear hb)
    | (go_at_call 11; have hr9 := (show RowE enc32 _ (.slice A ab.length k) ab from (AllG.nth HK.out 0 rfl).2.1); have hd9 := (show RowE enc32 _ (.slice A' du.length k') du from (AllG.nth HK.out 0 rfl).2.2); (with_reducible refine (HRT.out _ _ _ hr9 hd9).mono ?_); clear hr9 hd9; rintro e w1 ⟨rfl, hb⟩; replace HK := Lib.hid (HK.out.later hb); replace HB := Lib.hid (HB.out.trans (hb.mono HB.out.size)); clear hb; have c0 := ((show Bx _ (w.heap.size) 25 #[.int .u32 (c.toNat : Int), .slice A ab.length k, .slice A' du.length k'] from (AllG.nth HK.out 0 rfl).1)).cell 0 (.int .u32 (c.toNat : Int)) rfl; have c1 := ((show Bx _ (w.heap.size) 25 #[.int .u32 (c.toNat : Int), .slice A ab.length k, .slice A' du.length k'] from (AllG.nth HK.out 0 rfl).1)).cell 1 (.slice A ab.length k) rfl; have c2 := ((show Bx _ (w.heap.size) 25 #[.int .u32 (c.toNat : Int), .slice A ab.length k, .slice A' du.length k'] from (AllG.nth HK.out 0 rfl).1)).cell 2 (.slice A' du.length k') rfl))
      go_ret
      exact ⟨rfl, HB.out⟩
  · have HRT := Lib.hid (fun va vd W h h' => right_no c ab du hma hmd va vd W h h' hr)
    clear hr
    go_enter Try.func7, Try.ntmps7
    go_wp2_with (first
    | (go_at_call 10; (with_reducible refine (HSH.out _).mono ?_); rintro e w1 ⟨rfl, hb⟩; replace HK := Lib.hid (HK.out.later hb); replace HB := Lib.hid (HB.out.trans (hb.mono HB.out.size)); clear hb; skip)
    | ((with_reducible refine gate9 ?_); refine ldB (ty := 25) rfl rfl rfl (show Bx _ (w.heap.size) 25 #[.int .u32 (c.toNat : Int), .slice A ab.length k, .slice A' du.length k'] from (AllG.nth HK.out 0 rfl).1) Try.underlying25 rfl infoG ?_)
    | (go_at_call 12; (with_reducible refine (as_any c.toNat hcl A A' _ k _ k' _).mono ?_); rintro e w1 ⟨rfl, hb⟩; replace HK := Lib.hid (HK.out.later hb); replace HB := Lib.hid (HB.out.trans (hb.mono HB.out.size)); clear hb)
    | (go_at_call 11; have hr9 := (show RowE enc32 _ (.slice A ab.length k) ab from (AllG.nth HK.out 0 rfl).2.1); have hd9 := (show RowE enc32 _ (.slice A' du.length k') du from (AllG.nth HK.out 0 rfl).2.2); (with_reducible refine (HRT.out _ _ _ hr9 hd9).mono ?_); clear hr9 hd9; rintro e w1 ⟨rfl, hb⟩; replace HK := Lib.hid (HK.out.later hb); replace HB := Lib.hid (HB.out.trans (hb.mono HB.out.size)); clear hb; have c0 := ((show Bx _ (w.heap.size) 25 #[.int .u32 (c.toNat : Int), .slice A ab.length k, .slice A' du.length k'] from (AllG.nth HK.out 0 rfl).1)).cell 0 (.int .u32 (c.toNat : Int)) rfl; have c1 := ((show Bx _ (w.heap.size) 25 #[.int .u32 (c.toNat : Int), .slice A ab.length k, .slice A' du.length k'] from (AllG.nth HK.out 0 rfl).1)).cell 1 (.slice A ab.length k) rfl; have c2 := ((show Bx _ (w.heap.size) 25 #[.int .u32 (c.toNat : Int), .slice A ab.length k, .slice A' du.length k'] from (AllG.nth HK.out 0 rfl).1)).cell 2 (.slice A' du.length k') rfl))
    go_ret
    exact ⟨rfl, HB.out⟩

set_option maxRecDepth 100000 in
theorem lifted (os : Os) (started : os.Started) (H : Type) (enc : TypeId × Value → H) :
    ReturnsInHanded {} Try.checked os 7 .any (Rows.gotMissesSpec.pre6 enc Try.prog Try.f7 Rows.gotMissesRow.domain false) (Rows.gotMissesSpec.post enc Try.prog Try.f7 false true false false) := by
  refine returnsInHanded_of_change_sized (C := Try.checked) own started (by kernel_rfl) Try.func7
    (ChangeSpec.witness6 (enc := enc) (C := Try.checked) false ⟨#[], #[.agg #[.int .u32 0, .slice none 0 0, .slice none 0 0]], []⟩ 8 (by kernel_rfl) (by kernel_rfl) (by kernel_rfl) (by kernel_rfl)) ?_
  intro W base args ds gs before hval0 hW _ hreach _
  have hval : ∀ (j : Nat) t v, Try.f7.params[j]? = some t → args[j]? = some v → Value.okWide Try.prog W .any base t v := hval0
  obtain ⟨p, q, hA0, _, _, _, _⟩ := id hW
  have hA : DataW.TrodAll enc Try.prog W 0 (fun _ => true) true Try.f7.params.toList args.toList ds p := hA0
  rw [Try.params7] at hA hval
  obtain ⟨v0, vs0, d0, ds0, p0, q0, hargs, rfl, rfl, h0, r0⟩ := trodAll_cons hA
  obtain ⟨rfl, rfl, rfl⟩ := trodAll_nil r0
  obtain rfl : args = #[v0] := by cases args; simp_all
  obtain ⟨c0, ab0, du0, va0, vd0, rfl, ra0, rd0⟩ := got_in (hval 0 25 v0 rfl rfl) h0
  refine (walk c0 ab0 du0 va0 vd0 W ra0 rd0).mono fun e W' ⟨he, hg⟩ => ?_
  subst he
  exact ⟨_, rfl, law_post laidOut Try.underlying4 (by kernel_rfl) (by kernel_rfl) rfl hW (by simp [Rows.gotMissesSpec]) hg⟩

theorem proved : Rows.GotMissesSaid :=
  OpenClaim.holds_of_wide 7 Try.f7 rfl rfl rfl rfl rfl rfl rfl ⟨rfl, rfl, rfl, rfl, rfl⟩ rfl rfl rfl rfl rfl (by kernel_rfl) Try.func7 (by kernel_rfl)
    (of_decide_eq_true (by kernel_rfl)) (by unfold Func.isWrapper; first | (rw [if_pos (by decide +kernel)]; kernel_rfl) | (rw [if_neg (by decide +kernel)]; exact ⟨rfl, rfl⟩))
    (fun os started H enc _ => lifted os started H enc)
#print axioms proved
end Go.Proofs.Ytfmgfpfaigifaaa.gotMisses
