/-
  What came is no more fresh; what comes twice is told, up to a hundred; a Sack tells it once: any right got, any number, how often.
-/
import Derived.Test.YtfmgfpfaigifaaaLift
import Derived.Test.YtfmgfpfaigifaaaArgs
import Derived.Test.YtfmgfpfaigifaaaGl
import Derived.Test.YtfmgfpfaigifaaaGs
namespace Go.Proofs.Ytfmgfpfaigifaaa.gotDups
open Go.ChangeShapes Go.WideShapes Go.ChangeAt Go.RowKit
set_option linter.unusedVariables false
set_option linter.unusedSimpArgs false

theorem took_not {g : Gt} (hr : RightG g) (hl : g.ab.length ≤ 1000000) (n : UInt32) (h : hasB (takeG g n).1 n = false) : 4000 < key g.cum n ∧ takeG g n = (g, false) := by
  unfold takeG at *
  cases hh : hasB g n with
  | true =>
    rw [hh, if_pos rfl] at h
    have : hasB g n = false := h
    rw [hh] at this
    cases this
  | false =>
    rw [hh, if_neg (show ¬ (false = true) by decide)] at h
    rw [if_neg (show ¬ (false = true) by decide)]
    by_cases hf : 4000 < key g.cum n
    · rw [if_pos hf]
      exact ⟨hf, rfl⟩
    · rw [if_neg hf] at h ⊢
      exfalso
      by_cases he : n = g.cum + 1
      · rw [if_pos he] at h
        have hk : key g.cum n = 1 := by rw [he]; exact key_next _
        obtain ⟨k, hw⟩ := follow_went g.cum g.ab n hr.strict (fun x hx => by have := (hr.near x hx).1; omega)
        have h1 := hw.kc
        have h2 := hw.cnt
        have h3 : key n (follow n g.ab).1 = k := by rw [key_shift (f := g.cum) (by omega)]; omega
        unfold hasB at h
        rw [Bool.or_eq_false_iff] at h
        have h4 := of_decide_eq_false h.1
        exact h4 (by show key n (follow n g.ab).1 < 2147483648; omega)
      · rw [if_neg he] at h
        unfold hasB at h
        rw [Bool.or_eq_false_iff] at h
        exact (of_decide_eq_false h.2) (by show n ∈ ins g.cum n g.ab; rw [mem_ins]; exact .inl rfl)
/-- Where the law's loop stands: what was left is there, but for what came twice. -/
def DuS (w : World) (g1 : Nat) (c : UInt32) (a : List UInt32) (was i : Nat) (W : World) : Prop := ∃ d A k A' k', d.length = min (was + i) 100 ∧ Bx W g1 25 #[.int .u32 (c.toNat : Int), .slice A a.length k, .slice A' d.length k'] ∧ RowE enc32 W (.slice A a.length k) a ∧ RowE enc32 W (.slice A' d.length k') d ∧ Below w.heap.size w W
set_option maxHeartbeats 4000000 in
set_option maxRecDepth 100000 in
theorem walk (c : UInt32) (ab du : List UInt32) (va vd : Value) (n : UInt32) (m : Int) (w : World) (h1 : RowE enc32 w va ab) (h2 : RowE enc32 w vd du) : Calls Try.prog 9 #[.agg #[.int .u32 (c.toNat : Int), va, vd], .int .u32 (n.toNat : Int), .int .i64 m] w fun e w' => e = .returned (.bool true) ∧ Below w.heap.size w w' := by
  have HSH := Lib.hid (fun W => shown_any W)
  have hcl := c.toNat_lt
  obtain ⟨A, k, rfl, hk1, hk2, -⟩ := id h1
  obtain ⟨A', k', rfl, hk3, hk4, -⟩ := id h2
  have hma : ab.length ≤ maxLen := by omega
  have hmd : du.length ≤ maxLen := by omega
  have hmI : (ab.length : Int) ≤ 9223372036854775807 := by unfold maxLen at hma; omega
  have HBX := Bx.fresh w 25 #[.int .u32 (c.toNat : Int), .slice A ab.length k, .slice A' du.length k']
  have HB := Lib.hid ((Below.refl w.heap.size w).alloc (Nat.le_refl _) (.cells #[.int .u32 (c.toNat : Int), .slice A ab.length k, .slice A' du.length k'] 25))
  have HK : Hid (AllG [⟨25, w.heap.size, c, ab, du, .slice A ab.length k, .slice A' du.length k'⟩] (w.alloc (.cells #[.int .u32 (c.toNat : Int), .slice A ab.length k, .slice A' du.length k'] 25))) := Lib.hid (fun x hx => by rw [List.mem_singleton.1 hx]; exact ⟨HBX, h1.below HB.out, h2.below HB.out⟩)
  clear h1 h2 HBX hk1 hk2 hk3 hk4
  by_cases hr : RightG ⟨c, ab, du⟩
  · have HRT := Lib.hid (fun va vd W h h' => right_yes c ab du hma hmd va vd W h h' hr)
    by_cases h40 : ab.length ≤ 40
    · have q40 : ¬ (40 : Int) < (ab.length : Int) := by omega
      by_cases hm0 : m < 0
      · clear hr
        go_enter Try.func9, Try.ntmps9
        go_wp2_with (first
    | (go_at_call 10; (with_reducible refine (HSH.out _).mono ?_); rintro e w1 ⟨rfl, hb⟩; replace HK := Lib.hid (HK.out.later hb); replace HB := Lib.hid (HB.out.trans (hb.mono HB.out.size)); clear hb; have c0 := ((show Bx _ (w.heap.size) 25 #[.int .u32 (c.toNat : Int), .slice A ab.length k, .slice A' du.length k'] from (AllG.nth HK.out 0 rfl).1)).cell 0 (.int .u32 (c.toNat : Int)) rfl; have c1 := ((show Bx _ (w.heap.size) 25 #[.int .u32 (c.toNat : Int), .slice A ab.length k, .slice A' du.length k'] from (AllG.nth HK.out 0 rfl).1)).cell 1 (.slice A ab.length k) rfl; have c2' := ((show Bx _ (w.heap.size) 25 #[.int .u32 (c.toNat : Int), .slice A ab.length k, .slice A' du.length k'] from (AllG.nth HK.out 0 rfl).1)).cell 2 (.slice A' du.length k') rfl)
    | ((with_reducible refine gate9 ?_); refine ldB (ty := 25) rfl rfl rfl (show Bx _ (w.heap.size) 25 #[.int .u32 (c.toNat : Int), .slice A ab.length k, .slice A' du.length k'] from (AllG.nth HK.out 0 rfl).1) Try.underlying25 rfl infoG ?_)
    | (go_at_call 12; (with_reducible refine (as_any c.toNat hcl A A' _ k _ k' _).mono ?_); rintro e w1 ⟨rfl, hb⟩; replace HK := Lib.hid (HK.out.later hb); replace HB := Lib.hid (HB.out.trans (hb.mono HB.out.size)); clear hb)
    | (go_at_call 11; have hr9 := (show RowE enc32 _ (.slice A ab.length k) ab from (AllG.nth HK.out 0 rfl).2.1); have hd9 := (show RowE enc32 _ (.slice A' du.length k') du from (AllG.nth HK.out 0 rfl).2.2); (with_reducible refine (HRT.out _ _ _ hr9 hd9).mono ?_); clear hr9 hd9; rintro e w1 ⟨rfl, hb⟩; replace HK := Lib.hid (HK.out.later hb); replace HB := Lib.hid (HB.out.trans (hb.mono HB.out.size)); clear hb; have c0 := ((show Bx _ (w.heap.size) 25 #[.int .u32 (c.toNat : Int), .slice A ab.length k, .slice A' du.length k'] from (AllG.nth HK.out 0 rfl).1)).cell 0 (.int .u32 (c.toNat : Int)) rfl; have c1 := ((show Bx _ (w.heap.size) 25 #[.int .u32 (c.toNat : Int), .slice A ab.length k, .slice A' du.length k'] from (AllG.nth HK.out 0 rfl).1)).cell 1 (.slice A ab.length k) rfl; have c2' := ((show Bx _ (w.heap.size) 25 #[.int .u32 (c.toNat : Int), .slice A ab.length k, .slice A' du.length k'] from (AllG.nth HK.out 0 rfl).1)).cell 2 (.slice A' du.length k') rfl))
        go_ret
        exact ⟨rfl, HB.out⟩
      · by_cases hm2 : 200 < m
        · clear hr
          go_enter Try.func9, Try.ntmps9
          go_wp2_with (first
    | (go_at_call 10; (with_reducible refine (HSH.out _).mono ?_); rintro e w1 ⟨rfl, hb⟩; replace HK := Lib.hid (HK.out.later hb); replace HB := Lib.hid (HB.out.trans (hb.mono HB.out.size)); clear hb; have c0 := ((show Bx _ (w.heap.size) 25 #[.int .u32 (c.toNat : Int), .slice A ab.length k, .slice A' du.length k'] from (AllG.nth HK.out 0 rfl).1)).cell 0 (.int .u32 (c.toNat : Int)) rfl; have c1 := ((show Bx _ (w.heap.size) 25 #[.int .u32 (c.toNat : Int), .slice A ab.length k, .slice A' du.length k'] from (AllG.nth HK.out 0 rfl).1)).cell 1 (.slice A ab.length k) rfl; have c2' := ((show Bx _ (w.heap.size) 25 #[.int .u32 (c.toNat : Int), .slice A ab.length k, .slice A' du.length k'] from (AllG.nth HK.out 0 rfl).1)).cell 2 (.slice A' du.length k') rfl)
    | ((with_reducible refine gate9 ?_); refine ldB (ty := 25) rfl rfl rfl (show Bx _ (w.heap.size) 25 #[.int .u32 (c.toNat : Int), .slice A ab.length k, .slice A' du.length k'] from (AllG.nth HK.out 0 rfl).1) Try.underlying25 rfl infoG ?_)
    | (go_at_call 12; (with_reducible refine (as_any c.toNat hcl A A' _ k _ k' _).mono ?_); rintro e w1 ⟨rfl, hb⟩; replace HK := Lib.hid (HK.out.later hb); replace HB := Lib.hid (HB.out.trans (hb.mono HB.out.size)); clear hb)
    | (go_at_call 11; have hr9 := (show RowE enc32 _ (.slice A ab.length k) ab from (AllG.nth HK.out 0 rfl).2.1); have hd9 := (show RowE enc32 _ (.slice A' du.length k') du from (AllG.nth HK.out 0 rfl).2.2); (with_reducible refine (HRT.out _ _ _ hr9 hd9).mono ?_); clear hr9 hd9; rintro e w1 ⟨rfl, hb⟩; replace HK := Lib.hid (HK.out.later hb); replace HB := Lib.hid (HB.out.trans (hb.mono HB.out.size)); clear hb; have c0 := ((show Bx _ (w.heap.size) 25 #[.int .u32 (c.toNat : Int), .slice A ab.length k, .slice A' du.length k'] from (AllG.nth HK.out 0 rfl).1)).cell 0 (.int .u32 (c.toNat : Int)) rfl; have c1 := ((show Bx _ (w.heap.size) 25 #[.int .u32 (c.toNat : Int), .slice A ab.length k, .slice A' du.length k'] from (AllG.nth HK.out 0 rfl).1)).cell 1 (.slice A ab.length k) rfl; have c2' := ((show Bx _ (w.heap.size) 25 #[.int .u32 (c.toNat : Int), .slice A ab.length k, .slice A' du.length k'] from (AllG.nth HK.out 0 rfl).1)).cell 2 (.slice A' du.length k') rfl))
          go_ret
          exact ⟨rfl, HB.out⟩
        · have hd6 : du.length ≤ 1000000 := by have := hr.dups; dsimp only at this; omega
          have ha6 : ab.length ≤ 1000000 := by omega
          have HTK := Lib.hid (fun va vd W h h' => take_any c ab du ha6 hd6 va vd W h h' n hr)
          obtain ⟨M, rfl⟩ : ∃ M : Nat, m = (M : Int) := ⟨m.toNat, by omega⟩
          have hlr : (takeG ⟨c, ab, du⟩ n).1.ab.length ≤ 1000000 ∧ (takeG ⟨c, ab, du⟩ n).1.du.length ≤ 100 := ⟨(take_small n hr (by show ab.length ≤ 900000; omega)).1, (take_right hr n).dups⟩
          cases hh : hasB (takeG ⟨c, ab, du⟩ n).1 n with
          | false =>
            obtain ⟨hf, hT⟩ := took_not hr ha6 n hh
            rw [hT] at HTK
            have HNS := Lib.hid (fun v1 v2 W h1 h2 => nums_same ab ha6 v1 v2 W h1 h2)
            have HHS := Lib.hid (fun va vd W h h' => has_any c ab du ha6 hd6 va vd W h h' n)
            have hh2 : hasB ⟨c, ab, du⟩ n = false := by rw [hT] at hh; exact hh
            rw [hh2] at HHS
            have s1 : ((n.toNat : Int) - (c.toNat : Int)) % 4294967296 = (key c n : Int) := sub_toNat32 n c
            have q1 : (4000 : Int) < (key c n : Int) := by have h9 : 4000 < key c n := hf; omega
            have hn := n.toNat_lt
            clear hr hf hT hh hh2 hlr
            generalize key c n = kn at *
            go_enter Try.func9, Try.ntmps9
            go_wp2_with (first
    | (go_at_call 10; (with_reducible refine (HSH.out _).mono ?_); rintro e w1 ⟨rfl, hb⟩; replace HK := Lib.hid (HK.out.later hb); replace HB := Lib.hid (HB.out.trans (hb.mono HB.out.size)); clear hb; have c0 := ((show Bx _ (w.heap.size) 25 #[.int .u32 (c.toNat : Int), .slice A ab.length k, .slice A' du.length k'] from (AllG.nth HK.out 0 rfl).1)).cell 0 (.int .u32 (c.toNat : Int)) rfl; have c1 := ((show Bx _ (w.heap.size) 25 #[.int .u32 (c.toNat : Int), .slice A ab.length k, .slice A' du.length k'] from (AllG.nth HK.out 0 rfl).1)).cell 1 (.slice A ab.length k) rfl; have c2' := ((show Bx _ (w.heap.size) 25 #[.int .u32 (c.toNat : Int), .slice A ab.length k, .slice A' du.length k'] from (AllG.nth HK.out 0 rfl).1)).cell 2 (.slice A' du.length k') rfl)
    | ((with_reducible refine gate9 ?_); refine ldB (ty := 25) rfl rfl rfl (show Bx _ (w.heap.size) 25 #[.int .u32 (c.toNat : Int), .slice A ab.length k, .slice A' du.length k'] from (AllG.nth HK.out 0 rfl).1) Try.underlying25 rfl infoG ?_)
    | (go_at_call 12; (with_reducible refine (as_any c.toNat hcl A A' _ k _ k' _).mono ?_); rintro e w1 ⟨rfl, hb⟩; replace HK := Lib.hid (HK.out.later hb); replace HB := Lib.hid (HB.out.trans (hb.mono HB.out.size)); clear hb)
    | (go_at_call 11; have hr9 := (show RowE enc32 _ (.slice A ab.length k) ab from (AllG.nth HK.out 0 rfl).2.1); have hd9 := (show RowE enc32 _ (.slice A' du.length k') du from (AllG.nth HK.out 0 rfl).2.2); (with_reducible refine (HRT.out _ _ _ hr9 hd9).mono ?_); clear hr9 hd9; rintro e w1 ⟨rfl, hb⟩; replace HK := Lib.hid (HK.out.later hb); replace HB := Lib.hid (HB.out.trans (hb.mono HB.out.size)); clear hb; have c0 := ((show Bx _ (w.heap.size) 25 #[.int .u32 (c.toNat : Int), .slice A ab.length k, .slice A' du.length k'] from (AllG.nth HK.out 0 rfl).1)).cell 0 (.int .u32 (c.toNat : Int)) rfl; have c1 := ((show Bx _ (w.heap.size) 25 #[.int .u32 (c.toNat : Int), .slice A ab.length k, .slice A' du.length k'] from (AllG.nth HK.out 0 rfl).1)).cell 1 (.slice A ab.length k) rfl; have c2' := ((show Bx _ (w.heap.size) 25 #[.int .u32 (c.toNat : Int), .slice A ab.length k, .slice A' du.length k'] from (AllG.nth HK.out 0 rfl).1)).cell 2 (.slice A' du.length k') rfl))
            have hr9 := (show RowE enc32 _ (.slice A ab.length k) ab from (AllG.nth HK.out 0 rfl).2.1)
            have hd9 := (show RowE enc32 _ (.slice A' du.length k') du from (AllG.nth HK.out 0 rfl).2.2)
            refine (HTK.out _ _ _ hr9 hd9).mono ?_
            rintro e w5 ⟨va9, vd9, rfl, hra, hrd, -, -, hb⟩
            clear hr9 hd9 HTK
            obtain ⟨A5, k5, rfl, -, -, -⟩ := id hra
            obtain ⟨A6, k6, rfl, -, -, -⟩ := id hrd
            replace HK := Lib.hid (HK.out.later hb)
            replace HB := Lib.hid (HB.out.trans (hb.mono HB.out.size))
            have HRA := Lib.hid hra
            have HRD := Lib.hid hrd
            clear hra hrd hb c0 c1 c2'
            obtain ⟨W2, hW2, HQ, HB2, hs2⟩ := one_open w5 25 #[.int .u32 0, .slice none 0 0, .slice none 0 0]
            obtain ⟨g1, hg1⟩ : ∃ g, w5.heap.size = g := ⟨_, rfl⟩
            rw [hg1] at HQ
            have hwg := HB.out.size
            go_wp2_with (first
    | ((with_reducible refine gate9 ?_); refine stB (ty := 25) #[.int .u32 (c.toNat : Int), .slice A5 ab.length k5, .slice A6 du.length k6] rfl rfl rfl rfl HQ.out infoG rfl (cellsG_one _ _ _ _ _ _ _) ?_; intro w3 ht hg; replace HB2 := Lib.hid (below_of_grown1 HB2.out hg HB2.out.size (Nat.le_of_eq hg1)); replace HQ := Lib.hid ht; replace HK := Lib.hid (HK.out.later HB2.out); replace HRA := Lib.hid (HRA.out.below HB2.out); replace HRD := Lib.hid (HRD.out.below HB2.out); replace HB := Lib.hid (HB.out.trans (HB2.out.mono HB.out.size)); clear ht hg HB2)
    | ((with_reducible refine gate9 ?_); refine ldB (ty := 25) rfl rfl rfl HQ.out Try.underlying25 rfl infoG ?_))
            refine (HHS.out _ _ _ HRA.out HRD.out).mono ?_
            rintro e w6 ⟨rfl, hb⟩
            replace HK := Lib.hid (HK.out.later hb)
            replace HQ := Lib.hid (HQ.out.later hb)
            replace HRA := Lib.hid (HRA.out.below hb)
            replace HB := Lib.hid (HB.out.trans (hb.mono HB.out.size))
            clear hb HRD HHS
            have c0 := ((show Bx _ (w.heap.size) 25 #[.int .u32 (c.toNat : Int), .slice A ab.length k, .slice A' du.length k'] from (AllG.nth HK.out 0 rfl).1)).cell 0 (.int .u32 (c.toNat : Int)) rfl; have c1 := ((show Bx _ (w.heap.size) 25 #[.int .u32 (c.toNat : Int), .slice A ab.length k, .slice A' du.length k'] from (AllG.nth HK.out 0 rfl).1)).cell 1 (.slice A ab.length k) rfl; have c2' := ((show Bx _ (w.heap.size) 25 #[.int .u32 (c.toNat : Int), .slice A ab.length k, .slice A' du.length k'] from (AllG.nth HK.out 0 rfl).1)).cell 2 (.slice A' du.length k') rfl
            have d0 := HQ.out.cell 0 (.int .u32 (c.toNat : Int)) rfl
            have d1 := HQ.out.cell 1 (.slice A5 ab.length k5) rfl
            have HR0 := Lib.hid (show RowE enc32 _ (.slice A ab.length k) ab from (AllG.nth HK.out 0 rfl).2.1)
            go_wp2_with fail
            refine (HNS.out _ _ _ HRA.out HR0.out).mono ?_
            rintro e w7 ⟨rfl, hb⟩
            replace HK := Lib.hid (HK.out.later hb)
            replace HQ := Lib.hid (HQ.out.later hb)
            replace HB := Lib.hid (HB.out.trans (hb.mono HB.out.size))
            clear hb c0 c1 c2' d0 d1 HR0 HRA
            have c0 := ((show Bx _ (w.heap.size) 25 #[.int .u32 (c.toNat : Int), .slice A ab.length k, .slice A' du.length k'] from (AllG.nth HK.out 0 rfl).1)).cell 0 (.int .u32 (c.toNat : Int)) rfl; have c1 := ((show Bx _ (w.heap.size) 25 #[.int .u32 (c.toNat : Int), .slice A ab.length k, .slice A' du.length k'] from (AllG.nth HK.out 0 rfl).1)).cell 1 (.slice A ab.length k) rfl; have c2' := ((show Bx _ (w.heap.size) 25 #[.int .u32 (c.toNat : Int), .slice A ab.length k, .slice A' du.length k'] from (AllG.nth HK.out 0 rfl).1)).cell 2 (.slice A' du.length k') rfl
            have d0 := HQ.out.cell 0 (.int .u32 (c.toNat : Int)) rfl
            go_wp2_with fail
            go_ret
            exact ⟨rfl, HB.out⟩
          | true =>
            generalize takeG ⟨c, ab, du⟩ n = RX at *
            obtain ⟨⟨c2, a2, d2⟩, b2⟩ := RX
            dsimp only at hlr hh HTK
            obtain ⟨hl1, hl2⟩ := hlr
            have HHS := Lib.hid (fun va vd W h h' => has_any c2 a2 d2 hl1 (by omega) va vd W h h' n)
            rw [hh] at HHS
            have HTD : Hid (∀ (d : List UInt32), d.length ≤ 100 → ∀ va vd W, RowE enc32 W va a2 → RowE enc32 W vd d → Calls Try.prog 13 #[.agg #[.int .u32 (c2.toNat : Int), va, vd], .int .u32 (n.toNat : Int)] W (TookG W (⟨c2, a2, if d.length < 100 then d ++ [n] else d⟩, false))) := Lib.hid (fun d hd va vd W h h' => by
              by_cases h9 : d.length < 100
              · rw [if_pos h9]; exact take_dup c2 a2 d hl1 (by omega) va vd W h h' n hh h9
              · rw [if_neg h9]; exact take_full c2 a2 d hl1 (by omega) va vd W h h' n hh h9)
            have HSK := Lib.hid (fun (d : List UInt32) (hd : d.length ≤ 100) va vd W h h' => sack_any c2 a2 d hl1 (by omega) va vd W h h' 5)
            have hc2 := c2.toNat_lt
            have hm3 : (M : Int) ≤ 200 := by omega
            clear hr hh
            go_enter Try.func9, Try.ntmps9
            go_wp2_with (first
    | (go_at_call 10; (with_reducible refine (HSH.out _).mono ?_); rintro e w1 ⟨rfl, hb⟩; replace HK := Lib.hid (HK.out.later hb); replace HB := Lib.hid (HB.out.trans (hb.mono HB.out.size)); clear hb; have c0 := ((show Bx _ (w.heap.size) 25 #[.int .u32 (c.toNat : Int), .slice A ab.length k, .slice A' du.length k'] from (AllG.nth HK.out 0 rfl).1)).cell 0 (.int .u32 (c.toNat : Int)) rfl; have c1 := ((show Bx _ (w.heap.size) 25 #[.int .u32 (c.toNat : Int), .slice A ab.length k, .slice A' du.length k'] from (AllG.nth HK.out 0 rfl).1)).cell 1 (.slice A ab.length k) rfl; have c2' := ((show Bx _ (w.heap.size) 25 #[.int .u32 (c.toNat : Int), .slice A ab.length k, .slice A' du.length k'] from (AllG.nth HK.out 0 rfl).1)).cell 2 (.slice A' du.length k') rfl)
    | ((with_reducible refine gate9 ?_); refine ldB (ty := 25) rfl rfl rfl (show Bx _ (w.heap.size) 25 #[.int .u32 (c.toNat : Int), .slice A ab.length k, .slice A' du.length k'] from (AllG.nth HK.out 0 rfl).1) Try.underlying25 rfl infoG ?_)
    | (go_at_call 12; (with_reducible refine (as_any c.toNat hcl A A' _ k _ k' _).mono ?_); rintro e w1 ⟨rfl, hb⟩; replace HK := Lib.hid (HK.out.later hb); replace HB := Lib.hid (HB.out.trans (hb.mono HB.out.size)); clear hb)
    | (go_at_call 11; have hr9 := (show RowE enc32 _ (.slice A ab.length k) ab from (AllG.nth HK.out 0 rfl).2.1); have hd9 := (show RowE enc32 _ (.slice A' du.length k') du from (AllG.nth HK.out 0 rfl).2.2); (with_reducible refine (HRT.out _ _ _ hr9 hd9).mono ?_); clear hr9 hd9; rintro e w1 ⟨rfl, hb⟩; replace HK := Lib.hid (HK.out.later hb); replace HB := Lib.hid (HB.out.trans (hb.mono HB.out.size)); clear hb; have c0 := ((show Bx _ (w.heap.size) 25 #[.int .u32 (c.toNat : Int), .slice A ab.length k, .slice A' du.length k'] from (AllG.nth HK.out 0 rfl).1)).cell 0 (.int .u32 (c.toNat : Int)) rfl; have c1 := ((show Bx _ (w.heap.size) 25 #[.int .u32 (c.toNat : Int), .slice A ab.length k, .slice A' du.length k'] from (AllG.nth HK.out 0 rfl).1)).cell 1 (.slice A ab.length k) rfl; have c2' := ((show Bx _ (w.heap.size) 25 #[.int .u32 (c.toNat : Int), .slice A ab.length k, .slice A' du.length k'] from (AllG.nth HK.out 0 rfl).1)).cell 2 (.slice A' du.length k') rfl))
            have hr9 := (show RowE enc32 _ (.slice A ab.length k) ab from (AllG.nth HK.out 0 rfl).2.1)
            have hd9 := (show RowE enc32 _ (.slice A' du.length k') du from (AllG.nth HK.out 0 rfl).2.2)
            refine (HTK.out _ _ _ hr9 hd9).mono ?_
            rintro e w5 ⟨va9, vd9, rfl, hra, hrd, -, -, hb⟩
            clear hr9 hd9 HTK
            obtain ⟨A5, k5, rfl, -, -, -⟩ := id hra
            obtain ⟨A6, k6, rfl, -, -, -⟩ := id hrd
            replace HK := Lib.hid (HK.out.later hb)
            replace HB := Lib.hid (HB.out.trans (hb.mono HB.out.size))
            have HRA := Lib.hid hra
            have HRD := Lib.hid hrd
            clear hra hrd hb c0 c1 c2'
            obtain ⟨W2, hW2, HQ, HB2, hs2⟩ := one_open w5 25 #[.int .u32 0, .slice none 0 0, .slice none 0 0]
            obtain ⟨g1, hg1⟩ : ∃ g, w5.heap.size = g := ⟨_, rfl⟩
            rw [hg1] at HQ
            have hwg := HB.out.size
            go_wp2_with (first
    | ((with_reducible refine gate9 ?_); refine stB (ty := 25) #[.int .u32 (c2.toNat : Int), .slice A5 a2.length k5, .slice A6 d2.length k6] rfl rfl rfl rfl HQ.out infoG rfl (cellsG_one _ _ _ _ _ _ _) ?_; intro w3 ht hg; replace HB2 := Lib.hid (below_of_grown1 HB2.out hg HB2.out.size (Nat.le_of_eq hg1)); replace HQ := Lib.hid ht; replace HK := Lib.hid (HK.out.later HB2.out); replace HRA := Lib.hid (HRA.out.below HB2.out); replace HRD := Lib.hid (HRD.out.below HB2.out); replace HB := Lib.hid (HB.out.trans (HB2.out.mono HB.out.size)); clear ht hg HB2)
    | ((with_reducible refine gate9 ?_); refine ldB (ty := 25) rfl rfl rfl HQ.out Try.underlying25 rfl infoG ?_))
            refine (HHS.out _ _ _ HRA.out HRD.out).mono ?_
            rintro e w6 ⟨rfl, hb⟩
            clear HK
            replace HQ := Lib.hid (HQ.out.later hb)
            replace HRA := Lib.hid (HRA.out.below hb)
            replace HRD := Lib.hid (HRD.out.below hb)
            replace HB := Lib.hid (HB.out.trans (hb.mono HB.out.size))
            clear hb HHS
            have d2' := HQ.out.cell 2 (.slice A6 d2.length k6) rfl
            have HST : Hid (DuS w g1 c2 a2 d2.length 0 w6) := Lib.hid ⟨d2, A5, k5, A6, k6, by omega, HQ.out, HRA.out, HRD.out, HB.out⟩
            obtain ⟨was, hwas⟩ : ∃ x, d2.length = x := ⟨_, rfl⟩
            rw [hwas] at HST d2' hl2
            clear HQ HRA HRD HB hwas
            go_wp2_with fail
            clear d2'
            go_loopw [12] (fun v wr => ∃ j : Nat, j ≤ M ∧ v = .int .i64 j ∧ Hid (DuS w g1 c2 a2 was j wr))
              (fun v _ => M - (intOf v).toNat)
            case atStart => exact ⟨0, Nat.zero_le _, rfl, HST⟩
            case round =>
              clear HST
              obtain ⟨j, hj, rfl, HDU⟩ := hrel
              obtain ⟨d, A7, k7, A8, k8, hdl, u1, u2, u3, u4⟩ := HDU.out
              have HQ := Lib.hid u1
              have HR := Lib.hid (And.intro u2 u3)
              have HB := Lib.hid u4
              clear u1 u2 u3 u4 HDU
              have hd100 : d.length ≤ 100 := by omega
              have HDL := Lib.hid hdl
              by_cases hlt : j < M
              · have p0 : (0 : Int) ≤ (j : Int) := by omega
                have p1 : (j : Int) < (M : Int) := by omega
                have HT0 := Lib.hid (fun va vd W h h' => HTD.out d hd100 va vd W h h')
                have hdl2 : (if d.length < 100 then d ++ [n] else d).length = min (was + (j + 1)) 100 := by
                  split
                  · rw [List.length_append, List.length_singleton]; omega
                  · omega
                generalize (if d.length < 100 then d ++ [n] else d) = d3 at *
                have HDL2 := Lib.hid hdl2
                clear hdl hdl2 HDL
                go_wp2_with (first
    | ((with_reducible refine gate9 ?_); refine ldB (ty := 25) rfl rfl rfl HQ.out Try.underlying25 rfl infoG ?_))
                refine (HT0.out _ _ _ HR.out.1 HR.out.2).mono ?_
                rintro e w8 ⟨va9, vd9, rfl, hra, hrd, hfa, hfd, hb⟩
                obtain ⟨A9, k9, rfl, -, -, -⟩ := id hra
                obtain ⟨A10, k10, rfl, -, -, -⟩ := id hrd
                have hgq := HQ.out.lt
                replace HQ := Lib.hid (HQ.out.later hb)
                replace HB := Lib.hid (HB.out.trans (hb.mono HB.out.size))
                have HRA := Lib.hid hra
                have HRD := Lib.hid hrd
                have HFA := Lib.hid hfa
                have HFD := Lib.hid hfd
                have hs8 := hb.size
                clear hra hrd hfa hfd hb HR HT0
                obtain ⟨W9, hW9, HT, HB9, hs9⟩ := one_open w8 25 #[.int .u32 0, .slice none 0 0, .slice none 0 0]
                obtain ⟨g2, hg2⟩ : ∃ g, w8.heap.size = g := ⟨_, rfl⟩
                rw [hg2] at HT
                go_wp2_with (first
    | ((with_reducible refine gate9 ?_); refine stB (ty := 25) #[.int .u32 (c2.toNat : Int), .slice A9 a2.length k9, .slice A10 d3.length k10] rfl rfl rfl rfl HT.out infoG rfl (cellsG_one _ _ _ _ _ _ _) ?_; intro w10 ht hg; replace HB9 := Lib.hid (below_of_grown1 HB9.out hg HB9.out.size (Nat.le_of_eq hg2)); replace HT := Lib.hid ht; replace HQ := Lib.hid (HQ.out.later HB9.out); replace HRA := Lib.hid (HRA.out.below HB9.out); replace HRD := Lib.hid (HRD.out.below HB9.out); replace HB := Lib.hid (HB.out.trans (HB9.out.mono HB.out.size)); clear ht hg HB9; have e0 := HT.out.cell 0 (.int .u32 (c2.toNat : Int)) rfl; have e1 := HT.out.cell 1 (.slice A9 a2.length k9) rfl; have d0 := HQ.out.cell 0 (.int .u32 (c2.toNat : Int)) rfl; have d1 := HQ.out.cell 1 (.slice A7 a2.length k7) rfl)
    | ((with_reducible refine gate9 ?_); refine ldB (ty := 25) rfl rfl rfl HT.out Try.underlying25 rfl infoG ?_)
    | ((with_reducible refine gate9 ?_); refine stB (ty := 25) #[.int .u32 (c2.toNat : Int), .slice A9 a2.length k9, .slice A10 d3.length k10] rfl rfl rfl rfl HQ.out infoG rfl (cellsG_one _ _ _ _ _ _ _) ?_; intro w11 ht hg; have HD11 : Hid (DuS w g1 c2 a2 was (j + 1) w11) := Lib.hid ⟨d3, A9, k9, A10, k10, HDL2.out, ht, HRA.out.stays HFA.out hg (by omega), HRD.out.stays HFD.out hg (by omega), below_of_grown1 HB.out hg HB.out.size (by omega)⟩; clear ht hg d0 d1 e0 e1))
                go_roundw
                case rel => exact ⟨j + 1, by omega, by go_num, HD11⟩
                case measure => simp [intOf]; omega
              · obtain rfl : j = M := by omega
                have HS0 := Lib.hid (fun va vd W h h' => HSK.out d hd100 va vd W h h')
                have hmin : min ((was : Int) + (j : Int)) 100 = (d.length : Int) := by omega
                have hw3 : (was : Int) ≤ 100 := by omega
                clear hdl HDL
                go_wp2_with (first
    | ((with_reducible refine gate9 ?_); refine ldB (ty := 25) rfl rfl rfl HQ.out Try.underlying25 rfl infoG ?_))
                refine (HS0.out _ _ _ HR.out.1 HR.out.2).mono ?_
                rintro e w8 ⟨Ag, kg, Ad, kd, Aa, ka, rfl, -, -, -, hb⟩
                replace HQ := Lib.hid (HQ.out.later hb)
                replace HB := Lib.hid (HB.out.trans (hb.mono HB.out.size))
                clear hb HR HS0
                generalize gapsG ⟨c2, a2, d⟩ = gs at *
                obtain ⟨W9, hW9, HC, HH, HB9, hs9⟩ := two_open w8 44 25 #[.int .i64 0, .int .i64 0, .int .u32 0, .int .u32 0, .int .u32 0, .int .u32 0, .int .u16 0, .int .u16 0, .int .u16 0, .int .u16 0, .slice none 0 0, .slice none 0 0, .slice none 0 0, .string ⟨#[]⟩] #[.int .u32 0, .slice none 0 0, .slice none 0 0]
                obtain ⟨g2, hg2⟩ : ∃ g, w8.heap.size = g := ⟨_, rfl⟩
                rw [hg2] at HC HH
                have hg12 : g1 < g2 := by rw [← hg2]; exact HQ.out.lt
                replace HQ := Lib.hid (HQ.out.later HB9.out)
                have hwg2 : w.heap.size ≤ g2 := by rw [← hg2]; exact HB.out.size
                replace HB := Lib.hid (HB.out.trans (HB9.out.mono HB.out.size))
                clear HB9
                go_wp2_with (first
    | ((with_reducible refine gate9 ?_); refine stB (ty := 44) #[.int .i64 3, .int .i64 0, .int .u32 (c2.toNat : Int), .int .u32 0, .int .u32 ((5 : Nat) : Int), .int .u32 0, .int .u16 0, .int .u16 0, .int .u16 0, .int .u16 0, .slice Ag gs.length kg, .slice Ad d.length kd, .slice none 0 0, .string ⟨#[]⟩] rfl rfl rfl rfl HC.out infoC rfl (cellsS_one _ _ _ _ _ _ _ _) ?_; intro w10 ht hg; replace HQ := Lib.hid (HQ.out.kept hg (by omega)); replace HH := Lib.hid (HH.out.kept hg (by omega)); replace HB := Lib.hid (below_of_grown1 HB.out hg HB.out.size (by omega)); replace HC := Lib.hid ht; clear ht hg)
    | ((with_reducible refine gate9 ?_); refine stB (ty := 25) #[.int .u32 (c2.toNat : Int), .slice Aa a2.length ka, .slice none 0 0] rfl rfl rfl rfl HH.out infoG rfl (cellsG_one _ _ _ _ _ _ _) ?_; intro w11 ht hg; replace HQ := Lib.hid (HQ.out.kept hg (by omega)); replace HC := Lib.hid (HC.out.kept hg (by omega)); replace HB := Lib.hid (below_of_grown1 HB.out hg HB.out.size (by omega)); replace HH := Lib.hid ht; clear ht hg; have f0 := HQ.out.cell 2 (.slice A8 d.length k8) rfl; have f1 := HC.out.cell 11 (.slice Ad d.length kd) rfl; have f2 := HH.out.cell 2 (.slice none 0 0) rfl))
                go_ret
                exact ⟨rfl, HB.out⟩
    · have q40 : (40 : Int) < (ab.length : Int) := by omega
      clear hr
      go_enter Try.func9, Try.ntmps9
      go_wp2_with (first
    | (go_at_call 10; (with_reducible refine (HSH.out _).mono ?_); rintro e w1 ⟨rfl, hb⟩; replace HK := Lib.hid (HK.out.later hb); replace HB := Lib.hid (HB.out.trans (hb.mono HB.out.size)); clear hb; have c0 := ((show Bx _ (w.heap.size) 25 #[.int .u32 (c.toNat : Int), .slice A ab.length k, .slice A' du.length k'] from (AllG.nth HK.out 0 rfl).1)).cell 0 (.int .u32 (c.toNat : Int)) rfl; have c1 := ((show Bx _ (w.heap.size) 25 #[.int .u32 (c.toNat : Int), .slice A ab.length k, .slice A' du.length k'] from (AllG.nth HK.out 0 rfl).1)).cell 1 (.slice A ab.length k) rfl; have c2' := ((show Bx _ (w.heap.size) 25 #[.int .u32 (c.toNat : Int), .slice A ab.length k, .slice A' du.length k'] from (AllG.nth HK.out 0 rfl).1)).cell 2 (.slice A' du.length k') rfl)
    | ((with_reducible refine gate9 ?_); refine ldB (ty := 25) rfl rfl rfl (show Bx _ (w.heap.size) 25 #[.int .u32 (c.toNat : Int), .slice A ab.length k, .slice A' du.length k'] from (AllG.nth HK.out 0 rfl).1) Try.underlying25 rfl infoG ?_)
    | (go_at_call 12; (with_reducible refine (as_any c.toNat hcl A A' _ k _ k' _).mono ?_); rintro e w1 ⟨rfl, hb⟩; replace HK := Lib.hid (HK.out.later hb); replace HB := Lib.hid (HB.out.trans (hb.mono HB.out.size)); clear hb)
    | (go_at_call 11; have hr9 := (show RowE enc32 _ (.slice A ab.length k) ab from (AllG.nth HK.out 0 rfl).2.1); have hd9 := (show RowE enc32 _ (.slice A' du.length k') du from (AllG.nth HK.out 0 rfl).2.2); (with_reducible refine (HRT.out _ _ _ hr9 hd9).mono ?_); clear hr9 hd9; rintro e w1 ⟨rfl, hb⟩; replace HK := Lib.hid (HK.out.later hb); replace HB := Lib.hid (HB.out.trans (hb.mono HB.out.size)); clear hb; have c0 := ((show Bx _ (w.heap.size) 25 #[.int .u32 (c.toNat : Int), .slice A ab.length k, .slice A' du.length k'] from (AllG.nth HK.out 0 rfl).1)).cell 0 (.int .u32 (c.toNat : Int)) rfl; have c1 := ((show Bx _ (w.heap.size) 25 #[.int .u32 (c.toNat : Int), .slice A ab.length k, .slice A' du.length k'] from (AllG.nth HK.out 0 rfl).1)).cell 1 (.slice A ab.length k) rfl; have c2' := ((show Bx _ (w.heap.size) 25 #[.int .u32 (c.toNat : Int), .slice A ab.length k, .slice A' du.length k'] from (AllG.nth HK.out 0 rfl).1)).cell 2 (.slice A' du.length k') rfl))
      go_ret
      exact ⟨rfl, HB.out⟩
  · have HRT := Lib.hid (fun va vd W h h' => right_no c ab du hma hmd va vd W h h' hr)
    clear hr
    go_enter Try.func9, Try.ntmps9
    go_wp2_with (first
    | (go_at_call 10; (with_reducible refine (HSH.out _).mono ?_); rintro e w1 ⟨rfl, hb⟩; replace HK := Lib.hid (HK.out.later hb); replace HB := Lib.hid (HB.out.trans (hb.mono HB.out.size)); clear hb; skip)
    | ((with_reducible refine gate9 ?_); refine ldB (ty := 25) rfl rfl rfl (show Bx _ (w.heap.size) 25 #[.int .u32 (c.toNat : Int), .slice A ab.length k, .slice A' du.length k'] from (AllG.nth HK.out 0 rfl).1) Try.underlying25 rfl infoG ?_)
    | (go_at_call 12; (with_reducible refine (as_any c.toNat hcl A A' _ k _ k' _).mono ?_); rintro e w1 ⟨rfl, hb⟩; replace HK := Lib.hid (HK.out.later hb); replace HB := Lib.hid (HB.out.trans (hb.mono HB.out.size)); clear hb)
    | (go_at_call 11; have hr9 := (show RowE enc32 _ (.slice A ab.length k) ab from (AllG.nth HK.out 0 rfl).2.1); have hd9 := (show RowE enc32 _ (.slice A' du.length k') du from (AllG.nth HK.out 0 rfl).2.2); (with_reducible refine (HRT.out _ _ _ hr9 hd9).mono ?_); clear hr9 hd9; rintro e w1 ⟨rfl, hb⟩; replace HK := Lib.hid (HK.out.later hb); replace HB := Lib.hid (HB.out.trans (hb.mono HB.out.size)); clear hb; have c0 := ((show Bx _ (w.heap.size) 25 #[.int .u32 (c.toNat : Int), .slice A ab.length k, .slice A' du.length k'] from (AllG.nth HK.out 0 rfl).1)).cell 0 (.int .u32 (c.toNat : Int)) rfl; have c1 := ((show Bx _ (w.heap.size) 25 #[.int .u32 (c.toNat : Int), .slice A ab.length k, .slice A' du.length k'] from (AllG.nth HK.out 0 rfl).1)).cell 1 (.slice A ab.length k) rfl; have c2' := ((show Bx _ (w.heap.size) 25 #[.int .u32 (c.toNat : Int), .slice A ab.length k, .slice A' du.length k'] from (AllG.nth HK.out 0 rfl).1)).cell 2 (.slice A' du.length k') rfl))
    go_ret
    exact ⟨rfl, HB.out⟩

set_option maxRecDepth 100000 in
theorem lifted (os : Os) (started : os.Started) (H : Type) (enc : TypeId × Value → H) :
    ReturnsInHanded {} Try.checked os 9 .any (Rows.gotDupsSpec.pre6 enc Try.prog Try.f9 Rows.gotDupsRow.domain false) (Rows.gotDupsSpec.post enc Try.prog Try.f9 false true false false) := by
  refine returnsInHanded_of_change_sized (C := Try.checked) own started (by kernel_rfl) Try.func9
    (ChangeSpec.witness6 (enc := enc) (C := Try.checked) false ⟨#[], #[.agg #[.int .u32 0, .slice none 0 0, .slice none 0 0], .int .u32 0, .int .i64 0], []⟩ 8 (by kernel_rfl) (by kernel_rfl) (by kernel_rfl) (by kernel_rfl)) ?_
  intro W base args ds gs before hval0 hW _ hreach _
  have hval : ∀ (j : Nat) t v, Try.f9.params[j]? = some t → args[j]? = some v → Value.okWide Try.prog W .any base t v := hval0
  obtain ⟨p, q, hA0, _, _, _, _⟩ := id hW
  have hA : DataW.TrodAll enc Try.prog W 0 (fun _ => true) true Try.f9.params.toList args.toList ds p := hA0
  rw [Try.params9] at hA hval
  obtain ⟨v0, vs0, d0, ds0, p0, q0, hargs, rfl, rfl, h0, r0⟩ := trodAll_cons hA
  obtain ⟨v1, vs1, d1, ds1, p1, q1, rfl, rfl, rfl, h1, r1⟩ := trodAll_cons r0
  obtain ⟨v2, vs2, d2, ds2, p2, q2, rfl, rfl, rfl, h2, r2⟩ := trodAll_cons r1
  obtain ⟨rfl, rfl, rfl⟩ := trodAll_nil r2
  obtain rfl : args = #[v0, v1, v2] := by cases args; simp_all
  obtain ⟨c0, ab0, du0, va0, vd0, rfl, ra0, rd0⟩ := got_in (hval 0 25 v0 rfl rfl) h0
  obtain ⟨a1, rfl, rfl, rfl, w1⟩ := open_int Try.underlying22 (hval 1 22 v1 rfl rfl) h1
  obtain ⟨n1, _, rfl⟩ := u32_of a1 w1
  obtain ⟨a2, rfl, rfl, rfl, w2⟩ := open_int Try.underlying3 (hval 2 3 v2 rfl rfl) h2
  refine (walk c0 ab0 du0 va0 vd0 n1 a2 W ra0 rd0).mono fun e W' ⟨he, hg⟩ => ?_
  subst he
  exact ⟨_, rfl, law_post laidOut Try.underlying4 (by kernel_rfl) (by kernel_rfl) rfl hW (by simp [Rows.gotDupsSpec]) hg⟩

theorem proved : Rows.GotDupsSaid :=
  OpenClaim.holds_of_wide 9 Try.f9 rfl rfl rfl rfl rfl rfl rfl ⟨rfl, rfl, rfl, rfl, rfl⟩ rfl rfl rfl rfl rfl (by kernel_rfl) Try.func9 (by kernel_rfl)
    (of_decide_eq_true (by kernel_rfl)) (by unfold Func.isWrapper; first | (rw [if_pos (by decide +kernel)]; kernel_rfl) | (rw [if_neg (by decide +kernel)]; exact ⟨rfl, rfl⟩))
    (fun os started H enc _ => lifted os started H enc)
#print axioms proved
end Go.Proofs.Ytfmgfpfaigifaaa.gotDups
