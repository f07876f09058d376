/-
  got.Take, whole; the document's Take: contracts.
-/
import Derived.Test.YtfdnphkdpmlbnaaGg
namespace Go.Proofs.Ytfdnphkdpmlbnaa
open Go.RowKit
set_option linter.unusedVariables false
set_option linter.unusedSimpArgs false
set_option maxRecDepth 100000

theorem within_near {c n : UInt32} (h : 1 ≤ key c n) : within32 (n.toNat : Int) ((c + 1).toNat : Int) ((c + 4000).toNat : Int) = decide (key c n ≤ 4000) := by
  unfold within32 up32
  rw [sub_toNat32, sub_toNat32, decide_eq_decide]
  have e1 : (n - (c + 1)).toNat = key c n - 1 := by
    have := key_shift (f := c) (c := c + 1) (x := n) (by rw [key_next]; exact h)
    rw [key_next] at this
    exact this
  have e2 : (c + 4000 - (c + 1)).toNat = 3999 := by
    have hk : key c (c + 4000) = 4000 := key_add (k := 4000) (by decide)
    have := key_shift (f := c) (c := c + 1) (x := c + 4000) (by rw [key_next, hk]; decide)
    rw [key_next, hk] at this
    exact this
  rw [e1, e2]
  omega
theorem take_any (c : UInt32) (ab du : List UInt32) (ha : ab.length ≤ 1000000) (hd : du.length ≤ 1000000) (va vd : Value) (w : World) (h1 : RowE enc32 w va ab) (h2 : RowE enc32 w vd du) (n : UInt32) (hr : RightG ⟨c, ab, du⟩) : Calls Try.prog 13 #[.agg #[.int .u32 (c.toNat : Int), va, vd], .int .u32 (n.toNat : Int)] w (TookG w (takeG ⟨c, ab, du⟩ n)) := by
  unfold takeG
  cases hh : hasB ⟨c, ab, du⟩ n with
  | true =>
    rw [if_pos rfl]
    by_cases hdu : du.length < 100
    · simp only [hdu, if_true]
      exact take_dup c ab du ha hd va vd w h1 h2 n hh hdu
    · simp only [hdu, if_false]
      exact take_full c ab du ha hd va vd w h1 h2 n hh hdu
  | false =>
    rw [if_neg (by decide)]
    have hk1 : 1 ≤ key c n := (has_right hr hh).1
    by_cases hf : 4000 < key c n
    · rw [if_pos (show 4000 < key (⟨c, ab, du⟩ : Gt).cum n from hf)]
      exact take_far c ab du ha hd va vd w h1 h2 n hh (by rw [within_near hk1]; exact decide_eq_false (by omega))
    · rw [if_neg (show ¬ 4000 < key (⟨c, ab, du⟩ : Gt).cum n from hf)]
      have hw : within32 (n.toNat : Int) ((c + 1).toNat : Int) ((c + 4000).toNat : Int) = true := by rw [within_near hk1]; exact decide_eq_true (by omega)
      by_cases hn : n = c + 1
      · rw [if_pos (show n = (⟨c, ab, du⟩ : Gt).cum + 1 from hn)]
        exact take_next c ab du ha hd va vd w h1 h2 n hh hw hn
      · rw [if_neg (show ¬ n = (⟨c, ab, du⟩ : Gt).cum + 1 from hn)]
        exact take_in c ab du ha hd va vd w h1 h2 n hh hw hn hr (by omega)
/-- A got and a word are handed back: so it reads. -/
def TookR (w : World) (R : Gt × Bool) (e : Ending) (w' : World) : Prop := ∃ va vd, e = .returned (.tuple #[.agg #[.int .u32 (R.1.cum.toNat : Int), va, vd], .bool R.2]) ∧ RowE enc32 w' va R.1.ab ∧ RowE enc32 w' vd R.1.du ∧ Below w.heap.size w w'
theorem RowE.under {B : Nat} {w w' : World} {v : Value} {l : List UInt32} (h : RowE enc32 w v l) (hB : B ≤ w.heap.size) (hb : Below w.heap.size w w') : RowE enc32 w' v l := h.below hb
set_option maxHeartbeats 4000000 in
theorem rtake_full (c : UInt32) (ab du : List UInt32) (ha : ab.length ≤ 1000000) (hd : du.length ≤ 1000000) (va vd : Value) (w : World) (h1 : RowE enc32 w va ab) (h2 : RowE enc32 w vd du) (n : UInt32) (hhas : hasB ⟨c, ab, du⟩ n = true) (hdu : ¬ du.length < 100) : Calls Try.prog 14 #[.agg #[.int .u32 (c.toNat : Int), va, vd], .int .u32 (n.toNat : Int)] w (TookR w (⟨c, ab, du⟩, false)) := by
  have q1 : ¬ (du.length : Int) < 100 := by omega
  have HV0 := Lib.hid h1
  have HD0 := Lib.hid h2
  obtain ⟨W, hW, HA, HZ, HB, hs⟩ := two_open w 28 28 #[.int .u32 (c.toNat : Int), va, vd] #[.int .u32 0, .slice none 0 0, .slice none 0 0]
  have HV := Lib.hid (h1.below HB.out)
  have HD := Lib.hid (h2.below HB.out)
  have HHS := Lib.hid (fun W h h' => rhas_any c ab du ha hd va vd W h h' n)
  rw [hhas] at HHS
  obtain ⟨A, k, rfl, -, -, -⟩ := id HV.out
  obtain ⟨A', k', rfl, -, -, -⟩ := id HD.out
  clear h1 h2
  go_enter Try.func14, Try.ntmps14
  go_wp2_with (first
    | ((with_reducible refine gate9 ?_); refine ldB (ty := 28) rfl rfl rfl HA.out Try.underlying28 rfl infoR ?_)
    | (go_at_call 17; (with_reducible refine (HHS.out _ HV.out HD.out).mono ?_); rintro e w5 ⟨rfl, hb⟩; replace HA := Lib.hid (HA.out.later hb); replace HZ := Lib.hid (HZ.out.later hb); replace HV := Lib.hid (HV.out.below hb); replace HD := Lib.hid (HD.out.below hb); replace HB := Lib.hid (HB.out.trans (hb.mono HB.out.size)); have c0 := HA.out.cell 0 (.int .u32 (c.toNat : Int)) rfl; have c1 := HA.out.cell 1 (.slice A ab.length k) rfl; have c2 := HA.out.cell 2 (.slice A' du.length k') rfl; clear hb HHS)
    | ((with_reducible refine gate9 ?_); refine stB (ty := 28) #[.int .u32 (c.toNat : Int), .slice A ab.length k, .slice A' du.length k'] rfl rfl rfl rfl HZ.out infoR rfl (cellsG_one _ _ _ _ _ _ _) ?_; intro w9 ht hg; replace HB := Lib.hid (below_of_grown1 HB.out hg HB.out.size (by omega)); replace HZ := Lib.hid ht; clear ht hg))
  exact bodyPost_ret (retR1 rfl rfl rfl rfl HZ.out) rfl ⟨_, _, rfl, HV0.out.below HB.out, HD0.out.below HB.out, HB.out⟩
set_option maxHeartbeats 4000000 in
theorem rtake_far (c : UInt32) (ab du : List UInt32) (ha : ab.length ≤ 1000000) (hd : du.length ≤ 1000000) (va vd : Value) (w : World) (h1 : RowE enc32 w va ab) (h2 : RowE enc32 w vd du) (n : UInt32) (hhas : hasB ⟨c, ab, du⟩ n = false) (hf : 4000 < key c n) : Calls Try.prog 14 #[.agg #[.int .u32 (c.toNat : Int), va, vd], .int .u32 (n.toNat : Int)] w (TookR w (⟨c, ab, du⟩, false)) := by
  have HV0 := Lib.hid h1
  have HD0 := Lib.hid h2
  have s1 : ((n.toNat : Int) - (c.toNat : Int)) % 4294967296 = (key c n : Int) := sub_toNat32 n c
  have q1 : (4000 : Int) < (key c n : Int) := by omega
  clear hf
  generalize key c n = kn at *
  obtain ⟨W, hW, HA, HZ, HB, hs⟩ := two_open w 28 28 #[.int .u32 (c.toNat : Int), va, vd] #[.int .u32 0, .slice none 0 0, .slice none 0 0]
  have HV := Lib.hid (h1.below HB.out)
  have HD := Lib.hid (h2.below HB.out)
  have HHS := Lib.hid (fun W h h' => rhas_any c ab du ha hd va vd W h h' n)
  rw [hhas] at HHS
  obtain ⟨A, k, rfl, -, -, -⟩ := id HV.out
  obtain ⟨A', k', rfl, -, -, -⟩ := id HD.out
  clear h1 h2
  go_enter Try.func14, Try.ntmps14
  go_wp2_with (first
    | ((with_reducible refine gate9 ?_); refine ldB (ty := 28) rfl rfl rfl HA.out Try.underlying28 rfl infoR ?_)
    | (go_at_call 17; (with_reducible refine (HHS.out _ HV.out HD.out).mono ?_); rintro e w5 ⟨rfl, hb⟩; replace HA := Lib.hid (HA.out.later hb); replace HZ := Lib.hid (HZ.out.later hb); replace HV := Lib.hid (HV.out.below hb); replace HD := Lib.hid (HD.out.below hb); replace HB := Lib.hid (HB.out.trans (hb.mono HB.out.size)); have c0 := HA.out.cell 0 (.int .u32 (c.toNat : Int)) rfl; have c1 := HA.out.cell 1 (.slice A ab.length k) rfl; have c2 := HA.out.cell 2 (.slice A' du.length k') rfl; clear hb HHS)
    | ((with_reducible refine gate9 ?_); refine stB (ty := 28) #[.int .u32 (c.toNat : Int), .slice A ab.length k, .slice A' du.length k'] rfl rfl rfl rfl HZ.out infoR rfl (cellsG_one _ _ _ _ _ _ _) ?_; intro w9 ht hg; replace HB := Lib.hid (below_of_grown1 HB.out hg HB.out.size (by omega)); replace HZ := Lib.hid ht; clear ht hg))
  exact bodyPost_ret (retR1 rfl rfl rfl rfl HZ.out) rfl ⟨_, _, rfl, HV0.out.below HB.out, HD0.out.below HB.out, HB.out⟩
def cumOf (g : Nat) (W : World) : Nat := match W.cell? ⟨g, 0, none⟩ with
  | some (.int _ z) => z.toNat
  | _ => 0
theorem mem_near {g : Gt} (hr : RightG g) {n : UInt32} (h1 : 1 ≤ key g.cum n) (h2 : key g.cum n ≤ 4000) : ∀ x ∈ g.ab ++ [n], 1 ≤ key g.cum x ∧ key g.cum x ≤ 4000 := fun x hx => by
  rcases List.mem_append.1 hx with hx | hx
  · have := hr.near x hx; omega
  · rw [List.mem_singleton.1 hx]; exact ⟨h1, h2⟩
theorem fedRow {w : World} {A : Option Addr} {k : Nat} {l : List UInt32} (h : RowE enc32 w (.slice A l.length k) l) : Fed Try.prog w 1 (.slice A l.length k) l.length (l.map enc32) := by
  cases A with
  | none =>
    obtain ⟨A', cap', hv, _, _, hc⟩ := id h
    cases hv
    have h0 : l.length = 0 := by
      by_cases h1 : 0 < l.length
      · obtain ⟨b, off, e, _⟩ := hc h1
        cases e
      · omega
    obtain rfl : l = [] := List.eq_nil_of_length_eq_zero h0
    exact fed_none _ _
  | some a => exact Fed.cells (by simp) (oneE l) (fedE h)
set_option maxHeartbeats 4000000 in
theorem rtake_dup (c : UInt32) (ab du : List UInt32) (ha : ab.length ≤ 1000000) (hd : du.length ≤ 1000000) (va vd : Value) (w : World) (h1 : RowE enc32 w va ab) (h2 : RowE enc32 w vd du) (n : UInt32) (hhas : hasB ⟨c, ab, du⟩ n = true) (hdu : du.length < 100) : Calls Try.prog 14 #[.agg #[.int .u32 (c.toNat : Int), va, vd], .int .u32 (n.toNat : Int)] w (TookR w (⟨c, ab, du ++ [n]⟩, false)) := by
  have q1 : (du.length : Int) < 100 := by omega
  have HV0 := Lib.hid h1
  have HD0 := Lib.hid h2
  obtain ⟨i0, hi0, hz0, hz1, hz2⟩ := info_parts infoUZ
  have HI := Lib.hid hi0
  have HZ0 := Lib.hid hz0
  have HZ1 := Lib.hid hz1
  have HZ2 := Lib.hid hz2
  clear hi0 hz0 hz1 hz2
  obtain ⟨W, hW, HA, HZ, HB, hs⟩ := two_open w 28 28 #[.int .u32 (c.toNat : Int), va, vd] #[.int .u32 0, .slice none 0 0, .slice none 0 0]
  have HV := Lib.hid (h1.below HB.out)
  have HD := Lib.hid (h2.below HB.out)
  have HHS := Lib.hid (fun W h h' => rhas_any c ab du ha hd va vd W h h' n)
  rw [hhas] at HHS
  obtain ⟨A, k, rfl, -, -, -⟩ := id HV.out
  obtain ⟨A', k', rfl, -, -, -⟩ := id HD.out
  clear h1 h2
  go_enter Try.func14, Try.ntmps14
  have HFB := Lib.hid (fun W h => fedRow (w := W) (A := A') (k := k') (l := du) h)
  go_wp2_with (first
    | ((with_reducible refine gate9 ?_); refine ldB (ty := 28) rfl rfl rfl HA.out Try.underlying28 rfl infoR ?_))
  refine (HHS.out _ HV.out HD.out).mono ?_
  rintro e w5 ⟨rfl, hb⟩
  have hsz : w.heap.size + 2 ≤ w5.heap.size := by have := hb.size; omega
  replace HA := Lib.hid (HA.out.later hb); replace HZ := Lib.hid (HZ.out.later hb); replace HV := Lib.hid (HV.out.below hb); replace HD := Lib.hid (HD.out.below hb); replace HB := Lib.hid (HB.out.trans (hb.mono HB.out.size)); 
  have c0 := HA.out.cell 0 (.int .u32 (c.toNat : Int)) rfl; have c1 := HA.out.cell 1 (.slice A ab.length k) rfl; have c2 := HA.out.cell 2 (.slice A' du.length k') rfl; 
  clear hb HHS hW
  have HA5 := HA
  have HZ5 := HZ
  have HB5 := HB
  obtain ⟨W6, hW6, HX6, HB6, hs6⟩ := one_open w5 22 (#[])
  have hx6 := HB6.out.size
  replace HA := Lib.hid (HA.out.later HB6.out); replace HZ := Lib.hid (HZ.out.later HB6.out); replace HV := Lib.hid (HV.out.below HB6.out); replace HD := Lib.hid (HD.out.below HB6.out); replace HB := Lib.hid (HB.out.trans (HB6.out.mono HB.out.size)); 
  have e2 := HA.out.cell 2 (.slice A' du.length k') rfl
  have HO6 := Lib.hid (OwnG.of (own_none (size := 1) HX6.out (Nat.le_refl w5.heap.size)))
  go_wp2_with (first
    | (at_builtin; refine wpList_append_fed _ rfl (.tmp 15) (.tmp 17) 23 23 rfl w5.heap.size 22 i0 _ 1 4 Try.underlying23 (.inr ⟨_, Try.underlying23⟩) HI.out HZ0.out HZ1.out HZ2.out rfl _ 0 [] rfl HO6.out (.slice A' du.length k') du.length (du.map enc32) rfl (HFB.out _ HD.out) (by unfold maxLen; omega) (by omega) (by omega) ?_; intro v7 w7 hown hgr; have HO7 := Lib.hid hown; have HBY := Lib.hid (HB6.out.grown hgr (by omega) (fun k hk => by cases hk; exact Nat.le_refl _)); replace HA := Lib.hid (HA5.out.later HBY.out); replace HZ := Lib.hid (HZ5.out.later HBY.out); replace HB := Lib.hid (HB5.out.trans (HBY.out.mono (by omega))); clear hown hgr e2 c0 c1 c2; obtain ⟨W8, hW8, HX8, HB8, hs8⟩ := one_open w7 22 (#[.int .u32 (n.toNat : Int)]); have hx8 := HB8.out.size; have hy8 := HBY.out.size; replace HA := Lib.hid (HA.out.later HB8.out); replace HZ := Lib.hid (HZ.out.later HB8.out); replace HB := Lib.hid (HB.out.trans (HB8.out.mono HB.out.size)); have HO8 := Lib.hid (HO7.out.later HB8.out))
    | (at_builtin; refine wpList_append_fed _ rfl (.tmp 18) (.tmp 20) 23 23 rfl w5.heap.size 22 i0 _ 1 4 Try.underlying23 (.inr ⟨_, Try.underlying23⟩) HI.out HZ0.out HZ1.out HZ2.out rfl _ (0 + du.length) _ rfl HO8.out (.slice (some ⟨w7.heap.size, 0, none⟩) 1 1) 1 [.int .u32 (n.toNat : Int)] rfl (Fed.block HX8.out rfl (by intro u hu; simp at hu; subst hu; rfl)) (by unfold maxLen; omega) (by omega) (by omega) ?_; intro v9 w9 hown hgr; have HBZ := Lib.hid ((Below.refl w5.heap.size _).grown hgr (by omega) (fun k hk => (HO8.out.lt k hk).1)); replace HA := Lib.hid (HA.out.under HBZ.out (by omega)); replace HZ := Lib.hid (HZ.out.under HBZ.out (by omega)); replace HB := Lib.hid (HB.out.trans (HBZ.out.mono (by omega))); rw [Nat.zero_add] at hown; have HF9 := Lib.hid (freshE_ownG hown); rw [show ([] ++ List.map enc32 du) ++ [Value.int .u32 (n.toNat : Int)] = (du ++ [n]).map enc32 from by rw [List.nil_append, List.map_append]; rfl] at hown; have HR9 := Lib.hid (rowE_of_ownG hown); have hz9 := HBZ.out.size; obtain ⟨A9, k9, rfl, -, -, -⟩ := hown.slice; clear hown hgr)
    | ((with_reducible refine gate9 ?_); refine stF (.slice A9 (du.length + 1) k9) rfl rfl rfl rfl HA.out (by show 2 < 3; decide) infoS rfl ?_; intro w10 ht hg; replace HR9 := Lib.hid (HR9.out.stays HF9.out hg (by omega)); replace HZ := Lib.hid (HZ.out.kept hg (by omega)); replace HB := Lib.hid (below_of_grown1 HB.out hg HB.out.size (by omega)); replace HA := Lib.hid ht; clear ht hg)
    | ((with_reducible refine gate9 ?_); refine ldB (ty := 28) rfl rfl rfl HA.out Try.underlying28 rfl infoR ?_)
    | ((with_reducible refine gate9 ?_); refine stB (ty := 28) #[.int .u32 (c.toNat : Int), .slice A ab.length k, .slice A9 (du.length + 1) k9] rfl rfl rfl rfl HZ.out infoR rfl (cellsG_one _ _ _ _ _ _ _) ?_; intro w11 ht hg; replace HR9 := Lib.hid (HR9.out.stays HF9.out hg (by omega)); replace HB := Lib.hid (below_of_grown1 HB.out hg HB.out.size (by omega)); replace HZ := Lib.hid ht; clear ht hg))
  exact bodyPost_ret (retR1 rfl rfl rfl rfl HZ.out) rfl ⟨_, _, rfl, HV0.out.below HB.out, by first | exact HR9.out | (have h9 := HR9.out; simpa using h9), HB.out⟩
end Go.Proofs.Ytfdnphkdpmlbnaa
