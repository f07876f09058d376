/-
  What is read of bytes: a contract. What is read of bytes: a contract (the walk).
-/
import Derived.Test.YtlbaockipeojhaaGreatPc
import Derived.Test.YtlbaockipeojhaaGreatPkBuild
import Derived.Test.YtlbaockipeojhaaGreatNum8
import Derived.BigRegion
section
namespace Go.Proofs.YtlbaockipeojhaaGreat
open Go.RowKit
set_option linter.unusedVariables false
set_option linter.unusedSimpArgs false
set_option maxRecDepth 100000

theorem fit_ok {c : Ck} (hw : WfC c) (h : (buildC c).2 = 0) : FitC c := by
  obtain ⟨b1, b2, b3, b4, b5⟩ := ok_bounds h
  exact ⟨hw, by omega, by omega, by omega, fun x hx => by have := b4 x hx; omega, by omega⟩
theorem parseP_1 {s : ByteArray} (h : 1500 < s.size) : parseP s = (zeroP, 4) := by unfold parseP; rw [if_pos h]
theorem parseP_2 {s : ByteArray} (h : s.size ≤ 1500) (h2 : checked s ≠ 0) : parseP s = (zeroP, (checked s).toNat) := by unfold parseP; rw [if_neg (by omega), if_pos h2]
theorem parseP_3 {s : ByteArray} (h : s.size ≤ 1500) (h2 : checked s = 0) (h3 : (walkC s.size [] (cutB s 12)).2 ≠ 0) : parseP s = (zeroP, (walkC s.size [] (cutB s 12)).2) := by
  unfold parseP; rw [if_neg (by omega), if_neg (by rw [h2]; simp), if_pos h3]
theorem parseP_4 {s : ByteArray} (h : s.size ≤ 1500) (h2 : checked s = 0) (h3 : (walkC s.size [] (cutB s 12)).2 = 0) : parseP s = if (buildP (readP s)).2 = 0 then (readP s, 0) else (zeroP, 2) := by
  unfold parseP; rw [if_neg (by omega), if_neg (by rw [h2]; simp), if_neg (by omega)]
theorem walkC_fuel : ∀ (n m : Nat) (acc : List Ck) (s : ByteArray), s.size ≤ n → s.size ≤ m → walkC n acc s = walkC m acc s
  | 0, m, acc, s, hn, hm => by
    rw [walkC_end _ _ (by omega), walkC_end _ _ (by omega)]
  | n + 1, 0, acc, s, hn, hm => by
    rw [walkC_end _ _ (by omega), walkC_end _ _ (by omega)]
  | n + 1, m + 1, acc, s, hn, hm => by
    unfold walkC
    split
    · rfl
    · split
      · rfl
      · rename_i h1 h2
        have he : (parseC s).2.2 = 0 := by omega
        obtain ⟨_, _, a3, _, _, a6, a7⟩ := chunk_again he
        have := cut_size s (parseC s).2.1
        exact walkC_fuel n m _ _ (by omega) (by omega)
theorem walkC_len : ∀ (n : Nat) (acc : List Ck) (s : ByteArray), (walkC n acc s).1.length ≤ acc.length + s.size
  | 0, acc, s => by unfold walkC; exact Nat.le_add_right _ _
  | n + 1, acc, s => by
    unfold walkC
    split
    · exact Nat.le_add_right _ _
    · split
      · exact Nat.zero_le _
      · rename_i h1 h2
        have he : (parseC s).2.2 = 0 := by omega
        obtain ⟨_, _, a3, _, _, a6, a7⟩ := chunk_again he
        have h3 := cut_size s (parseC s).2.1
        have h4 := walkC_len n (acc ++ [(parseC s).1]) (cutB s (parseC s).2.1)
        rw [List.length_append, List.length_singleton] at h4
        omega
theorem cut_take (s : ByteArray) (a b : Nat) (i : Nat) (h : a + i < b) (hb : b ≤ s.size) : byteAt (s.extract a b).data.toList i = byteAt s.data.toList (a + i) := by
  rw [cut_list]
  unfold byteAt
  rw [getD_take _ _ (by omega), List.getD_eq_getElem?_getD, List.getD_eq_getElem?_getD, List.getElem?_drop]
theorem cut_num (s : ByteArray) (a b : Nat) (h : a + 2 = b) (hb : b ≤ s.size) : num (s.extract a b).data.toList 0 = num s.data.toList a := by
  unfold num
  rw [cut_take s a b 0 (by omega) hb, cut_take s a b (0 + 1) (by omega) hb]
  rfl
theorem cut_num4 (s : ByteArray) (a b : Nat) (h : a + 4 = b) (hb : b ≤ s.size) : num4 (s.extract a b).data.toList 0 = num4 s.data.toList a := by
  unfold num4 num
  rw [cut_take s a b 0 (by omega) hb, cut_take s a b (0 + 1) (by omega) hb, cut_take s a b (0 + 2) (by omega) hb, cut_take s a b (0 + 2 + 1) (by omega) hb]
  rfl
/-- The packet to be handed back, and the chunks that were read. -/
structure PrS (w : World) (V : Value) (lv : List Cv) (W : World) : Prop where
  own : W.heap[w.heap.size]? = some (.cells #[.int .u16 0, .int .u16 0, .int .u32 0, .slice none 0 0] 26 (0, 0))
  rk : RkB (w.heap.size + 1) W V lv
  below : Below w.heap.size w W
theorem PrS.later {w W W' : World} {V : Value} {lv : List Cv} (h : PrS w V lv W) (hb : Below W.heap.size W W') : PrS w V lv W' :=
  ⟨(hb.block _ (Array.getElem?_eq_some_iff.1 h.own).1).trans h.own, h.rk.later hb, h.below.trans (hb.mono h.below.size)⟩
theorem PrS.gone {w W : World} {V : Value} {lv : List Cv} (h : PrS w V lv W) (cs : Array Value) : Rk (W.setRow w.heap.size cs) V lv :=
  h.rk _ (by simp) fun j hj _ => setRow_other _ _ _ _ (by omega)
end Go.Proofs.YtlbaockipeojhaaGreat
end
section
namespace Go.Proofs.YtlbaockipeojhaaGreat
open Go.RowKit
set_option linter.unusedVariables false
set_option linter.unusedSimpArgs false
set_option maxRecDepth 100000

theorem zp_one : (#[.int .u16 0, .int .u16 0, .int .u32 0, .slice none 0 0] : Array Value).all (·.oneCell') = true := by kernel_rfl
theorem checked_nat (s : ByteArray) : checked s = (((checked s).toNat : Nat) : Int) := by
  rcases checked_cases s with h | h | h <;> rw [h.1] <;> rfl
set_option maxHeartbeats 16000000 in
theorem pparse_any (s : ByteArray) (hs : s.size ≤ 100000) (w : World) :
    Calls Tryz.prog 14 #[.string s] w fun e w' => ∃ V lv, e = .returned (.tuple #[.agg (cellsP (parseP s).1.f (parseP s).1.t (parseP s).1.g V), .int .i64 ((parseP s).2 : Nat)]) ∧ Rk w' V lv ∧ ckV lv = (parseP s).1.l ∧ Below w.heap.size w w' := by
  have HPS := Lib.hid pkSize
  have HZ1 := Lib.hid zp_one
  have HX := Lib.hid (heap_alloc_new w (.cells #[.int .u16 0, .int .u16 0, .int .u32 0, .slice none 0 0] 26))
  have HB := Lib.hid ((Below.refl w.heap.size w).alloc (Nat.le_refl _) (.cells #[.int .u16 0, .int .u16 0, .int .u32 0, .slice none 0 0] 26))
  have HCK := Lib.hid (fun W => check_any s (by omega) W)
  by_cases h1 : 1500 < s.size
  · have HP := Lib.hid (parseP_1 h1)
    have z : decide ((1500 : Int) < (s.size : Int)) = true := decide_eq_true (by omega)
    generalize parseP s = R at *
    go_enter Tryz.func14, Tryz.ntmps14
    go_wp2_with (first
      | (refine wpList_store_row rfl 26 (.tmp 2) (.tmp 11) rfl w.heap.size #[.int .u16 0, .int .u16 0, .int .u32 0, .slice none 0 0] rfl rfl 26 _ HX.out HPS.out rfl HZ1.out ?_; rw [World.setRow_alloc_new]))
    have hR := HP.out
    subst hR
    exact bodyPost_ret (results_pk1 (P := Tryz.prog) rfl _ _ w.heap.size 26 #[.int .u16 0, .int .u16 0, .int .u32 0, .slice none 0 0] (0, 0) _ rfl HX.out Tryz.underlying26 rfl HPS.out) rfl ⟨_, [], rfl, Rk.nil _, rfl, HB.out⟩
  have h1' : s.size ≤ 1500 := by omega
  have z : decide ((1500 : Int) < (s.size : Int)) = false := decide_eq_false (by omega)
  have hlt0 : w.heap.size < (w.alloc (.cells #[.int .u16 0, .int .u16 0, .int .u32 0, .slice none 0 0] 26)).heap.size := by rw [World.size_alloc]; omega
  by_cases h2 : checked s = 0
  case neg =>
    have HP := Lib.hid (parseP_2 h1' h2)
    have hcn := checked_nat s
    have z2 : ((checked s) != 0) = true := bne_iff_ne.2 h2
    generalize parseP s = R at *
    generalize (checked s).toNat = cn at *
    go_enter Tryz.func14, Tryz.ntmps14
    go_wp2_with fail
    refine (HCK.out _).mono ?_
    rintro _ w1 ⟨rfl, hb1⟩
    have HX1 := Lib.hid ((hb1.block _ hlt0).trans HX.out)
    have HB1 := Lib.hid (HB.out.trans (hb1.mono HB.out.size))
    clear hb1
    go_wp2_with (first
      | (refine wpList_store_row rfl 26 (.tmp 2) (.tmp 16) rfl w.heap.size #[.int .u16 0, .int .u16 0, .int .u32 0, .slice none 0 0] rfl rfl 26 _ HX1.out HPS.out rfl HZ1.out ?_))
    have hR := HP.out
    subst hR
    exact bodyPost_ret (results_pk1 (P := Tryz.prog) rfl _ _ w.heap.size 26 #[.int .u16 0, .int .u16 0, .int .u32 0, .slice none 0 0] (0, 0) _ rfl (setRow_heap _ _ _ _ _ _ HX1.out) Tryz.underlying26 rfl HPS.out) rfl ⟨_, [], rfl, Rk.nil _, rfl, below_setRow HB1.out (Nat.le_refl _) _⟩
  have h12 : 12 ≤ s.size := by rcases checked_cases s with h | h | h <;> omega
  have z3 : (12 : Int) ≤ (s.size : Int) := by omega
  have hci := cut_is s 12
  have hcz := cut_size s 12
  have hfu := walkC_fuel s.size (cutB s 12).size [] (cutB s 12) (by omega) (Nat.le_refl _)
  have HPC := Lib.hid (fun W => pchunks_any (cutB s 12) (by omega) W)
  rw [h2] at HCK
  rw [← hfu] at HPC
  by_cases h3 : (walkC s.size [] (cutB s 12)).2 = 0
  case neg =>
    have HP := Lib.hid (parseP_3 h1' h2 h3)
    have z4 : (((walkC s.size [] (cutB s 12)).2 : Nat) : Int) ≠ 0 := by omega
    generalize parseP s = R at *
    clear hfu hcz
    generalize walkC s.size [] (cutB s 12) = Q at *
    generalize cutB s 12 = s2 at *
    obtain ⟨ql, qe⟩ := Q
    dsimp only at HP HPC z4
    go_enter Tryz.func14, Tryz.ntmps14
    go_wp2_with fail
    refine (HCK.out _).mono ?_
    rintro _ w1 ⟨rfl, hb1⟩
    have HX1 := Lib.hid ((hb1.block _ hlt0).trans HX.out)
    have HB1 := Lib.hid (HB.out.trans (hb1.mono HB.out.size))
    have hlt1 := (Array.getElem?_eq_some_iff.1 HX1.out).1
    clear hb1
    go_wp2_with fail
    refine (HPC.out _).mono ?_
    rintro _ w2 ⟨v, lv, rfl, -, -, hb2⟩
    have HX2 := Lib.hid ((hb2.block _ hlt1).trans HX1.out)
    have HB2 := Lib.hid (HB1.out.trans (hb2.mono HB1.out.size))
    clear hb2
    go_wp2_with (first
      | (refine wpList_store_row rfl 26 (.tmp 2) (.tmp 26) rfl w.heap.size #[.int .u16 0, .int .u16 0, .int .u32 0, .slice none 0 0] rfl rfl 26 _ HX2.out HPS.out rfl HZ1.out ?_))
    have hR := HP.out
    subst hR
    exact bodyPost_ret (results_pk1 (P := Tryz.prog) rfl _ _ w.heap.size 26 #[.int .u16 0, .int .u16 0, .int .u32 0, .slice none 0 0] (0, 0) _ rfl (setRow_heap _ _ _ _ _ _ HX2.out) Tryz.underlying26 rfl HPS.out) rfl ⟨_, [], rfl, Rk.nil _, rfl, below_setRow HB2.out (Nat.le_refl _) _⟩
  have HP := Lib.hid (parseP_4 h1' h2 h3)
  have hfine := walkC_fine s.size [] (cutB s 12) (by simp)
  have hql := walkC_len s.size [] (cutB s 12)
  rw [hcz] at hql
  have hrd : readP s = ⟨num s.data.toList 0, num s.data.toList 2, num4 s.data.toList 4, (walkC s.size [] (cutB s 12)).1⟩ := rfl
  have HN1 := Lib.hid (fun W => pnumber_2 (s.extract 0 2) (by rw [ByteArray.size_extract]; omega) W)
  have HN2 := Lib.hid (fun W => pnumber_2 (s.extract 2 4) (by rw [ByteArray.size_extract]; omega) W)
  have HN3 := Lib.hid (fun W => pnumber_4 (s.extract 4 8) (by rw [ByteArray.size_extract]; omega) W)
  rw [cut_num s 0 2 rfl (by omega)] at HN1
  rw [cut_num s 2 4 rfl (by omega)] at HN2
  rw [cut_num4 s 4 8 rfl (by omega)] at HN3
  have hx1 := num_lt s.data.toList 0
  have hx2 := num_lt s.data.toList 2
  have hx3 := num4_lt s.data.toList 4
  generalize num s.data.toList 0 = x1 at *
  generalize num s.data.toList 2 = x2 at *
  generalize num4 s.data.toList 4 = x3 at *
  generalize readP s = rp at *
  generalize parseP s = R at *
  clear hfu hcz
  generalize walkC s.size [] (cutB s 12) = Q at *
  generalize cutB s 12 = s2 at *
  obtain ⟨ql, qe⟩ := Q
  dsimp only at HP HPC h3 hfine hrd hql
  have HQL := Lib.hid (show ql.length ≤ 100000 by simp only [List.length_nil] at hql; omega)
  clear hql
  subst h3
  have HRD := Lib.hid hrd
  have HFI := Lib.hid hfine
  have y1 : IntKind.u16.wrap (x1 : Int) = (x1 : Int) := by rw [IntKind.wrap_u16]; omega
  have y2 : IntKind.u16.wrap (x2 : Int) = (x2 : Int) := by rw [IntKind.wrap_u16]; omega
  have y1' : (x1 : Int) % 65536 = (x1 : Int) := by omega
  have y2' : (x2 : Int) % 65536 = (x2 : Int) := by omega
  have z5 : (2 : Int) ≤ (s.size : Int) := by omega
  have z6 : (4 : Int) ≤ (s.size : Int) := by omega
  have z7 : (8 : Int) ≤ (s.size : Int) := by omega
  clear hrd hfine h1 h2
  go_enter Tryz.func14, Tryz.ntmps14
  go_wp2_with fail
  refine (HCK.out _).mono ?_
  rintro _ w1 ⟨rfl, hb1⟩
  have HX1 := Lib.hid ((hb1.block _ hlt0).trans HX.out)
  have HB1 := Lib.hid (HB.out.trans (hb1.mono HB.out.size))
  have hlt1 := (Array.getElem?_eq_some_iff.1 HX1.out).1
  clear hb1
  go_wp2_with fail
  refine (HPC.out _).mono ?_
  rintro _ w2 ⟨v, lv, rfl, hrk, hck, hb2⟩
  obtain ⟨VA, vk, rfl, -⟩ := hrk.now.slice
  have HS := Lib.hid (show PrS w (.slice VA lv.length vk) lv w2 from ⟨(hb2.block _ hlt1).trans HX1.out, hrk.base (by omega), HB1.out.trans (hb2.mono HB1.out.size)⟩)
  clear hrk hb2 HX1 HB1 HX HB HCK HPC hlt0 hlt1
  go_wp2_with fail
  refine wp_region_noPanic ?_
  refine wp_region_held_drew (S := (PrS w (.slice VA lv.length vk) lv)) (by kernel_rfl) ?_ (fun hHeld => ?_)
  · exact HS.out.later (Below.refl _ _).drew
  refine k9 0 ?_ (y := ?_) (h := ?_)
  rotate_left 1
  · (intro w' hSw; (try dsimp only at hSw); go_simp; try with_reducible rfl)
  try simp only [Act.put, p9a, p9z, p9s]
  refine k9 1 ?_ (y := ?_) (h := ?_)
  rotate_left 1
  · (intro w' hSw; (try dsimp only at hSw); go_simp; try with_reducible rfl)
  try simp only [Act.put, p9a, p9z, p9s]
  refine k9 4 ?_ (y := ?_) (h := ?_)
  rotate_left 1
  · (intro w' hSw; (try dsimp only at hSw); go_simp; try with_reducible rfl)
  try simp only [Act.put, p9a, p9z, p9s]
  refine k9 5 ?_ (y := ?_) (h := ?_)
  rotate_left 1
  · (intro w' hSw; (try dsimp only at hSw); go_simp; try with_reducible rfl)
  try simp only [Act.put, p9a, p9z, p9s]
  refine k9 8 ?_ (y := ?_) (h := ?_)
  rotate_left 1
  · (intro w' hSw; (try dsimp only at hSw); go_simp; try with_reducible rfl)
  try simp only [Act.put, p9a, p9z, p9s]
  refine k9 9 ?_ (y := ?_) (h := ?_)
  rotate_left 1
  · (intro w' hSw; (try dsimp only at hSw); go_simp; try with_reducible rfl)
  try simp only [Act.put, p9a, p9z, p9s]
  refine k9 11 ?_ (y := ?_) (h := ?_)
  rotate_left 1
  · (intro w' hSw; (try dsimp only at hSw); go_simp; try with_reducible rfl)
  try simp only [Act.put, p9a, p9z, p9s]
  refine wpAnyH_ready (rs := [2, 13]) (by kernel_rfl) (by simp) ?_
  refine AllReadyH.cons (by simp only [q9a, q9s, q9z]; rfl) (fun K hK => ?_) ?_
  · skip
    go_simp
    refine (HN1.out _).mono ?_
    rintro _ w12 ⟨rfl, rfl⟩
    have hS := hHeld
    clear hHeld
    go_wp2_with fail
    refine hK.out _ _ ?_ (fun hHeld => ?_)
    · exact hS
    clear hK K
    try simp only [Act.put, p9a, p9z, p9s]
    refine k9 3 ?_ (y := ?_) (h := ?_)
    rotate_left 1
    · (intro w' hSw; (try dsimp only at hSw); go_simp; try with_reducible rfl)
    try simp only [Act.put, p9a, p9z, p9s]
    refine wpAnyH_ready (rs := [6, 13]) (by kernel_rfl) (by simp) ?_
    refine AllReadyH.cons (by simp only [q9a, q9s, q9z]; rfl) (fun K hK => ?_) ?_
    · skip
      go_simp
      refine (HN2.out _).mono ?_
      rintro _ w16 ⟨rfl, rfl⟩
      have hS := hHeld
      clear hHeld
      go_wp2_with fail
      refine hK.out _ _ ?_ (fun hHeld => ?_)
      · exact hS
      clear hK K
      try simp only [Act.put, p9a, p9z, p9s]
      refine k9 7 ?_ (y := ?_) (h := ?_)
      rotate_left 1
      · (intro w' hSw; (try dsimp only at hSw); go_simp; try with_reducible rfl)
      try simp only [Act.put, p9a, p9z, p9s]
      refine wpAnyH_ready (rs := [10, 13]) (by kernel_rfl) (by simp) ?_
      refine AllReadyH.cons (by simp only [q9a, q9s, q9z]; rfl) (fun K hK => ?_) ?_
      · skip
        go_simp
        refine (HN3.out _).mono ?_
        rintro _ w20 ⟨rfl, rfl⟩
        have hS := hHeld
        clear hHeld
        go_wp2_with fail
        refine hK.out _ _ ?_ (fun hHeld => ?_)
        · exact hS
        clear hK K
        try simp only [Act.put, p9a, p9z, p9s]
        refine k9 12 ?_ (y := ?_) (h := ?_)
        rotate_left 1
        · (intro w' hSw; (try dsimp only at hSw); go_simp; try with_reducible rfl)
        try simp only [Act.put, p9a, p9z, p9s]
        refine wpAnyH_ready (rs := [13]) (by kernel_rfl) (by simp) ?_
        refine AllReadyH.cons (by simp only [q9a, q9s, q9z]; rfl) (fun K hK => ?_) AllReadyH.nil
        have hS := hHeld.later ((Below.refl _ _).alloc (Nat.le_refl _) (.cells #[.int .u16 0, .int .u16 0, .int .u32 0, .slice none 0 0] 26))
        clear hHeld
        go_simp
        refine hK.out _ _ ?_ (fun hHeld => ?_)
        · exact hS
        clear hK K
        try simp only [Act.put, p9a, p9z, p9s]
        refine wpAnyH_ready (rs := [14]) (by kernel_rfl) (by simp) ?_
        refine AllReadyH.cons (by simp only [q9a, q9s, q9z]; rfl) (fun K hK => ?_) AllReadyH.nil
        have hS := HS.out.later (((Below.refl _ w2).drew).alloc (Nat.le_refl _) (.cells #[.int .u16 (x1 : Int), .int .u16 (x2 : Int), .int .u32 (x3 : Int), .slice VA lv.length vk] 26))
        clear hHeld
        go_simp
        refine hK.out _ _ ?_ (fun hHeld => ?_)
        · exact hS
        clear hK K
        try simp only [Act.put, p9a, p9z, p9s]
        refine wpAnyH_done (by kernel_rfl) ?_ _
        refine NoPanic.normal ?_
        have HE := Lib.hid hS
        have hE2 : (w2.drew.alloc (.cells #[.int .u16 (x1 : Int), .int .u16 (x2 : Int), .int .u32 (x3 : Int), .slice VA lv.length vk] 26)).heap[w2.heap.size]? = some (.cells #[.int .u16 (x1 : Int), .int .u16 (x2 : Int), .int .u32 (x3 : Int), .slice VA lv.length vk] 26 (0, 0)) := heap_alloc_new w2.drew (.cells #[.int .u16 (x1 : Int), .int .u16 (x2 : Int), .int .u32 (x3 : Int), .slice VA lv.length vk] 26)
        clear hHeld hS
        have HFT : Hid (∀ x ∈ lv, FitC x.c) := Lib.hid (fun x hx => by
          have hm : x.c ∈ ql := by rw [← hck]; exact List.mem_map.2 ⟨x, hx, rfl⟩
          exact fit_ok (HFI.out _ hm).1 (HFI.out _ hm).2)
        have hlv : lv.length ≤ 100000 := by have hcl : (ckV lv).length = lv.length := (by simp [ckV]); rw [← hcl, hck]; exact HQL.out
        have HRT := Lib.hid (fun W hW => pright_any x1 x2 x3 hx1 hx2 hx3 (.slice VA lv.length vk) lv hlv HFT.out W hW)
        rw [hck] at HRT
        rw [HRD.out] at HP
        generalize buildP ⟨x1, x2, x3, ql⟩ = B at *
        obtain ⟨bs, be⟩ := B
        dsimp only [cellsP] at HP HRT
        have HE2 := Lib.hid hE2
        go_wp2_with fail
        refine (HRT.out _ HE.out.rk.now).mono ?_
        rintro _ w3 ⟨rfl, hb3⟩
        have HE3 := Lib.hid (HE.out.later hb3)
        have hb3c := (hb3.block _ (Array.getElem?_eq_some_iff.1 HE2.out).1).trans HE2.out
        have c0 : w3.cell? ⟨w2.heap.size, 0, none⟩ = some (.int .u16 (x1 : Int)) := by rw [cell_in hb3c]; rfl
        have c1 : w3.cell? ⟨w2.heap.size, 1, none⟩ = some (.int .u16 (x2 : Int)) := by rw [cell_in hb3c]; rfl
        have c2 : w3.cell? ⟨w2.heap.size, 2, none⟩ = some (.int .u32 (x3 : Int)) := by rw [cell_in hb3c]; rfl
        have c3 : w3.cell? ⟨w2.heap.size, 3, none⟩ = some (.slice VA lv.length vk) := by rw [cell_in hb3c]; rfl
        clear hb3 hb3c HE HE2
        by_cases hbe : be = 0
        case neg =>
          rw [if_neg hbe] at HP
          rw [decide_eq_false hbe]
          go_wp2_with (first
            | (refine wpList_store_row rfl 26 (.tmp 2) (.tmp 44) rfl w.heap.size #[.int .u16 0, .int .u16 0, .int .u32 0, .slice none 0 0] rfl rfl 26 _ HE3.out.own HPS.out rfl HZ1.out ?_))
          have hR := HP.out
          subst hR
          exact bodyPost_ret (results_pk1 (P := Tryz.prog) rfl _ _ w.heap.size 26 #[.int .u16 0, .int .u16 0, .int .u32 0, .slice none 0 0] (0, 0) _ rfl (setRow_heap _ _ _ _ _ _ HE3.out.own) Tryz.underlying26 rfl HPS.out) rfl ⟨_, [], rfl, Rk.nil _, rfl, below_setRow HE3.out.below (Nat.le_refl _) _⟩
        subst hbe
        rw [if_pos rfl] at HP
        rw [decide_eq_true rfl]
        have HONE := Lib.hid (pk_one x1 x2 x3 VA lv.length vk)
        go_wp2_with (first
          | (refine wpList_store_row rfl 26 (.tmp 2) (.tmp 45) rfl w.heap.size #[.int .u16 (x1 : Int), .int .u16 (x2 : Int), .int .u32 (x3 : Int), .slice VA lv.length vk] rfl rfl 26 _ HE3.out.own HPS.out rfl HONE.out ?_))
        have hR := HP.out
        subst hR
        exact bodyPost_ret (results_pk1 (P := Tryz.prog) rfl _ _ w.heap.size 26 #[.int .u16 (x1 : Int), .int .u16 (x2 : Int), .int .u32 (x3 : Int), .slice VA lv.length vk] (0, 0) _ rfl (setRow_heap _ _ _ _ _ _ HE3.out.own) Tryz.underlying26 rfl HPS.out) rfl ⟨_, lv, rfl, HE3.out.gone _, hck, below_setRow HE3.out.below (Nat.le_refl _) _⟩
      refine AllReadyH.cons (by simp only [q9a, q9s, q9z]; rfl) (fun K hK => ?_) AllReadyH.nil
      have hS := hHeld.later ((Below.refl _ _).alloc (Nat.le_refl _) (.cells #[.int .u16 0, .int .u16 0, .int .u32 0, .slice none 0 0] 26))
      clear hHeld
      go_simp
      refine hK.out _ _ ?_ (fun hHeld => ?_)
      · exact hS
      clear hK K
      try simp only [Act.put, p9a, p9z, p9s]
      refine wpAnyH_ready (rs := [10]) (by kernel_rfl) (by simp) ?_
      refine AllReadyH.cons (by simp only [q9a, q9s, q9z]; rfl) (fun K hK => ?_) AllReadyH.nil
      go_simp
      refine (HN3.out _).mono ?_
      rintro _ w20 ⟨rfl, rfl⟩
      have hS := hHeld
      clear hHeld
      go_wp2_with fail
      refine hK.out _ _ ?_ (fun hHeld => ?_)
      · exact hS
      clear hK K
      try simp only [Act.put, p9a, p9z, p9s]
      refine k9 12 ?_ (y := ?_) (h := ?_)
      rotate_left 1
      · (intro w' hSw; (try dsimp only at hSw); go_simp; try with_reducible rfl)
      try simp only [Act.put, p9a, p9z, p9s]
      refine wpAnyH_ready (rs := [14]) (by kernel_rfl) (by simp) ?_
      refine AllReadyH.cons (by simp only [q9a, q9s, q9z]; rfl) (fun K hK => ?_) AllReadyH.nil
      have hS := HS.out.later (((Below.refl _ w2).drew).alloc (Nat.le_refl _) (.cells #[.int .u16 (x1 : Int), .int .u16 (x2 : Int), .int .u32 (x3 : Int), .slice VA lv.length vk] 26))
      clear hHeld
      go_simp
      refine hK.out _ _ ?_ (fun hHeld => ?_)
      · exact hS
      clear hK K
      try simp only [Act.put, p9a, p9z, p9s]
      refine wpAnyH_done (by kernel_rfl) ?_ _
      refine NoPanic.normal ?_
      have HE := Lib.hid hS
      have hE2 : (w2.drew.alloc (.cells #[.int .u16 (x1 : Int), .int .u16 (x2 : Int), .int .u32 (x3 : Int), .slice VA lv.length vk] 26)).heap[w2.heap.size]? = some (.cells #[.int .u16 (x1 : Int), .int .u16 (x2 : Int), .int .u32 (x3 : Int), .slice VA lv.length vk] 26 (0, 0)) := heap_alloc_new w2.drew (.cells #[.int .u16 (x1 : Int), .int .u16 (x2 : Int), .int .u32 (x3 : Int), .slice VA lv.length vk] 26)
      clear hHeld hS
      have HFT : Hid (∀ x ∈ lv, FitC x.c) := Lib.hid (fun x hx => by
        have hm : x.c ∈ ql := by rw [← hck]; exact List.mem_map.2 ⟨x, hx, rfl⟩
        exact fit_ok (HFI.out _ hm).1 (HFI.out _ hm).2)
      have hlv : lv.length ≤ 100000 := by have hcl : (ckV lv).length = lv.length := (by simp [ckV]); rw [← hcl, hck]; exact HQL.out
      have HRT := Lib.hid (fun W hW => pright_any x1 x2 x3 hx1 hx2 hx3 (.slice VA lv.length vk) lv hlv HFT.out W hW)
      rw [hck] at HRT
      rw [HRD.out] at HP
      generalize buildP ⟨x1, x2, x3, ql⟩ = B at *
      obtain ⟨bs, be⟩ := B
      dsimp only [cellsP] at HP HRT
      have HE2 := Lib.hid hE2
      go_wp2_with fail
      refine (HRT.out _ HE.out.rk.now).mono ?_
      rintro _ w3 ⟨rfl, hb3⟩
      have HE3 := Lib.hid (HE.out.later hb3)
      have hb3c := (hb3.block _ (Array.getElem?_eq_some_iff.1 HE2.out).1).trans HE2.out
      have c0 : w3.cell? ⟨w2.heap.size, 0, none⟩ = some (.int .u16 (x1 : Int)) := by rw [cell_in hb3c]; rfl
      have c1 : w3.cell? ⟨w2.heap.size, 1, none⟩ = some (.int .u16 (x2 : Int)) := by rw [cell_in hb3c]; rfl
      have c2 : w3.cell? ⟨w2.heap.size, 2, none⟩ = some (.int .u32 (x3 : Int)) := by rw [cell_in hb3c]; rfl
      have c3 : w3.cell? ⟨w2.heap.size, 3, none⟩ = some (.slice VA lv.length vk) := by rw [cell_in hb3c]; rfl
      clear hb3 hb3c HE HE2
      by_cases hbe : be = 0
      case neg =>
        rw [if_neg hbe] at HP
        rw [decide_eq_false hbe]
        go_wp2_with (first
          | (refine wpList_store_row rfl 26 (.tmp 2) (.tmp 44) rfl w.heap.size #[.int .u16 0, .int .u16 0, .int .u32 0, .slice none 0 0] rfl rfl 26 _ HE3.out.own HPS.out rfl HZ1.out ?_))
        have hR := HP.out
        subst hR
        exact bodyPost_ret (results_pk1 (P := Tryz.prog) rfl _ _ w.heap.size 26 #[.int .u16 0, .int .u16 0, .int .u32 0, .slice none 0 0] (0, 0) _ rfl (setRow_heap _ _ _ _ _ _ HE3.out.own) Tryz.underlying26 rfl HPS.out) rfl ⟨_, [], rfl, Rk.nil _, rfl, below_setRow HE3.out.below (Nat.le_refl _) _⟩
      subst hbe
      rw [if_pos rfl] at HP
      rw [decide_eq_true rfl]
      have HONE := Lib.hid (pk_one x1 x2 x3 VA lv.length vk)
      go_wp2_with (first
        | (refine wpList_store_row rfl 26 (.tmp 2) (.tmp 45) rfl w.heap.size #[.int .u16 (x1 : Int), .int .u16 (x2 : Int), .int .u32 (x3 : Int), .slice VA lv.length vk] rfl rfl 26 _ HE3.out.own HPS.out rfl HONE.out ?_))
      have hR := HP.out
      subst hR
      exact bodyPost_ret (results_pk1 (P := Tryz.prog) rfl _ _ w.heap.size 26 #[.int .u16 (x1 : Int), .int .u16 (x2 : Int), .int .u32 (x3 : Int), .slice VA lv.length vk] (0, 0) _ rfl (setRow_heap _ _ _ _ _ _ HE3.out.own) Tryz.underlying26 rfl HPS.out) rfl ⟨_, lv, rfl, HE3.out.gone _, hck, below_setRow HE3.out.below (Nat.le_refl _) _⟩
    refine AllReadyH.cons (by simp only [q9a, q9s, q9z]; rfl) (fun K hK => ?_) AllReadyH.nil
    have hS := hHeld.later ((Below.refl _ _).alloc (Nat.le_refl _) (.cells #[.int .u16 0, .int .u16 0, .int .u32 0, .slice none 0 0] 26))
    clear hHeld
    go_simp
    refine hK.out _ _ ?_ (fun hHeld => ?_)
    · exact hS
    clear hK K
    try simp only [Act.put, p9a, p9z, p9s]
    refine wpAnyH_ready (rs := [6]) (by kernel_rfl) (by simp) ?_
    refine AllReadyH.cons (by simp only [q9a, q9s, q9z]; rfl) (fun K hK => ?_) AllReadyH.nil
    go_simp
    refine (HN2.out _).mono ?_
    rintro _ w16 ⟨rfl, rfl⟩
    have hS := hHeld
    clear hHeld
    go_wp2_with fail
    refine hK.out _ _ ?_ (fun hHeld => ?_)
    · exact hS
    clear hK K
    try simp only [Act.put, p9a, p9z, p9s]
    refine k9 7 ?_ (y := ?_) (h := ?_)
    rotate_left 1
    · (intro w' hSw; (try dsimp only at hSw); go_simp; try with_reducible rfl)
    try simp only [Act.put, p9a, p9z, p9s]
    refine wpAnyH_ready (rs := [10]) (by kernel_rfl) (by simp) ?_
    refine AllReadyH.cons (by simp only [q9a, q9s, q9z]; rfl) (fun K hK => ?_) AllReadyH.nil
    go_simp
    refine (HN3.out _).mono ?_
    rintro _ w20 ⟨rfl, rfl⟩
    have hS := hHeld
    clear hHeld
    go_wp2_with fail
    refine hK.out _ _ ?_ (fun hHeld => ?_)
    · exact hS
    clear hK K
    try simp only [Act.put, p9a, p9z, p9s]
    refine k9 12 ?_ (y := ?_) (h := ?_)
    rotate_left 1
    · (intro w' hSw; (try dsimp only at hSw); go_simp; try with_reducible rfl)
    try simp only [Act.put, p9a, p9z, p9s]
    refine wpAnyH_ready (rs := [14]) (by kernel_rfl) (by simp) ?_
    refine AllReadyH.cons (by simp only [q9a, q9s, q9z]; rfl) (fun K hK => ?_) AllReadyH.nil
    have hS := HS.out.later (((Below.refl _ w2).drew).alloc (Nat.le_refl _) (.cells #[.int .u16 (x1 : Int), .int .u16 (x2 : Int), .int .u32 (x3 : Int), .slice VA lv.length vk] 26))
    clear hHeld
    go_simp
    refine hK.out _ _ ?_ (fun hHeld => ?_)
    · exact hS
    clear hK K
    try simp only [Act.put, p9a, p9z, p9s]
    refine wpAnyH_done (by kernel_rfl) ?_ _
    refine NoPanic.normal ?_
    have HE := Lib.hid hS
    have hE2 : (w2.drew.alloc (.cells #[.int .u16 (x1 : Int), .int .u16 (x2 : Int), .int .u32 (x3 : Int), .slice VA lv.length vk] 26)).heap[w2.heap.size]? = some (.cells #[.int .u16 (x1 : Int), .int .u16 (x2 : Int), .int .u32 (x3 : Int), .slice VA lv.length vk] 26 (0, 0)) := heap_alloc_new w2.drew (.cells #[.int .u16 (x1 : Int), .int .u16 (x2 : Int), .int .u32 (x3 : Int), .slice VA lv.length vk] 26)
    clear hHeld hS
    have HFT : Hid (∀ x ∈ lv, FitC x.c) := Lib.hid (fun x hx => by
      have hm : x.c ∈ ql := by rw [← hck]; exact List.mem_map.2 ⟨x, hx, rfl⟩
      exact fit_ok (HFI.out _ hm).1 (HFI.out _ hm).2)
    have hlv : lv.length ≤ 100000 := by have hcl : (ckV lv).length = lv.length := (by simp [ckV]); rw [← hcl, hck]; exact HQL.out
    have HRT := Lib.hid (fun W hW => pright_any x1 x2 x3 hx1 hx2 hx3 (.slice VA lv.length vk) lv hlv HFT.out W hW)
    rw [hck] at HRT
    rw [HRD.out] at HP
    generalize buildP ⟨x1, x2, x3, ql⟩ = B at *
    obtain ⟨bs, be⟩ := B
    dsimp only [cellsP] at HP HRT
    have HE2 := Lib.hid hE2
    go_wp2_with fail
    refine (HRT.out _ HE.out.rk.now).mono ?_
    rintro _ w3 ⟨rfl, hb3⟩
    have HE3 := Lib.hid (HE.out.later hb3)
    have hb3c := (hb3.block _ (Array.getElem?_eq_some_iff.1 HE2.out).1).trans HE2.out
    have c0 : w3.cell? ⟨w2.heap.size, 0, none⟩ = some (.int .u16 (x1 : Int)) := by rw [cell_in hb3c]; rfl
    have c1 : w3.cell? ⟨w2.heap.size, 1, none⟩ = some (.int .u16 (x2 : Int)) := by rw [cell_in hb3c]; rfl
    have c2 : w3.cell? ⟨w2.heap.size, 2, none⟩ = some (.int .u32 (x3 : Int)) := by rw [cell_in hb3c]; rfl
    have c3 : w3.cell? ⟨w2.heap.size, 3, none⟩ = some (.slice VA lv.length vk) := by rw [cell_in hb3c]; rfl
    clear hb3 hb3c HE HE2
    by_cases hbe : be = 0
    case neg =>
      rw [if_neg hbe] at HP
      rw [decide_eq_false hbe]
      go_wp2_with (first
        | (refine wpList_store_row rfl 26 (.tmp 2) (.tmp 44) rfl w.heap.size #[.int .u16 0, .int .u16 0, .int .u32 0, .slice none 0 0] rfl rfl 26 _ HE3.out.own HPS.out rfl HZ1.out ?_))
      have hR := HP.out
      subst hR
      exact bodyPost_ret (results_pk1 (P := Tryz.prog) rfl _ _ w.heap.size 26 #[.int .u16 0, .int .u16 0, .int .u32 0, .slice none 0 0] (0, 0) _ rfl (setRow_heap _ _ _ _ _ _ HE3.out.own) Tryz.underlying26 rfl HPS.out) rfl ⟨_, [], rfl, Rk.nil _, rfl, below_setRow HE3.out.below (Nat.le_refl _) _⟩
    subst hbe
    rw [if_pos rfl] at HP
    rw [decide_eq_true rfl]
    have HONE := Lib.hid (pk_one x1 x2 x3 VA lv.length vk)
    go_wp2_with (first
      | (refine wpList_store_row rfl 26 (.tmp 2) (.tmp 45) rfl w.heap.size #[.int .u16 (x1 : Int), .int .u16 (x2 : Int), .int .u32 (x3 : Int), .slice VA lv.length vk] rfl rfl 26 _ HE3.out.own HPS.out rfl HONE.out ?_))
    have hR := HP.out
    subst hR
    exact bodyPost_ret (results_pk1 (P := Tryz.prog) rfl _ _ w.heap.size 26 #[.int .u16 (x1 : Int), .int .u16 (x2 : Int), .int .u32 (x3 : Int), .slice VA lv.length vk] (0, 0) _ rfl (setRow_heap _ _ _ _ _ _ HE3.out.own) Tryz.underlying26 rfl HPS.out) rfl ⟨_, lv, rfl, HE3.out.gone _, hck, below_setRow HE3.out.below (Nat.le_refl _) _⟩
  refine AllReadyH.cons (by simp only [q9a, q9s, q9z]; rfl) (fun K hK => ?_) AllReadyH.nil
  have hS := hHeld.later ((Below.refl _ _).alloc (Nat.le_refl _) (.cells #[.int .u16 0, .int .u16 0, .int .u32 0, .slice none 0 0] 26))
  clear hHeld
  go_simp
  refine hK.out _ _ ?_ (fun hHeld => ?_)
  · exact hS
  clear hK K
  try simp only [Act.put, p9a, p9z, p9s]
  refine wpAnyH_ready (rs := [2]) (by kernel_rfl) (by simp) ?_
  refine AllReadyH.cons (by simp only [q9a, q9s, q9z]; rfl) (fun K hK => ?_) AllReadyH.nil
  go_simp
  refine (HN1.out _).mono ?_
  rintro _ w12 ⟨rfl, rfl⟩
  have hS := hHeld
  clear hHeld
  go_wp2_with fail
  refine hK.out _ _ ?_ (fun hHeld => ?_)
  · exact hS
  clear hK K
  try simp only [Act.put, p9a, p9z, p9s]
  refine k9 3 ?_ (y := ?_) (h := ?_)
  rotate_left 1
  · (intro w' hSw; (try dsimp only at hSw); go_simp; try with_reducible rfl)
  try simp only [Act.put, p9a, p9z, p9s]
  refine wpAnyH_ready (rs := [6]) (by kernel_rfl) (by simp) ?_
  refine AllReadyH.cons (by simp only [q9a, q9s, q9z]; rfl) (fun K hK => ?_) AllReadyH.nil
  go_simp
  refine (HN2.out _).mono ?_
  rintro _ w16 ⟨rfl, rfl⟩
  have hS := hHeld
  clear hHeld
  go_wp2_with fail
  refine hK.out _ _ ?_ (fun hHeld => ?_)
  · exact hS
  clear hK K
  try simp only [Act.put, p9a, p9z, p9s]
  refine k9 7 ?_ (y := ?_) (h := ?_)
  rotate_left 1
  · (intro w' hSw; (try dsimp only at hSw); go_simp; try with_reducible rfl)
  try simp only [Act.put, p9a, p9z, p9s]
  refine wpAnyH_ready (rs := [10]) (by kernel_rfl) (by simp) ?_
  refine AllReadyH.cons (by simp only [q9a, q9s, q9z]; rfl) (fun K hK => ?_) AllReadyH.nil
  go_simp
  refine (HN3.out _).mono ?_
  rintro _ w20 ⟨rfl, rfl⟩
  have hS := hHeld
  clear hHeld
  go_wp2_with fail
  refine hK.out _ _ ?_ (fun hHeld => ?_)
  · exact hS
  clear hK K
  try simp only [Act.put, p9a, p9z, p9s]
  refine k9 12 ?_ (y := ?_) (h := ?_)
  rotate_left 1
  · (intro w' hSw; (try dsimp only at hSw); go_simp; try with_reducible rfl)
  try simp only [Act.put, p9a, p9z, p9s]
  refine wpAnyH_ready (rs := [14]) (by kernel_rfl) (by simp) ?_
  refine AllReadyH.cons (by simp only [q9a, q9s, q9z]; rfl) (fun K hK => ?_) AllReadyH.nil
  have hS := HS.out.later (((Below.refl _ w2).drew).alloc (Nat.le_refl _) (.cells #[.int .u16 (x1 : Int), .int .u16 (x2 : Int), .int .u32 (x3 : Int), .slice VA lv.length vk] 26))
  clear hHeld
  go_simp
  refine hK.out _ _ ?_ (fun hHeld => ?_)
  · exact hS
  clear hK K
  try simp only [Act.put, p9a, p9z, p9s]
  refine wpAnyH_done (by kernel_rfl) ?_ _
  refine NoPanic.normal ?_
  have HE := Lib.hid hS
  have hE2 : (w2.drew.alloc (.cells #[.int .u16 (x1 : Int), .int .u16 (x2 : Int), .int .u32 (x3 : Int), .slice VA lv.length vk] 26)).heap[w2.heap.size]? = some (.cells #[.int .u16 (x1 : Int), .int .u16 (x2 : Int), .int .u32 (x3 : Int), .slice VA lv.length vk] 26 (0, 0)) := heap_alloc_new w2.drew (.cells #[.int .u16 (x1 : Int), .int .u16 (x2 : Int), .int .u32 (x3 : Int), .slice VA lv.length vk] 26)
  clear hHeld hS
  have HFT : Hid (∀ x ∈ lv, FitC x.c) := Lib.hid (fun x hx => by
    have hm : x.c ∈ ql := by rw [← hck]; exact List.mem_map.2 ⟨x, hx, rfl⟩
    exact fit_ok (HFI.out _ hm).1 (HFI.out _ hm).2)
  have hlv : lv.length ≤ 100000 := by have hcl : (ckV lv).length = lv.length := (by simp [ckV]); rw [← hcl, hck]; exact HQL.out
  have HRT := Lib.hid (fun W hW => pright_any x1 x2 x3 hx1 hx2 hx3 (.slice VA lv.length vk) lv hlv HFT.out W hW)
  rw [hck] at HRT
  rw [HRD.out] at HP
  generalize buildP ⟨x1, x2, x3, ql⟩ = B at *
  obtain ⟨bs, be⟩ := B
  dsimp only [cellsP] at HP HRT
  have HE2 := Lib.hid hE2
  go_wp2_with fail
  refine (HRT.out _ HE.out.rk.now).mono ?_
  rintro _ w3 ⟨rfl, hb3⟩
  have HE3 := Lib.hid (HE.out.later hb3)
  have hb3c := (hb3.block _ (Array.getElem?_eq_some_iff.1 HE2.out).1).trans HE2.out
  have c0 : w3.cell? ⟨w2.heap.size, 0, none⟩ = some (.int .u16 (x1 : Int)) := by rw [cell_in hb3c]; rfl
  have c1 : w3.cell? ⟨w2.heap.size, 1, none⟩ = some (.int .u16 (x2 : Int)) := by rw [cell_in hb3c]; rfl
  have c2 : w3.cell? ⟨w2.heap.size, 2, none⟩ = some (.int .u32 (x3 : Int)) := by rw [cell_in hb3c]; rfl
  have c3 : w3.cell? ⟨w2.heap.size, 3, none⟩ = some (.slice VA lv.length vk) := by rw [cell_in hb3c]; rfl
  clear hb3 hb3c HE HE2
  by_cases hbe : be = 0
  case neg =>
    rw [if_neg hbe] at HP
    rw [decide_eq_false hbe]
    go_wp2_with (first
      | (refine wpList_store_row rfl 26 (.tmp 2) (.tmp 44) rfl w.heap.size #[.int .u16 0, .int .u16 0, .int .u32 0, .slice none 0 0] rfl rfl 26 _ HE3.out.own HPS.out rfl HZ1.out ?_))
    have hR := HP.out
    subst hR
    exact bodyPost_ret (results_pk1 (P := Tryz.prog) rfl _ _ w.heap.size 26 #[.int .u16 0, .int .u16 0, .int .u32 0, .slice none 0 0] (0, 0) _ rfl (setRow_heap _ _ _ _ _ _ HE3.out.own) Tryz.underlying26 rfl HPS.out) rfl ⟨_, [], rfl, Rk.nil _, rfl, below_setRow HE3.out.below (Nat.le_refl _) _⟩
  subst hbe
  rw [if_pos rfl] at HP
  rw [decide_eq_true rfl]
  have HONE := Lib.hid (pk_one x1 x2 x3 VA lv.length vk)
  go_wp2_with (first
    | (refine wpList_store_row rfl 26 (.tmp 2) (.tmp 45) rfl w.heap.size #[.int .u16 (x1 : Int), .int .u16 (x2 : Int), .int .u32 (x3 : Int), .slice VA lv.length vk] rfl rfl 26 _ HE3.out.own HPS.out rfl HONE.out ?_))
  have hR := HP.out
  subst hR
  exact bodyPost_ret (results_pk1 (P := Tryz.prog) rfl _ _ w.heap.size 26 #[.int .u16 (x1 : Int), .int .u16 (x2 : Int), .int .u32 (x3 : Int), .slice VA lv.length vk] (0, 0) _ rfl (setRow_heap _ _ _ _ _ _ HE3.out.own) Tryz.underlying26 rfl HPS.out) rfl ⟨_, lv, rfl, HE3.out.gone _, hck, below_setRow HE3.out.below (Nat.le_refl _) _⟩
end Go.Proofs.YtlbaockipeojhaaGreat
end
