/-
  got.Sack: contract.
-/
import Derived.Test.YtfdnphkdpmlbnaaGj
import Derived.Test.YtfdnphkdpmlbnaaGh
import Derived.Test.YtfdnphkdpmlbnaaGi
import Derived.Test.YtfdnphkdpmlbnaaWaits
namespace Go.Proofs.Ytfdnphkdpmlbnaa
open Go.RowKit
set_option linter.unusedVariables false
set_option linter.unusedSimpArgs false
set_option maxRecDepth 100000

/-- Two may come up next. -/
theorem wpAnyW_two {P : Program} {ops : Array Oper} {Q : Exit → Act → World → Prop} {md : Region.Mode} {S : World → Prop} {W : List Nat} {i i2 : Nat} {o o2 : Oper} {fuel : Nat} {listed : Array Bool} {a : Act} {w : World} (hr : Region.ready md ops listed = [i, i2]) (ho : ops[i]? = some o) (ho2 : ops[i2]? = some o2)
    (h : ∀ K' : Act → World → Prop, Shut (∀ a w, S w → (S w → wpAnyW P md ops Q S W fuel (listed.setIfInBounds i true) a w) → K' a w) → if Region.wanted o (yielded ops a.tmps) = true then Oper.wp P o a w K' Q else K' (a.put o.dst undef) w)
    (h2 : ∀ K' : Act → World → Prop, Shut (∀ a w, S w → (S w → wpAnyW P md ops Q S W fuel (listed.setIfInBounds i2 true) a w) → K' a w) → if Region.wanted o2 (yielded ops a.tmps) = true then Oper.wp P o2 a w K' Q else K' (a.put o2.dst undef) w) :
    wpAnyW P md ops Q S W (fuel + 1) listed a w :=
  ⟨fun h0 => (by rw [hr] at h0; cases h0), fun j hj => by
    rw [hr] at hj
    rcases List.mem_cons.1 hj with rfl | hj
    · exact wpOp_step ho (fun K' hK => h K' (fun a w hS hW => hK a w ⟨fun _ => hS, hW hS⟩))
    · obtain rfl := List.mem_singleton.1 hj
      exact wpOp_step ho2 (fun K' hK => h2 K' (fun a w hS hW => hK a w ⟨fun _ => hS, hW hS⟩))⟩
theorem three_open (w : World) (T T' T'' : TypeId) (cs zs ys : Array Value) : ∃ W, ((w.alloc (.cells cs T)).alloc (.cells zs T')).alloc (.cells ys T'') = W ∧ Hid (Bx W w.heap.size T cs) ∧ Hid (Bx W (w.heap.size + 1) T' zs) ∧ Hid (Bx W (w.heap.size + 1 + 1) T'' ys) ∧ Hid (Below w.heap.size w W) ∧ W.heap.size = w.heap.size + 3 := by
  obtain ⟨W2, rfl, H1, H2, HB, hs⟩ := two_open w T T' cs zs
  refine ⟨_, rfl, Lib.hid (H1.out.old _), Lib.hid (H2.out.old _), Lib.hid ?_, Lib.hid (HB.out.alloc (by omega) _), by rw [World.size_alloc, hs]⟩
  have h := Bx.fresh ((w.alloc (.cells cs T)).alloc (.cells zs T')) T'' ys
  rw [hs] at h
  exact h
theorem infoC : (Try.prog.info? 44).map (·.size) = some 14 := by kernel_rfl
/-- Two results, each in a cell of its own. -/
theorem retCG {fn : Func} {p u : Tmp} (h : fn.results = #[.cell p 44, .cell u 25]) {tmps : Array Value} {w : World} {g g' : Nat} {cs ds : Array Value} (hz : cs.size = 14) (hz' : ds.size = 3) (hp : tmps.getD p undef = .pointer (some ⟨g, 0, none⟩)) (hu : tmps.getD u undef = .pointer (some ⟨g', 0, none⟩)) (hg : Bx w g 44 cs) (hg' : Bx w g' 25 ds) : (results fn tmps).run Try.prog w = .ok (.tuple #[.agg cs, .agg ds]) w := by
  have hp' : tmps[p]?.getD undef = .pointer (some ⟨g, 0, none⟩) := by simpa using hp
  have hu' : tmps[u]?.getD undef = .pointer (some ⟨g', 0, none⟩) := by simpa using hu
  simp [results, h, hp', hu', asAddr, run_loadVar_row w g 44 44 cs (0, 0) _ hg Try.underlying44 rfl (by rw [hz]; exact infoC), run_loadVar_row w g' 25 25 ds (0, 0) _ hg' Try.underlying25 rfl (by rw [hz']; exact infoG)]
theorem cellsS_one (c n : Int) (A A' : Option Addr) (l k l' k' : Nat) : (#[.int .i64 3, .int .i64 0, .int .u32 c, .int .u32 0, .int .u32 n, .int .u32 0, .int .u16 0, .int .u16 0, .int .u16 0, .int .u16 0, .slice A l k, .slice A' l' k', .slice none 0 0, .string ⟨#[]⟩] : Array Value).all (·.oneCell') = true := by simp [Value.oneCell']
/-- What Sack hands back. -/
def SackG (w : World) (g : Gt) (n : Nat) (e : Ending) (w' : World) : Prop := ∃ Ag kg Ad kd Aa ka, e = .returned (.tuple #[.agg #[.int .i64 3, .int .i64 0, .int .u32 (g.cum.toNat : Int), .int .u32 0, .int .u32 (n : Int), .int .u32 0, .int .u16 0, .int .u16 0, .int .u16 0, .int .u16 0, .slice Ag (gapsG g).length kg, .slice Ad g.du.length kd, .slice none 0 0, .string ⟨#[]⟩], .agg #[.int .u32 (g.cum.toNat : Int), .slice Aa g.ab.length ka, .slice none 0 0]]) ∧
  OwnG w' w.heap.size 59 2 (.slice Ag (gapsG g).length kg) (gapsG g).length (flatG (gapsG g)) ∧ RowE enc32 w' (.slice Ad g.du.length kd) g.du ∧ RowE enc32 w' (.slice Aa g.ab.length ka) g.ab ∧ Below w.heap.size w w'
set_option maxHeartbeats 8000000 in
theorem sack_any (c : UInt32) (ab du : List UInt32) (ha : ab.length ≤ 1000000) (hd : du.length ≤ 1000000) (va vd : Value) (w : World) (h1 : RowE enc32 w va ab) (h2 : RowE enc32 w vd du) (n : Nat) : Calls Try.prog 21 #[.agg #[.int .u32 (c.toNat : Int), va, vd], .int .u32 (n : Int)] w (SackG w ⟨c, ab, du⟩ n) := by
  obtain ⟨W, hW, HA, HZ4, HZ5, HB, hs⟩ := three_open w 25 44 25 #[.int .u32 (c.toNat : Int), va, vd] #[.int .i64 0, .int .i64 0, .int .u32 0, .int .u32 0, .int .u32 0, .int .u32 0, .int .u16 0, .int .u16 0, .int .u16 0, .int .u16 0, .slice none 0 0, .slice none 0 0, .slice none 0 0, .string ⟨#[]⟩] #[.int .u32 0, .slice none 0 0, .slice none 0 0]
  have HV := Lib.hid (h1.below HB.out)
  have HD := Lib.hid (h2.below HB.out)
  obtain ⟨A, k, rfl, -, -, -⟩ := id HV.out
  obtain ⟨A', k', rfl, -, -, -⟩ := id HD.out
  have HCO := Lib.hid (fun W h h' => copied_any c ab du ha hd (.slice A ab.length k) (.slice A' du.length k') W h h')
  have HGP := Lib.hid (fun W h h' => gaps_any c ab du ha hd (.slice A ab.length k) (.slice A' du.length k') W h h')
  obtain ⟨gs, hgs⟩ : ∃ l, gapsG ⟨c, ab, du⟩ = l := ⟨_, rfl⟩
  rw [hgs] at HGP
  have HGS := Lib.hid hgs
  clear hgs
  go_enter Try.func21, Try.ntmps21
  go_wp2_with (first
    | ((with_reducible refine gate9 ?_); refine ldB (ty := 25) rfl rfl rfl HA.out Try.underlying25 rfl infoG ?_))
  refine (HCO.out _ HV.out HD.out).mono ?_
  rintro e w1 ⟨va9, vd9, rfl, hra, hrd, hfa, hfd, hb⟩
  obtain ⟨A5, k5, rfl, -, -, -⟩ := id hra
  obtain ⟨A6, k6, rfl, -, -, -⟩ := id hrd
  have HRA := Lib.hid hra
  have HRD := Lib.hid hrd
  have HFA := Lib.hid (hfa.less (show w.heap.size + 3 ≤ _ by omega))
  have HFD := Lib.hid (hfd.less (show w.heap.size + 3 ≤ _ by omega))
  have hs1 := hb.size
  replace HA := Lib.hid (HA.out.later hb)
  replace HZ4 := Lib.hid (HZ4.out.later hb)
  replace HZ5 := Lib.hid (HZ5.out.later hb)
  replace HV := Lib.hid (HV.out.below hb)
  replace HD := Lib.hid (HD.out.below hb)
  replace HB := Lib.hid (HB.out.trans (hb.mono HB.out.size))
  clear hra hrd hfa hfd hb
  obtain ⟨W2, hW2, HH, HB2, hs2⟩ := one_open w1 25 #[.int .u32 0, .slice none 0 0, .slice none 0 0]
  obtain ⟨g6, hg6⟩ : ∃ g, w1.heap.size = g := ⟨_, rfl⟩
  rw [hg6] at HH
  go_wp2_with (first
    | ((with_reducible refine gate9 ?_); refine stB (ty := 25) #[.int .u32 (c.toNat : Int), .slice A5 ab.length k5, .slice A6 du.length k6] rfl rfl rfl rfl HH.out infoG rfl (cellsG_one _ _ _ _ _ _ _) ?_; intro w3 ht hg; have HMD := Lib.hid (((MidS.refl (w.heap.size + 3) w1).below HB2.out).grown hg (fun z hz => by cases hz; omega)); have hs3 := hg.size; replace HB2 := Lib.hid (below_of_grown1 HB2.out hg HB2.out.size (Nat.le_of_eq hg6)); replace HH := Lib.hid ht; clear ht hg; replace HA := Lib.hid (HA.out.later HB2.out); replace HZ4 := Lib.hid (HZ4.out.later HB2.out); replace HZ5 := Lib.hid (HZ5.out.later HB2.out); replace HV := Lib.hid (HV.out.below HB2.out); replace HD := Lib.hid (HD.out.below HB2.out); replace HB := Lib.hid (HB.out.trans (HB2.out.mono HB.out.size)); clear HB2))
  refine wp_region_noPanic ?_
  have HS : (fun V => Bx V w.heap.size 25 #[.int .u32 (c.toNat : Int), .slice A ab.length k, .slice A' du.length k'] ∧ Bx V g6 25 #[.int .u32 (c.toNat : Int), .slice A5 ab.length k5, .slice A6 du.length k6] ∧ Bx V (w.heap.size + 1) 44 #[.int .i64 0, .int .i64 0, .int .u32 0, .int .u32 0, .int .u32 0, .int .u32 0, .int .u16 0, .int .u16 0, .int .u16 0, .int .u16 0, .slice none 0 0, .slice none 0 0, .slice none 0 0, .string ⟨#[]⟩] ∧ Bx V (w.heap.size + 1 + 1) 25 #[.int .u32 0, .slice none 0 0, .slice none 0 0] ∧ RowE enc32 V (.slice A ab.length k) ab ∧ RowE enc32 V (.slice A' du.length k') du ∧ MidS (w.heap.size + 3) w1 V ∧ Below w.heap.size w V) w3.drew := ⟨HA.out.drew, HH.out.drew, HZ4.out.drew, HZ5.out.drew, HV.out, HD.out, ⟨HMD.out.size, HMD.out.same⟩, below_drawn HB.out⟩
  refine wp_region_waits (S := (fun V => Bx V w.heap.size 25 #[.int .u32 (c.toNat : Int), .slice A ab.length k, .slice A' du.length k'] ∧ Bx V g6 25 #[.int .u32 (c.toNat : Int), .slice A5 ab.length k5, .slice A6 du.length k6] ∧ Bx V (w.heap.size + 1) 44 #[.int .i64 0, .int .i64 0, .int .u32 0, .int .u32 0, .int .u32 0, .int .u32 0, .int .u16 0, .int .u16 0, .int .u16 0, .int .u16 0, .slice none 0 0, .slice none 0 0, .slice none 0 0, .string ⟨#[]⟩] ∧ Bx V (w.heap.size + 1 + 1) 25 #[.int .u32 0, .slice none 0 0, .slice none 0 0] ∧ RowE enc32 V (.slice A ab.length k) ab ∧ RowE enc32 V (.slice A' du.length k') du ∧ MidS (w.heap.size + 3) w1 V ∧ Below w.heap.size w V)) [9] (by kernel_rfl) HS (fun hHeld => ?_)
  clear HS HA HH HZ4 HZ5 HB HV HD HMD
  refine wpAnyW_take (i := 0) (v := ?_) (by simp only [List.getElem?_toArray, List.getElem?_cons_zero]; rfl) (by kernel_rfl) (by kernel_rfl) (by kernel_rfl) (by kernel_rfl) (by kernel_rfl) (fun _ _ _ h => h) (Or.inl ⟨by rfl, ?_⟩) (by assumption) ?_
  rotate_left 1
  · (intro w' hSw; go_simp; try with_reducible rfl)
  try simp only [Act.put, List.setIfInBounds_toArray, List.set_cons_zero, List.set_cons_succ]
  refine wpAnyW_take (i := 1) (v := ?_) (by simp only [List.getElem?_toArray, List.getElem?_cons_succ, List.getElem?_cons_zero]; rfl) (by kernel_rfl) (by kernel_rfl) (by kernel_rfl) (by kernel_rfl) (by kernel_rfl) (fun _ _ _ h => h) (Or.inl ⟨by rfl, ?_⟩) (by assumption) ?_
  rotate_left 1
  · (intro w' hSw; have hq : w'.cell? ⟨w.heap.size, 0, none⟩ = some (.int .u32 (c.toNat : Int)) := hSw.1.cell 0 _ rfl; go_simp; try with_reducible rfl)
  try simp only [Act.put, List.setIfInBounds_toArray, List.set_cons_zero, List.set_cons_succ]
  refine wpAnyW_take (i := 2) (v := ?_) (by simp only [List.getElem?_toArray, List.getElem?_cons_succ, List.getElem?_cons_zero]; rfl) (by kernel_rfl) (by kernel_rfl) (by kernel_rfl) (by kernel_rfl) (by kernel_rfl) (fun _ _ _ h => h) (Or.inl ⟨by rfl, ?_⟩) (by assumption) ?_
  rotate_left 1
  · (intro w' hSw; go_simp; try with_reducible rfl)
  try simp only [Act.put, List.setIfInBounds_toArray, List.set_cons_zero, List.set_cons_succ]
  refine wpAnyW_take (i := 3) (v := _) (by simp only [List.getElem?_toArray, List.getElem?_cons_succ, List.getElem?_cons_zero]; rfl) (by kernel_rfl) (by kernel_rfl) (by kernel_rfl) (by kernel_rfl) (by kernel_rfl) (fun _ _ _ h => h) (yB (ty := 25) (by rfl) rfl rfl (fun V h => h.1) Try.underlying25 rfl infoG) (by assumption) ?_
  try simp only [Act.put, List.setIfInBounds_toArray, List.set_cons_zero, List.set_cons_succ]
  refine wpAnyW_take (i := 5) (v := ?_) (by simp only [List.getElem?_toArray, List.getElem?_cons_succ, List.getElem?_cons_zero]; rfl) (by kernel_rfl) (by kernel_rfl) (by kernel_rfl) (by kernel_rfl) (by kernel_rfl) (fun _ _ _ h => h) (Or.inl ⟨by rfl, ?_⟩) (by assumption) ?_
  rotate_left 1
  · (intro w' hSw; go_simp; try with_reducible rfl)
  try simp only [Act.put, List.setIfInBounds_toArray, List.set_cons_zero, List.set_cons_succ]
  refine wpAnyW_take (i := 6) (v := ?_) (by simp only [List.getElem?_toArray, List.getElem?_cons_succ, List.getElem?_cons_zero]; rfl) (by kernel_rfl) (by kernel_rfl) (by kernel_rfl) (by kernel_rfl) (by kernel_rfl) (fun _ _ _ h => h) (Or.inl ⟨by rfl, ?_⟩) (by assumption) ?_
  rotate_left 1
  · (intro w' hSw; have hq : w'.cell? ⟨g6, 2, none⟩ = some (.slice A6 du.length k6) := hSw.2.1.cell 2 _ rfl; go_simp; try with_reducible rfl)
  try simp only [Act.put, List.setIfInBounds_toArray, List.set_cons_zero, List.set_cons_succ]
  refine wpAnyW_two (i := 4) (i2 := 8) (by kernel_rfl) (by simp only [List.getElem?_toArray, List.getElem?_cons_succ, List.getElem?_cons_zero]; rfl) (by simp only [List.getElem?_toArray, List.getElem?_cons_succ, List.getElem?_cons_zero]; rfl) (fun K hK => ?_) (fun K hK => ?_)
  · rw [if_pos (by rfl)]
    go_simp
    refine (HGP.out _ hHeld.2.2.2.2.1 hHeld.2.2.2.2.2.1).mono ?_
    rintro _ w4 ⟨vg, rfl, hog, hb4⟩
    have HS := (And.intro (hHeld.1.later hb4) (And.intro (hHeld.2.1.later hb4) (And.intro (hHeld.2.2.1.later hb4) (And.intro (hHeld.2.2.2.1.later hb4) (And.intro (hHeld.2.2.2.2.1.below hb4) (And.intro (hHeld.2.2.2.2.2.1.below hb4) (And.intro (hHeld.2.2.2.2.2.2.1.below hb4) (hHeld.2.2.2.2.2.2.2.trans (hb4.mono hHeld.2.2.2.2.2.2.2.size)))))))))
    have HO := Lib.hid (hog.base (Nat.le_trans hHeld.2.2.2.2.2.2.2.size (Nat.le_refl _)))
    have HOK := Lib.hid hog.lt
    have hg64 := hHeld.2.1.lt
    obtain ⟨Ag, kg, rfl, -, -, -⟩ := id hog.slice
    clear hHeld hog hb4
    go_wp2_with fail
    refine hK.out _ _ HS (fun hHeld => ?_)
    clear hK K HS
    try simp only [Act.put, List.setIfInBounds_toArray, List.set_cons_zero, List.set_cons_succ]
    refine wpAnyW_take (i := 7) (v := ?_) (by simp only [List.getElem?_toArray, List.getElem?_cons_succ, List.getElem?_cons_zero]; rfl) (by kernel_rfl) (by kernel_rfl) (by kernel_rfl) (by kernel_rfl) (by kernel_rfl) (fun _ _ _ h => h) (Or.inl ⟨by rfl, ?_⟩) (by assumption) ?_
    rotate_left 1
    · (intro w' hSw; go_simp; try with_reducible rfl)
    try simp only [Act.put, List.setIfInBounds_toArray, List.set_cons_zero, List.set_cons_succ]
    refine wpAnyW_held (i := 8) (by kernel_rfl) (by simp only [List.getElem?_toArray, List.getElem?_cons_succ, List.getElem?_cons_zero]; rfl) (fun K hK => ?_)
    rw [if_pos (by rfl)]
    obtain ⟨W7, hW7, HZ7, HB7, hs7⟩ := one_open w4 44 #[.int .i64 0, .int .i64 0, .int .u32 0, .int .u32 0, .int .u32 0, .int .u32 0, .int .u16 0, .int .u16 0, .int .u16 0, .int .u16 0, .slice none 0 0, .slice none 0 0, .slice none 0 0, .string ⟨#[]⟩]
    obtain ⟨g7, hg7⟩ : ∃ g, w4.heap.size = g := ⟨_, rfl⟩
    rw [hg7] at HZ7
    have HS := (And.intro (hHeld.1.later HB7.out) (And.intro (hHeld.2.1.later HB7.out) (And.intro (hHeld.2.2.1.later HB7.out) (And.intro (hHeld.2.2.2.1.later HB7.out) (And.intro (hHeld.2.2.2.2.1.below HB7.out) (And.intro (hHeld.2.2.2.2.2.1.below HB7.out) (And.intro (hHeld.2.2.2.2.2.2.1.below HB7.out) (hHeld.2.2.2.2.2.2.2.trans (HB7.out.mono hHeld.2.2.2.2.2.2.2.size)))))))))
    replace HO := Lib.hid (HO.out.later HB7.out)
    have HNE : Hid (∀ z, (Value.slice Ag gs.length kg).ownBlock = some z → w.heap.size + 2 < z ∧ g6 < z ∧ z ≠ g7) := Lib.hid (fun z hz => by have := HOK.out z hz; have := hs3; omega)
    have hg67 : g6 < g7 := by have := hHeld.2.1.lt; omega
    have hs17 : w1.heap.size ≤ g7 := by have := hHeld.2.2.2.2.2.2.1.size; omega
    clear hHeld HB7
    go_simp
    refine hK.out _ _ HS (fun hHeld => ?_)
    clear hK K HS
    try simp only [Act.put, List.setIfInBounds_toArray, List.set_cons_zero, List.set_cons_succ]
    refine wpAnyW_freed (i := 9) (by kernel_rfl) (by kernel_rfl) (by simp only [List.getElem?_toArray, List.getElem?_cons_succ, List.getElem?_cons_zero]; rfl) (fun K hK => ?_)
    rw [if_pos (by rfl)]
    refine wpB (ty := 44) #[.int .i64 3, .int .i64 0, .int .u32 (c.toNat : Int), .int .u32 0, .int .u32 (n : Int), .int .u32 0, .int .u16 0, .int .u16 0, .int .u16 0, .int .u16 0, .slice Ag gs.length kg, .slice A6 du.length k6, .slice none 0 0, .string ⟨#[]⟩] rfl rfl rfl HZ7.out infoC rfl (cellsS_one _ _ _ _ _ _ _ _) ?_
    intro w9 ht hg
    have HC := Lib.hid ht
    have HH := Lib.hid (hHeld.2.1.kept hg (by omega))
    have HZ4 := Lib.hid (hHeld.2.2.1.kept hg (by omega))
    have HZ5 := Lib.hid (hHeld.2.2.2.1.kept hg (by omega))
    have HMD := Lib.hid (hHeld.2.2.2.2.2.2.1.grown hg (fun z hz => by cases hz; omega))
    have HB := Lib.hid (below_of_grown1 hHeld.2.2.2.2.2.2.2 hg hHeld.2.2.2.2.2.2.2.size (by omega))
    replace HO := Lib.hid (HO.out.keep (fun z hz => (hg.block z (HO.out.lt z hz).2 (by intro e9; cases e9; have := HNE.out _ hz; omega))))
    clear ht hg hHeld HZ7
    refine hK.out _ _ ?_
    clear hK K
    try simp only [Act.put, List.setIfInBounds_toArray, List.set_cons_zero, List.set_cons_succ]
    refine wpAnyW_done (by kernel_rfl) ?_ _
    refine NoPanic.normal ?_
    go_wp2_with (first
    | ((with_reducible refine gate9 ?_); refine stF (.slice none 0 0) rfl rfl rfl rfl HH.out (by show 2 < 3; decide) infoS rfl ?_; intro w11 ht hg; replace HC := Lib.hid (HC.out.kept hg (by omega)); replace HZ4 := Lib.hid (HZ4.out.kept hg (by omega)); replace HZ5 := Lib.hid (HZ5.out.kept hg (by omega)); replace HMD := Lib.hid (HMD.out.grown hg (fun z hz => by cases hz; omega)); replace HB := Lib.hid (below_of_grown1 HB.out hg HB.out.size (by omega)); replace HO := Lib.hid (HO.out.keep (fun z hz => (hg.block z (HO.out.lt z hz).2 (by intro e9; cases e9; have := HNE.out _ hz; omega)))); replace HH : Hid (Bx w11 g6 25 #[.int .u32 (c.toNat : Int), .slice A5 ab.length k5, .slice none 0 0]) := Lib.hid ht; clear ht hg))
    refine wp_region_noPanic ?_
    refine wp_region_waits (S := fun V => Bx V g7 44 #[.int .i64 3, .int .i64 0, .int .u32 (c.toNat : Int), .int .u32 0, .int .u32 (n : Int), .int .u32 0, .int .u16 0, .int .u16 0, .int .u16 0, .int .u16 0, .slice Ag gs.length kg, .slice A6 du.length k6, .slice none 0 0, .string ⟨#[]⟩] ∧ Bx V g6 25 #[.int .u32 (c.toNat : Int), .slice A5 ab.length k5, .slice none 0 0]) [3] (by kernel_rfl) ⟨HC.out.drew, HH.out.drew⟩ (fun hHeld => ?_)
    replace HC := Lib.hid HC.out.drew
    replace HH := Lib.hid HH.out.drew
    replace HZ4 := Lib.hid HZ4.out.drew
    replace HZ5 := Lib.hid HZ5.out.drew
    replace HO := Lib.hid HO.out.drew
    replace HMD := Lib.hid (show MidS (w.heap.size + 3) w1 w11.drew from ⟨HMD.out.size, HMD.out.same⟩)
    replace HB := Lib.hid (below_drawn HB.out)
    refine wpAnyW_take (i := 0) (v := _) (by simp only [List.getElem?_toArray, List.getElem?_cons_zero]; rfl) (by kernel_rfl) (by kernel_rfl) (by kernel_rfl) (by kernel_rfl) (by kernel_rfl) (fun _ _ _ h => h) (yB (ty := 44) (by rfl) rfl rfl (fun V h => h.1) Try.underlying44 rfl infoC) (by assumption) ?_
    try simp only [Act.put, List.setIfInBounds_toArray, List.set_cons_zero, List.set_cons_succ]
    refine wpAnyW_take (i := 1) (v := _) (by simp only [List.getElem?_toArray, List.getElem?_cons_succ, List.getElem?_cons_zero]; rfl) (by kernel_rfl) (by kernel_rfl) (by kernel_rfl) (by kernel_rfl) (by kernel_rfl) (fun _ _ _ h => h) (yB (ty := 25) (by rfl) rfl rfl (fun V h => h.2) Try.underlying25 rfl infoG) (by assumption) ?_
    try simp only [Act.put, List.setIfInBounds_toArray, List.set_cons_zero, List.set_cons_succ]
    refine wpAnyW_held (i := 2) (by kernel_rfl) (by simp only [List.getElem?_toArray, List.getElem?_cons_succ, List.getElem?_cons_zero]; rfl) (fun K hK => ?_)
    rw [if_pos (by rfl)]
    refine wpB (ty := 44) #[.int .i64 3, .int .i64 0, .int .u32 (c.toNat : Int), .int .u32 0, .int .u32 (n : Int), .int .u32 0, .int .u16 0, .int .u16 0, .int .u16 0, .int .u16 0, .slice Ag gs.length kg, .slice A6 du.length k6, .slice none 0 0, .string ⟨#[]⟩] rfl rfl rfl HZ4.out infoC rfl (cellsS_one _ _ _ _ _ _ _ _) ?_
    intro w12 ht hg
    replace HZ4 := Lib.hid ht
    replace HZ5 := Lib.hid (HZ5.out.kept hg (by omega))
    replace HMD := Lib.hid (HMD.out.grown hg (fun z hz => by cases hz; omega))
    replace HB := Lib.hid (below_of_grown1 HB.out hg HB.out.size (by omega))
    replace HO := Lib.hid (HO.out.keep (fun z hz => (hg.block z (HO.out.lt z hz).2 (by intro e9; cases e9; have := HNE.out _ hz; omega))))
    refine hK.out _ _ ⟨HC.out.kept hg (by omega), HH.out.kept hg (by omega)⟩ (fun hHeld => ?_)
    clear hK K hHeld ht hg HC HH
    try simp only [Act.put, List.setIfInBounds_toArray, List.set_cons_zero, List.set_cons_succ]
    refine wpAnyW_freed (i := 3) (by kernel_rfl) (by kernel_rfl) (by simp only [List.getElem?_toArray, List.getElem?_cons_succ, List.getElem?_cons_zero]; rfl) (fun K hK => ?_)
    rw [if_pos (by rfl)]
    refine wpB (ty := 25) #[.int .u32 (c.toNat : Int), .slice A5 ab.length k5, .slice none 0 0] rfl rfl rfl HZ5.out infoG rfl (cellsG_one _ _ _ _ _ _ _) ?_
    intro w13 ht hg
    replace HZ4 := Lib.hid (HZ4.out.kept hg (by omega))
    replace HZ5 := Lib.hid ht
    replace HMD := Lib.hid (HMD.out.grown hg (fun z hz => by cases hz; omega))
    replace HB := Lib.hid (below_of_grown1 HB.out hg HB.out.size (by omega))
    replace HO := Lib.hid (HO.out.keep (fun z hz => (hg.block z (HO.out.lt z hz).2 (by intro e9; cases e9; have := HNE.out _ hz; omega))))
    clear ht hg
    refine hK.out _ _ ?_
    clear hK K
    try simp only [Act.put, List.setIfInBounds_toArray, List.set_cons_zero, List.set_cons_succ]
    refine wpAnyW_done (by kernel_rfl) ?_ _
    refine NoPanic.normal ?_
    go_wp2_with fail
    exact bodyPost_ret (retCG rfl rfl rfl rfl rfl HZ4.out HZ5.out) rfl ⟨Ag, kg, A6, k6, A5, k5, by rw [HGS.out], by rw [HGS.out]; exact HO.out, HRD.out.mid HFD.out HMD.out, HRA.out.mid HFA.out HMD.out, HB.out⟩
  · rw [if_pos (by rfl)]
    obtain ⟨W7, hW7, HZ7, HB7, hs7⟩ := one_open w3.drew 44 #[.int .i64 0, .int .i64 0, .int .u32 0, .int .u32 0, .int .u32 0, .int .u32 0, .int .u16 0, .int .u16 0, .int .u16 0, .int .u16 0, .slice none 0 0, .slice none 0 0, .slice none 0 0, .string ⟨#[]⟩]
    obtain ⟨g7, hg7⟩ : ∃ g, w3.drew.heap.size = g := ⟨_, rfl⟩
    rw [hg7] at HZ7
    have HS := (And.intro (hHeld.1.later HB7.out) (And.intro (hHeld.2.1.later HB7.out) (And.intro (hHeld.2.2.1.later HB7.out) (And.intro (hHeld.2.2.2.1.later HB7.out) (And.intro (hHeld.2.2.2.2.1.below HB7.out) (And.intro (hHeld.2.2.2.2.2.1.below HB7.out) (And.intro (hHeld.2.2.2.2.2.2.1.below HB7.out) (hHeld.2.2.2.2.2.2.2.trans (HB7.out.mono hHeld.2.2.2.2.2.2.2.size)))))))))
    have hg67 : g6 < g7 := by have := hHeld.2.1.lt; omega
    have hs17 : w1.heap.size ≤ g7 := by have := hHeld.2.2.2.2.2.2.1.size; omega
    clear hHeld HB7
    go_simp
    refine hK.out _ _ HS (fun hHeld => ?_)
    clear hK K HS
    try simp only [Act.put, List.setIfInBounds_toArray, List.set_cons_zero, List.set_cons_succ]
    refine wpAnyW_held (i := 4) (by kernel_rfl) (by simp only [List.getElem?_toArray, List.getElem?_cons_succ, List.getElem?_cons_zero]; rfl) (fun K hK => ?_)
    rw [if_pos (by rfl)]
    go_simp
    refine (HGP.out _ hHeld.2.2.2.2.1 hHeld.2.2.2.2.2.1).mono ?_
    rintro _ w4 ⟨vg, rfl, hog, hb4⟩
    have HS := (And.intro (hHeld.1.later hb4) (And.intro (hHeld.2.1.later hb4) (And.intro (hHeld.2.2.1.later hb4) (And.intro (hHeld.2.2.2.1.later hb4) (And.intro (hHeld.2.2.2.2.1.below hb4) (And.intro (hHeld.2.2.2.2.2.1.below hb4) (And.intro (hHeld.2.2.2.2.2.2.1.below hb4) (hHeld.2.2.2.2.2.2.2.trans (hb4.mono hHeld.2.2.2.2.2.2.2.size)))))))))
    have HO := Lib.hid (hog.base (Nat.le_trans hHeld.2.2.2.2.2.2.2.size (Nat.le_refl _)))
    have HOK := Lib.hid hog.lt
    have hg64 := hHeld.2.1.lt
    have hg74 := HZ7.out.lt
    replace HZ7 := Lib.hid (HZ7.out.later hb4)
    obtain ⟨Ag, kg, rfl, -, -, -⟩ := id hog.slice
    clear hHeld hog hb4
    go_wp2_with fail
    refine hK.out _ _ HS (fun hHeld => ?_)
    clear hK K HS
    try simp only [Act.put, List.setIfInBounds_toArray, List.set_cons_zero, List.set_cons_succ]
    have HNE : Hid (∀ z, (Value.slice Ag gs.length kg).ownBlock = some z → w.heap.size + 2 < z ∧ g6 < z ∧ z ≠ g7) := Lib.hid (fun z hz => by have := HOK.out z hz; omega)
    refine wpAnyW_take (i := 7) (v := ?_) (by simp only [List.getElem?_toArray, List.getElem?_cons_succ, List.getElem?_cons_zero]; rfl) (by kernel_rfl) (by kernel_rfl) (by kernel_rfl) (by kernel_rfl) (by kernel_rfl) (fun _ _ _ h => h) (Or.inl ⟨by rfl, ?_⟩) (by assumption) ?_
    rotate_left 1
    · (intro w' hSw; go_simp; try with_reducible rfl)
    try simp only [Act.put, List.setIfInBounds_toArray, List.set_cons_zero, List.set_cons_succ]
    refine wpAnyW_freed (i := 9) (by kernel_rfl) (by kernel_rfl) (by simp only [List.getElem?_toArray, List.getElem?_cons_succ, List.getElem?_cons_zero]; rfl) (fun K hK => ?_)
    rw [if_pos (by rfl)]
    refine wpB (ty := 44) #[.int .i64 3, .int .i64 0, .int .u32 (c.toNat : Int), .int .u32 0, .int .u32 (n : Int), .int .u32 0, .int .u16 0, .int .u16 0, .int .u16 0, .int .u16 0, .slice Ag gs.length kg, .slice A6 du.length k6, .slice none 0 0, .string ⟨#[]⟩] rfl rfl rfl HZ7.out infoC rfl (cellsS_one _ _ _ _ _ _ _ _) ?_
    intro w9 ht hg
    have HC := Lib.hid ht
    have HH := Lib.hid (hHeld.2.1.kept hg (by omega))
    have HZ4 := Lib.hid (hHeld.2.2.1.kept hg (by omega))
    have HZ5 := Lib.hid (hHeld.2.2.2.1.kept hg (by omega))
    have HMD := Lib.hid (hHeld.2.2.2.2.2.2.1.grown hg (fun z hz => by cases hz; omega))
    have HB := Lib.hid (below_of_grown1 hHeld.2.2.2.2.2.2.2 hg hHeld.2.2.2.2.2.2.2.size (by omega))
    replace HO := Lib.hid (HO.out.keep (fun z hz => (hg.block z (HO.out.lt z hz).2 (by intro e9; cases e9; have := HNE.out _ hz; omega))))
    clear ht hg hHeld HZ7
    refine hK.out _ _ ?_
    clear hK K
    try simp only [Act.put, List.setIfInBounds_toArray, List.set_cons_zero, List.set_cons_succ]
    refine wpAnyW_done (by kernel_rfl) ?_ _
    refine NoPanic.normal ?_
    go_wp2_with (first
    | ((with_reducible refine gate9 ?_); refine stF (.slice none 0 0) rfl rfl rfl rfl HH.out (by show 2 < 3; decide) infoS rfl ?_; intro w11 ht hg; replace HC := Lib.hid (HC.out.kept hg (by omega)); replace HZ4 := Lib.hid (HZ4.out.kept hg (by omega)); replace HZ5 := Lib.hid (HZ5.out.kept hg (by omega)); replace HMD := Lib.hid (HMD.out.grown hg (fun z hz => by cases hz; omega)); replace HB := Lib.hid (below_of_grown1 HB.out hg HB.out.size (by omega)); replace HO := Lib.hid (HO.out.keep (fun z hz => (hg.block z (HO.out.lt z hz).2 (by intro e9; cases e9; have := HNE.out _ hz; omega)))); replace HH : Hid (Bx w11 g6 25 #[.int .u32 (c.toNat : Int), .slice A5 ab.length k5, .slice none 0 0]) := Lib.hid ht; clear ht hg))
    refine wp_region_noPanic ?_
    refine wp_region_waits (S := fun V => Bx V g7 44 #[.int .i64 3, .int .i64 0, .int .u32 (c.toNat : Int), .int .u32 0, .int .u32 (n : Int), .int .u32 0, .int .u16 0, .int .u16 0, .int .u16 0, .int .u16 0, .slice Ag gs.length kg, .slice A6 du.length k6, .slice none 0 0, .string ⟨#[]⟩] ∧ Bx V g6 25 #[.int .u32 (c.toNat : Int), .slice A5 ab.length k5, .slice none 0 0]) [3] (by kernel_rfl) ⟨HC.out.drew, HH.out.drew⟩ (fun hHeld => ?_)
    replace HC := Lib.hid HC.out.drew
    replace HH := Lib.hid HH.out.drew
    replace HZ4 := Lib.hid HZ4.out.drew
    replace HZ5 := Lib.hid HZ5.out.drew
    replace HO := Lib.hid HO.out.drew
    replace HMD := Lib.hid (show MidS (w.heap.size + 3) w1 w11.drew from ⟨HMD.out.size, HMD.out.same⟩)
    replace HB := Lib.hid (below_drawn HB.out)
    refine wpAnyW_take (i := 0) (v := _) (by simp only [List.getElem?_toArray, List.getElem?_cons_zero]; rfl) (by kernel_rfl) (by kernel_rfl) (by kernel_rfl) (by kernel_rfl) (by kernel_rfl) (fun _ _ _ h => h) (yB (ty := 44) (by rfl) rfl rfl (fun V h => h.1) Try.underlying44 rfl infoC) (by assumption) ?_
    try simp only [Act.put, List.setIfInBounds_toArray, List.set_cons_zero, List.set_cons_succ]
    refine wpAnyW_take (i := 1) (v := _) (by simp only [List.getElem?_toArray, List.getElem?_cons_succ, List.getElem?_cons_zero]; rfl) (by kernel_rfl) (by kernel_rfl) (by kernel_rfl) (by kernel_rfl) (by kernel_rfl) (fun _ _ _ h => h) (yB (ty := 25) (by rfl) rfl rfl (fun V h => h.2) Try.underlying25 rfl infoG) (by assumption) ?_
    try simp only [Act.put, List.setIfInBounds_toArray, List.set_cons_zero, List.set_cons_succ]
    refine wpAnyW_held (i := 2) (by kernel_rfl) (by simp only [List.getElem?_toArray, List.getElem?_cons_succ, List.getElem?_cons_zero]; rfl) (fun K hK => ?_)
    rw [if_pos (by rfl)]
    refine wpB (ty := 44) #[.int .i64 3, .int .i64 0, .int .u32 (c.toNat : Int), .int .u32 0, .int .u32 (n : Int), .int .u32 0, .int .u16 0, .int .u16 0, .int .u16 0, .int .u16 0, .slice Ag gs.length kg, .slice A6 du.length k6, .slice none 0 0, .string ⟨#[]⟩] rfl rfl rfl HZ4.out infoC rfl (cellsS_one _ _ _ _ _ _ _ _) ?_
    intro w12 ht hg
    replace HZ4 := Lib.hid ht
    replace HZ5 := Lib.hid (HZ5.out.kept hg (by omega))
    replace HMD := Lib.hid (HMD.out.grown hg (fun z hz => by cases hz; omega))
    replace HB := Lib.hid (below_of_grown1 HB.out hg HB.out.size (by omega))
    replace HO := Lib.hid (HO.out.keep (fun z hz => (hg.block z (HO.out.lt z hz).2 (by intro e9; cases e9; have := HNE.out _ hz; omega))))
    refine hK.out _ _ ⟨HC.out.kept hg (by omega), HH.out.kept hg (by omega)⟩ (fun hHeld => ?_)
    clear hK K hHeld ht hg HC HH
    try simp only [Act.put, List.setIfInBounds_toArray, List.set_cons_zero, List.set_cons_succ]
    refine wpAnyW_freed (i := 3) (by kernel_rfl) (by kernel_rfl) (by simp only [List.getElem?_toArray, List.getElem?_cons_succ, List.getElem?_cons_zero]; rfl) (fun K hK => ?_)
    rw [if_pos (by rfl)]
    refine wpB (ty := 25) #[.int .u32 (c.toNat : Int), .slice A5 ab.length k5, .slice none 0 0] rfl rfl rfl HZ5.out infoG rfl (cellsG_one _ _ _ _ _ _ _) ?_
    intro w13 ht hg
    replace HZ4 := Lib.hid (HZ4.out.kept hg (by omega))
    replace HZ5 := Lib.hid ht
    replace HMD := Lib.hid (HMD.out.grown hg (fun z hz => by cases hz; omega))
    replace HB := Lib.hid (below_of_grown1 HB.out hg HB.out.size (by omega))
    replace HO := Lib.hid (HO.out.keep (fun z hz => (hg.block z (HO.out.lt z hz).2 (by intro e9; cases e9; have := HNE.out _ hz; omega))))
    clear ht hg
    refine hK.out _ _ ?_
    clear hK K
    try simp only [Act.put, List.setIfInBounds_toArray, List.set_cons_zero, List.set_cons_succ]
    refine wpAnyW_done (by kernel_rfl) ?_ _
    refine NoPanic.normal ?_
    go_wp2_with fail
    exact bodyPost_ret (retCG rfl rfl rfl rfl rfl HZ4.out HZ5.out) rfl ⟨Ag, kg, A6, k6, A5, k5, by rw [HGS.out], by rw [HGS.out]; exact HO.out, HRD.out.mid HFD.out HMD.out, HRA.out.mid HFA.out HMD.out, HB.out⟩
end Go.Proofs.Ytfdnphkdpmlbnaa
