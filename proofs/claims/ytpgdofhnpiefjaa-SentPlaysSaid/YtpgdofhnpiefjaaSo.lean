/-
  Package sent: Put: contract.
-/
import Derived.Test.YtpgdofhnpiefjaaSf
import Derived.Deep.RegionLawGrows
namespace Go.Proofs.Ytpgdofhnpiefjaa
open Go.RowKit
set_option linter.unusedVariables false
set_option linter.unusedSimpArgs false
set_option maxRecDepth 100000

/-- Two may come up next. -/
theorem wpAnyW_two {P : Program} {ops : Array Oper} {Q : Exit → Act → World → Prop} {md : Region.Mode} {S : World → Prop} {W : List Nat} {i i2 : Nat} {o o2 : Oper} {fuel : Nat} {listed : Array Bool} {a : Act} {w : World} (hr : Region.ready md ops listed = [i, i2]) (ho : ops[i]? = some o) (ho2 : ops[i2]? = some o2)
    (h : ∀ K' : Act → World → Prop, Shut (∀ a w, S w → (S w → wpAnyW P md ops Q S W fuel (listed.setIfInBounds i true) a w) → K' a w) → if Region.wanted o (yielded ops a.tmps) = true then Oper.wp P o a w K' Q else K' (a.put o.dst undef) w)
    (h2 : ∀ K' : Act → World → Prop, Shut (∀ a w, S w → (S w → wpAnyW P md ops Q S W fuel (listed.setIfInBounds i2 true) a w) → K' a w) → if Region.wanted o2 (yielded ops a.tmps) = true then Oper.wp P o2 a w K' Q else K' (a.put o2.dst undef) w) :
    wpAnyW P md ops Q S W (fuel + 1) listed a w :=
  ⟨fun h0 => (by rw [hr] at h0; cases h0), fun j hj => by
    rw [hr] at hj
    rcases List.mem_cons.1 hj with rfl | hj
    · exact wpOp_step ho (fun K' hK => h K' (fun a w hS hW => hK a w ⟨fun _ => hS, hW hS⟩))
    · obtain rfl := List.mem_singleton.1 hj
      exact wpOp_step ho2 (fun K' hK => h2 K' (fun a w hS hW => hK a w ⟨fun _ => hS, hW hS⟩))⟩
theorem retSTT {fn : Func} {p q u : Tmp} (h : fn.results = #[.cell p 27, .tmp q, .tmp u]) {tmps : Array Value} {w : World} {g : Nat} {cs : Array Value} {v v' : Value} (hz : cs.size = 2) (hp : tmps.getD p undef = .pointer (some ⟨g, 0, none⟩)) (hq : tmps.getD q undef = v) (hu : tmps.getD u undef = v') (hg : Bx w g 27 cs) : (results fn tmps).run Try.prog w = .ok (.tuple #[.agg cs, v, v']) w := by
  have hp' : tmps[p]?.getD undef = .pointer (some ⟨g, 0, none⟩) := by simpa using hp
  have hq' : tmps[q]?.getD undef = v := by simpa using hq
  have hu' : tmps[u]?.getD undef = v' := by simpa using hu
  simp [results, h, hp', hq', hu', asAddr, run_loadVar_row w g 27 27 cs (0, 0) _ hg Try.underlying27 rfl (by rw [hz]; exact infoS)]
theorem flatP_one1 {l : List Pc} {x : Pc} : flatP (l ++ [x]) = flatP l ++ (cellsPc x).toList := by rw [flatP_append]; simp [flatP]
theorem pn_all (n a b c : Int) : (#[.int .u32 n, .int .i64 a, .int .i64 1, .int .i64 0, .int .i64 1, .int .i64 b, .int .i64 c] : Array Value).all (·.oneCell') = true := by simp [Value.oneCell']
theorem pn_one (n a b c : Int) {u : Value} (hu : u ∈ (#[.int .u32 n, .int .i64 a, .int .i64 1, .int .i64 0, .int .i64 1, .int .i64 b, .int .i64 c] : Array Value).toList) : u.oneCell' = true := (Array.all_eq_true_iff_forall_mem.1 (pn_all n a b c)) u (by simpa using hu)
def newPc (n : UInt32) (size path now : Int) : Pc := ⟨n, size, 1, 0, 1, path, now⟩
theorem put_full (c : UInt32) (l : List Pc) (size path now : Int) (h1 : 1 ≤ size) (h2 : size ≤ 1500) (hl : l.length = 64) (v : Value) (w : World) (h : RowP w v l) :
    Calls Try.prog 7 #[.agg #[.int .u32 (c.toNat : Int), v], .int .i64 size, .int .i64 path, .int .i64 now] w fun e w' => e = .returned (.tuple #[.agg #[.int .u32 0, .slice none 0 0], .int .u32 0, .int .i64 10]) ∧ Below w.heap.size w w' := by
  obtain ⟨W, hW, HA, HZ, HB, hs⟩ := two_open w 27 27 #[.int .u32 (c.toNat : Int), v] #[.int .u32 0, .slice none 0 0]
  obtain ⟨A, cap, rfl, _, _, _⟩ := id h
  rw [hl] at *
  have c1 := HA.out.cell 1 (.slice A 64 cap) rfl
  have q1 : ¬ size < 1 := by omega
  have q2 : ¬ 1500 < size := by omega
  clear h
  go_enter Try.func7, Try.ntmps7
  go_wp2_with (first
    | ((with_reducible refine gate9 ?_); refine stB (ty := 27) #[.int .u32 0, .slice none 0 0] rfl rfl rfl rfl HZ.out infoS rfl (cellsS_one _ _ _ _) ?_; intro w9 ht hg; replace HB := Lib.hid (below_of_grown1 HB.out hg HB.out.size (by omega)); replace HZ := Lib.hid ht; clear ht hg))
  exact bodyPost_ret (retSTT rfl rfl rfl rfl rfl HZ.out) rfl ⟨rfl, HB.out⟩
set_option maxHeartbeats 2000000 in
theorem put_any (c : UInt32) (l : List Pc) (size path now : Int) (h1 : 1 ≤ size) (h2 : size ≤ 1500) (hl : l.length < 64) (v : Value) (w : World) (h : RowP w v l) :
    Calls Try.prog 7 #[.agg #[.int .u32 (c.toNat : Int), v], .int .i64 size, .int .i64 path, .int .i64 now] w fun e w' => ∃ A k, e = .returned (.tuple #[.agg #[.int .u32 (c.toNat : Int), .slice A (l.length + 1) k], .int .u32 ((nextL c l).toNat : Int), .int .i64 0]) ∧ RowP w' (.slice A (l.length + 1) k) (l ++ [newPc (nextL c l) size path now]) ∧ Fresh w.heap.size (.slice A (l.length + 1) k) ∧ Below w.heap.size w w' := by
  obtain ⟨W, hW, HA, HZ, HB, hs⟩ := two_open w 27 27 #[.int .u32 (c.toNat : Int), v] #[.int .u32 0, .slice none 0 0]
  have HV0 := Lib.hid h
  obtain ⟨A, cap, rfl, hcap, hmx, _⟩ := id h
  have c1 := HA.out.cell 1 (.slice A l.length cap) rfl
  have hcap' : (cap : Int) ≤ 9223372036854775807 := by unfold maxLen at hmx; omega
  have HNX := Lib.hid (fun W => next_any c A l.length cap (by omega) W)
  have HCP := Lib.hid (fun W => clip_any A l.length cap hcap hcap' W)
  obtain ⟨i0, hi0, hz0, hz1, hz2⟩ := info_parts infoPZ
  have HI := Lib.hid hi0
  have HZ0 := Lib.hid hz0
  have HZ1 := Lib.hid hz1
  have HZ2 := Lib.hid hz2
  obtain ⟨nx, hnx⟩ : ∃ n, nextL c l = n := ⟨_, rfl⟩
  have hnx3 : (c + UInt32.ofNat l.length + 1) = nx := hnx
  rw [hnx3] at HNX
  rw [hnx]
  obtain ⟨pn, hpn⟩ : ∃ p, newPc nx size path now = p := ⟨_, rfl⟩
  rw [hpn]
  have HPN : Hid (cellsPc pn = #[.int .u32 (nx.toNat : Int), .int .i64 size, .int .i64 1, .int .i64 0, .int .i64 1, .int .i64 path, .int .i64 now]) := Lib.hid (by rw [← hpn]; rfl)
  have q1 : ¬ size < 1 := by omega
  have q2 : ¬ 1500 < size := by omega
  have q3 : ¬ (64 : Int) ≤ (l.length : Int) := by omega
  have q4 : (l.length : Int) ≤ 64 := by omega
  clear h hi0 hz0 hz1 hz2 hnx hnx3 hpn
  go_enter Try.func7, Try.ntmps7
  go_wp2_with (first
    | ((with_reducible refine gate9 ?_); refine ldB rfl rfl rfl HA.out Try.underlying27 rfl infoS ?_)
    | (go_at_call 15; (with_reducible refine (HNX.out _).mono ?_); rintro e w1 ⟨rfl, hb⟩; replace HA := Lib.hid (HA.out.later hb); replace HZ := Lib.hid (HZ.out.later hb); replace HB := Lib.hid (HB.out.trans (hb.mono HB.out.size)); have hs1 : w.heap.size + 2 ≤ w1.heap.size := (by have := hb.size; omega); clear hb; obtain ⟨W3, hW3, HX, HB3, hs3⟩ := one_open w1 58 #[.int .u32 0, .int .i64 0, .int .i64 0, .int .i64 0, .int .i64 0, .int .i64 0, .int .i64 0]; obtain ⟨g11, hg11⟩ : ∃ g, w1.heap.size = g := ⟨_, rfl⟩; rw [hg11] at HX hs3 hs1)
    | ((with_reducible refine gate9 ?_); refine stB (ty := 58) #[.int .u32 (nx.toNat : Int), .int .i64 size, .int .i64 1, .int .i64 0, .int .i64 1, .int .i64 path, .int .i64 now] rfl rfl rfl rfl HX.out infoP rfl (pn_all _ _ _ _) ?_; intro w5 ht hg; replace HA := Lib.hid ((HA.out.later HB3.out).kept hg (by omega)); replace HZ := Lib.hid ((HZ.out.later HB3.out).kept hg (by omega)); replace HB := Lib.hid (below_of_grown1 (HB.out.trans (HB3.out.mono HB.out.size)) hg (by omega) (by omega)); replace HX := Lib.hid ht; clear ht hg))
  clear hW hW3 hs3 c1
  have HS : (fun V => Bx V w.heap.size 27 #[.int .u32 (c.toNat : Int), .slice A l.length cap] ∧ Bx V g11 58 #[.int .u32 (nx.toNat : Int), .int .i64 size, .int .i64 1, .int .i64 0, .int .i64 1, .int .i64 path, .int .i64 now] ∧ Below w.heap.size w V) _ := ⟨HA.out.drew, HX.out.drew, below_drawn HB.out⟩
  have hsX := HX.out.lt
  obtain ⟨W7, hW7, HN7, HB7, hs7⟩ := one_open w5.drew 58 #[.int .u32 (nx.toNat : Int), .int .i64 size, .int .i64 1, .int .i64 0, .int .i64 1, .int .i64 path, .int .i64 now]
  obtain ⟨g7, hg7⟩ : ∃ g, w5.drew.heap.size = g := ⟨_, rfl⟩
  rw [hg7] at HN7 hs7
  have hg57 : w5.heap.size = g7 := hg7
  refine wp_region_noPanic ?_
  refine wp_region_waits (S := (fun V => Bx V w.heap.size 27 #[.int .u32 (c.toNat : Int), .slice A l.length cap] ∧ Bx V g11 58 #[.int .u32 (nx.toNat : Int), .int .i64 size, .int .i64 1, .int .i64 0, .int .i64 1, .int .i64 path, .int .i64 now] ∧ Below w.heap.size w V)) [13] (by kernel_rfl) HS (fun hHeld => ?_)
  clear HS HA HX HB
  refine wpAnyW_take (i := 0) (v := ?_) (by simp only [List.getElem?_toArray, List.getElem?_cons_zero]; rfl) (by kernel_rfl) (by kernel_rfl) (by kernel_rfl) (by kernel_rfl) (by kernel_rfl) (fun _ _ _ h => h) (Or.inl ⟨by rfl, ?_⟩) (by assumption) ?_
  rotate_left 1
  · (intro w' hSw; go_simp; try with_reducible rfl)
  try simp only [Act.put, List.setIfInBounds_toArray, List.set_cons_zero, List.set_cons_succ]
  refine wpAnyW_take (i := 1) (v := ?_) (by simp only [List.getElem?_toArray, List.getElem?_cons_succ, List.getElem?_cons_zero]; rfl) (by kernel_rfl) (by kernel_rfl) (by kernel_rfl) (by kernel_rfl) (by kernel_rfl) (fun _ _ _ h => h) (Or.inl ⟨by rfl, ?_⟩) (by assumption) ?_
  rotate_left 1
  · (intro w' hSw; have hq := hSw.1.cell 0 (.int .u32 (c.toNat : Int)) rfl; go_simp; try with_reducible rfl)
  try simp only [Act.put, List.setIfInBounds_toArray, List.set_cons_zero, List.set_cons_succ]
  refine wpAnyW_take (i := 2) (v := ?_) (by simp only [List.getElem?_toArray, List.getElem?_cons_succ, List.getElem?_cons_zero]; rfl) (by kernel_rfl) (by kernel_rfl) (by kernel_rfl) (by kernel_rfl) (by kernel_rfl) (fun _ _ _ h => h) (Or.inl ⟨by rfl, ?_⟩) (by assumption) ?_
  rotate_left 1
  · (intro w' hSw; go_simp; try with_reducible rfl)
  try simp only [Act.put, List.setIfInBounds_toArray, List.set_cons_zero, List.set_cons_succ]
  refine wpAnyW_take (i := 3) (v := ?_) (by simp only [List.getElem?_toArray, List.getElem?_cons_succ, List.getElem?_cons_zero]; rfl) (by kernel_rfl) (by kernel_rfl) (by kernel_rfl) (by kernel_rfl) (by kernel_rfl) (fun _ _ _ h => h) (Or.inl ⟨by rfl, ?_⟩) (by assumption) ?_
  rotate_left 1
  · (intro w' hSw; have hq := hSw.1.cell 1 (.slice A l.length cap) rfl; go_simp; try with_reducible rfl)
  try simp only [Act.put, List.setIfInBounds_toArray, List.set_cons_zero, List.set_cons_succ]
  refine wpAnyW_take (i := 5) (v := _) (by simp only [List.getElem?_toArray, List.getElem?_cons_succ, List.getElem?_cons_zero]; rfl) (by kernel_rfl) (by kernel_rfl) (by kernel_rfl) (by kernel_rfl) (by kernel_rfl) (fun _ _ _ h => h) (yB (ty := 58) (by rfl) rfl rfl (fun V h => h.2.1) Try.underlying58 rfl infoP) (by assumption) ?_
  try simp only [Act.put, List.setIfInBounds_toArray, List.set_cons_zero, List.set_cons_succ]
  refine wpAnyW_take (i := 9) (v := ?_) (by simp only [List.getElem?_toArray, List.getElem?_cons_succ, List.getElem?_cons_zero]; rfl) (by kernel_rfl) (by kernel_rfl) (by kernel_rfl) (by kernel_rfl) (by kernel_rfl) (fun _ _ _ h => h) (Or.inl ⟨by rfl, ?_⟩) (by assumption) ?_
  rotate_left 1
  · (intro w' hSw; go_simp; try with_reducible rfl)
  try simp only [Act.put, List.setIfInBounds_toArray, List.set_cons_zero, List.set_cons_succ]
  refine wpAnyW_take (i := 10) (v := ?_) (by simp only [List.getElem?_toArray, List.getElem?_cons_succ, List.getElem?_cons_zero]; rfl) (by kernel_rfl) (by kernel_rfl) (by kernel_rfl) (by kernel_rfl) (by kernel_rfl) (fun _ _ _ h => h) (Or.inl ⟨by rfl, ?_⟩) (by assumption) ?_
  rotate_left 1
  · (intro w' hSw; have hq := hSw.2.1.cell 0 (.int .u32 (nx.toNat : Int)) rfl; go_simp; try with_reducible rfl)
  try simp only [Act.put, List.setIfInBounds_toArray, List.set_cons_zero, List.set_cons_succ]
  refine wpAnyW_two (i := 4) (i2 := 6) (by kernel_rfl) (by simp only [List.getElem?_toArray, List.getElem?_cons_succ, List.getElem?_cons_zero]; rfl) (by simp only [List.getElem?_toArray, List.getElem?_cons_succ, List.getElem?_cons_zero]; rfl) (fun K hK => ?_) (fun K hK => ?_)
  · rw [if_pos (by rfl)]
    go_simp
    refine (HCP.out _).mono ?_
    rintro _ w9 ⟨B, rfl, hB1, hB2, e9⟩
    replace e9 := e9.symm
    subst e9
    have HS := hHeld
    clear hHeld
    go_wp2_with fail
    refine hK.out _ _ HS (fun hHeld => ?_)
    clear hK K HS
    try simp only [Act.put, List.setIfInBounds_toArray, List.set_cons_zero, List.set_cons_succ]
    refine wpAnyW_held (i := 6) (by kernel_rfl) (by simp only [List.getElem?_toArray, List.getElem?_cons_succ, List.getElem?_cons_zero]; rfl) (fun K hK => ?_)
    rw [if_pos (by rfl)]
    have HS : (fun V => Bx V w.heap.size 27 #[.int .u32 (c.toNat : Int), .slice A l.length cap] ∧ Bx V g11 58 #[.int .u32 (nx.toNat : Int), .int .i64 size, .int .i64 1, .int .i64 0, .int .i64 1, .int .i64 path, .int .i64 now] ∧ Below w.heap.size w V) _ := (And.intro (hHeld.1.later HB7.out) (And.intro (hHeld.2.1.later HB7.out) (hHeld.2.2.trans (HB7.out.mono hHeld.2.2.size))))
    clear hHeld
    go_simp
    refine hK.out _ _ HS (fun hHeld => ?_)
    clear hK K HS
    try simp only [Act.put, List.setIfInBounds_toArray, List.set_cons_zero, List.set_cons_succ]
    refine wpAnyW_held (i := 7) (by kernel_rfl) (by simp only [List.getElem?_toArray, List.getElem?_cons_succ, List.getElem?_cons_zero]; rfl) (fun K hK => ?_)
    refine step_append_grows (by rfl) (.tmp 36) (.tmp 38) 25 (by rfl) 58 i0 _ 7 56 Try.underlying25 HI.out HZ0.out HZ1.out HZ2.out rfl (by decide) B l.length l.length (flatP l) (by rfl) (fun e => ?hn) (flatP_length l) (fun b e => ?hc) ⟨g7, 0, none⟩ 1 1 (#[.int .u32 (nx.toNat : Int), .int .i64 size, .int .i64 1, .int .i64 0, .int .i64 1, .int .i64 path, .int .i64 now] : Array Value).toList (by rfl) rfl (fun j u hu => by rw [addr_plain, Nat.zero_add, HN7.out.at]; simpa using hu) (fun u hu => pn_one _ _ _ _ hu) (by omega) (by unfold maxLen; omega) (by omega) ?_
    case hn =>
      by_cases h0 : 0 < l.length
      · obtain ⟨b, off, cap', e9, -⟩ := HV0.out.at h0
        cases e9
        have := hB1 h0
        rw [e] at this
        cases this
      · omega
    case hc =>
      intro j u hu
      have h0 : 0 < l.length := by have := (List.getElem?_eq_some_iff.1 hu).1; rw [flatP_length] at this; omega
      have hb := hB1 h0
      rw [e] at hb
      have h9 := HV0.out.below hHeld.2.2
      rw [← hb] at h9
      exact fedP h9 j u hu
    intro v8 w8 hown hgr
    have hb8 : Below W7.heap.size W7 w8 := (Below.refl _ _).grown hgr (Nat.le_refl _) (fun k hk => by cases hk)
    have HS : (fun V => Bx V w.heap.size 27 #[.int .u32 (c.toNat : Int), .slice A l.length cap] ∧ Bx V g11 58 #[.int .u32 (nx.toNat : Int), .int .i64 size, .int .i64 1, .int .i64 0, .int .i64 1, .int .i64 path, .int .i64 now] ∧ Below w.heap.size w V) _ := (And.intro (hHeld.1.later hb8) (And.intro (hHeld.2.1.later hb8) (hHeld.2.2.trans (hb8.mono hHeld.2.2.size))))
    have HZ8 := Lib.hid ((HZ.out.drew.later HB7.out).later hb8)
    obtain ⟨A8, k8, rfl, -, -⟩ := own_form2 hown
    have hs8 := hb8.size
    rw [← HPN.out, ← flatP_one1] at hown
    have HO := Lib.hid (OwnV.of_own hown)
    clear hown hgr hb8 hHeld hB1 hB2
    try simp only [Act.put, List.setIfInBounds_toArray, List.set_cons_zero, List.set_cons_succ]
    refine hK.out _ _ HS (fun hHeld => ?_)
    clear hK K HS
    try simp only [Act.put, List.setIfInBounds_toArray, List.set_cons_zero, List.set_cons_succ]
    refine wpAnyW_take (i := 8) (v := ?_) (by simp only [List.getElem?_toArray, List.getElem?_cons_succ, List.getElem?_cons_zero]; rfl) (by kernel_rfl) (by kernel_rfl) (by kernel_rfl) (by kernel_rfl) (by kernel_rfl) (fun _ _ _ h => h) (Or.inl ⟨by rfl, ?_⟩) (by assumption) ?_
    rotate_left 1
    · (intro w' hSw; go_simp; try with_reducible rfl)
    try simp only [Act.put, List.setIfInBounds_toArray, List.set_cons_zero, List.set_cons_succ]
    refine wpAnyW_held (i := 11) (by kernel_rfl) (by simp only [List.getElem?_toArray, List.getElem?_cons_succ, List.getElem?_cons_zero]; rfl) (fun K hK => ?_)
    rw [if_pos (by rfl)]
    refine wpB (ty := 27) #[.int .u32 (c.toNat : Int), .slice A8 (l.length + 1) k8] rfl rfl rfl HZ8.out infoS rfl (cellsS_one _ _ _ _) ?_
    intro w10 ht hg
    have hg11 := hHeld.2.1.lt
    have HS : (fun V => Bx V w.heap.size 27 #[.int .u32 (c.toNat : Int), .slice A l.length cap] ∧ Bx V g11 58 #[.int .u32 (nx.toNat : Int), .int .i64 size, .int .i64 1, .int .i64 0, .int .i64 1, .int .i64 path, .int .i64 now] ∧ Below w.heap.size w V) _ := ⟨hHeld.1.kept hg (by omega), hHeld.2.1.kept hg (by omega), below_of_grown1 hHeld.2.2 hg hHeld.2.2.size (by omega)⟩
    replace HO := Lib.hid (HO.out.grown hg (fun z e _ => by intro e2; cases e2; have := HO.out.base _ e; simp at this; omega))
    replace HZ8 := Lib.hid ht
    clear ht hg hHeld
    refine hK.out _ _ HS (fun hHeld => ?_)
    clear hK K HS
    try simp only [Act.put, List.setIfInBounds_toArray, List.set_cons_zero, List.set_cons_succ]
    refine wpAnyW_take (i := 12) (v := ?_) (by simp only [List.getElem?_toArray, List.getElem?_cons_succ, List.getElem?_cons_zero]; rfl) (by kernel_rfl) (by kernel_rfl) (by kernel_rfl) (by kernel_rfl) (by kernel_rfl) (fun _ _ _ h => h) (Or.inl ⟨by rfl, ?_⟩) (by assumption) ?_
    rotate_left 1
    · (intro w' hSw; go_simp; try with_reducible rfl)
    try simp only [Act.put, List.setIfInBounds_toArray, List.set_cons_zero, List.set_cons_succ]
    refine wpAnyW_freed (i := 13) (by kernel_rfl) (by kernel_rfl) (by simp only [List.getElem?_toArray, List.getElem?_cons_succ, List.getElem?_cons_zero]; rfl) (fun K hK => ?_)
    rw [if_pos (by rfl)]
    go_simp
    have HBE := Lib.hid hHeld.2.2
    refine hK.out _ _ ?_
    clear hK K hHeld
    try simp only [Act.put, List.setIfInBounds_toArray, List.set_cons_zero, List.set_cons_succ]
    refine wpAnyW_done (by kernel_rfl) ?_ _
    refine NoPanic.normal ?_
    go_wp2_with fail
    exact bodyPost_ret (retSTT rfl rfl rfl rfl rfl HZ8.out) rfl ⟨A8, k8, rfl, HO.out.row, HO.out.fresh.less (by omega), HBE.out⟩
  · rw [if_pos (by rfl)]
    have HS : (fun V => Bx V w.heap.size 27 #[.int .u32 (c.toNat : Int), .slice A l.length cap] ∧ Bx V g11 58 #[.int .u32 (nx.toNat : Int), .int .i64 size, .int .i64 1, .int .i64 0, .int .i64 1, .int .i64 path, .int .i64 now] ∧ Below w.heap.size w V) _ := (And.intro (hHeld.1.later HB7.out) (And.intro (hHeld.2.1.later HB7.out) (hHeld.2.2.trans (HB7.out.mono hHeld.2.2.size))))
    clear hHeld
    go_simp
    refine hK.out _ _ HS (fun hHeld => ?_)
    clear hK K HS
    try simp only [Act.put, List.setIfInBounds_toArray, List.set_cons_zero, List.set_cons_succ]
    refine wpAnyW_held (i := 4) (by kernel_rfl) (by simp only [List.getElem?_toArray, List.getElem?_cons_succ, List.getElem?_cons_zero]; rfl) (fun K hK => ?_)
    rw [if_pos (by rfl)]
    go_simp
    refine (HCP.out _).mono ?_
    rintro _ w9 ⟨B, rfl, hB1, hB2, e9⟩
    replace e9 := e9.symm
    subst e9
    have HS := hHeld
    clear hHeld
    go_wp2_with fail
    refine hK.out _ _ HS (fun hHeld => ?_)
    clear hK K HS
    try simp only [Act.put, List.setIfInBounds_toArray, List.set_cons_zero, List.set_cons_succ]
    refine wpAnyW_held (i := 7) (by kernel_rfl) (by simp only [List.getElem?_toArray, List.getElem?_cons_succ, List.getElem?_cons_zero]; rfl) (fun K hK => ?_)
    refine step_append_grows (by rfl) (.tmp 36) (.tmp 38) 25 (by rfl) 58 i0 _ 7 56 Try.underlying25 HI.out HZ0.out HZ1.out HZ2.out rfl (by decide) B l.length l.length (flatP l) (by rfl) (fun e => ?hn) (flatP_length l) (fun b e => ?hc) ⟨g7, 0, none⟩ 1 1 (#[.int .u32 (nx.toNat : Int), .int .i64 size, .int .i64 1, .int .i64 0, .int .i64 1, .int .i64 path, .int .i64 now] : Array Value).toList (by rfl) rfl (fun j u hu => by rw [addr_plain, Nat.zero_add, HN7.out.at]; simpa using hu) (fun u hu => pn_one _ _ _ _ hu) (by omega) (by unfold maxLen; omega) (by omega) ?_
    case hn =>
      by_cases h0 : 0 < l.length
      · obtain ⟨b, off, cap', e9, -⟩ := HV0.out.at h0
        cases e9
        have := hB1 h0
        rw [e] at this
        cases this
      · omega
    case hc =>
      intro j u hu
      have h0 : 0 < l.length := by have := (List.getElem?_eq_some_iff.1 hu).1; rw [flatP_length] at this; omega
      have hb := hB1 h0
      rw [e] at hb
      have h9 := HV0.out.below hHeld.2.2
      rw [← hb] at h9
      exact fedP h9 j u hu
    intro v8 w8 hown hgr
    have hb8 : Below W7.heap.size W7 w8 := (Below.refl _ _).grown hgr (Nat.le_refl _) (fun k hk => by cases hk)
    have HS : (fun V => Bx V w.heap.size 27 #[.int .u32 (c.toNat : Int), .slice A l.length cap] ∧ Bx V g11 58 #[.int .u32 (nx.toNat : Int), .int .i64 size, .int .i64 1, .int .i64 0, .int .i64 1, .int .i64 path, .int .i64 now] ∧ Below w.heap.size w V) _ := (And.intro (hHeld.1.later hb8) (And.intro (hHeld.2.1.later hb8) (hHeld.2.2.trans (hb8.mono hHeld.2.2.size))))
    have HZ8 := Lib.hid ((HZ.out.drew.later HB7.out).later hb8)
    obtain ⟨A8, k8, rfl, -, -⟩ := own_form2 hown
    have hs8 := hb8.size
    rw [← HPN.out, ← flatP_one1] at hown
    have HO := Lib.hid (OwnV.of_own hown)
    clear hown hgr hb8 hHeld hB1 hB2
    try simp only [Act.put, List.setIfInBounds_toArray, List.set_cons_zero, List.set_cons_succ]
    refine hK.out _ _ HS (fun hHeld => ?_)
    clear hK K HS
    try simp only [Act.put, List.setIfInBounds_toArray, List.set_cons_zero, List.set_cons_succ]
    refine wpAnyW_take (i := 8) (v := ?_) (by simp only [List.getElem?_toArray, List.getElem?_cons_succ, List.getElem?_cons_zero]; rfl) (by kernel_rfl) (by kernel_rfl) (by kernel_rfl) (by kernel_rfl) (by kernel_rfl) (fun _ _ _ h => h) (Or.inl ⟨by rfl, ?_⟩) (by assumption) ?_
    rotate_left 1
    · (intro w' hSw; go_simp; try with_reducible rfl)
    try simp only [Act.put, List.setIfInBounds_toArray, List.set_cons_zero, List.set_cons_succ]
    refine wpAnyW_held (i := 11) (by kernel_rfl) (by simp only [List.getElem?_toArray, List.getElem?_cons_succ, List.getElem?_cons_zero]; rfl) (fun K hK => ?_)
    rw [if_pos (by rfl)]
    refine wpB (ty := 27) #[.int .u32 (c.toNat : Int), .slice A8 (l.length + 1) k8] rfl rfl rfl HZ8.out infoS rfl (cellsS_one _ _ _ _) ?_
    intro w10 ht hg
    have hg11 := hHeld.2.1.lt
    have HS : (fun V => Bx V w.heap.size 27 #[.int .u32 (c.toNat : Int), .slice A l.length cap] ∧ Bx V g11 58 #[.int .u32 (nx.toNat : Int), .int .i64 size, .int .i64 1, .int .i64 0, .int .i64 1, .int .i64 path, .int .i64 now] ∧ Below w.heap.size w V) _ := ⟨hHeld.1.kept hg (by omega), hHeld.2.1.kept hg (by omega), below_of_grown1 hHeld.2.2 hg hHeld.2.2.size (by omega)⟩
    replace HO := Lib.hid (HO.out.grown hg (fun z e _ => by intro e2; cases e2; have := HO.out.base _ e; simp at this; omega))
    replace HZ8 := Lib.hid ht
    clear ht hg hHeld
    refine hK.out _ _ HS (fun hHeld => ?_)
    clear hK K HS
    try simp only [Act.put, List.setIfInBounds_toArray, List.set_cons_zero, List.set_cons_succ]
    refine wpAnyW_take (i := 12) (v := ?_) (by simp only [List.getElem?_toArray, List.getElem?_cons_succ, List.getElem?_cons_zero]; rfl) (by kernel_rfl) (by kernel_rfl) (by kernel_rfl) (by kernel_rfl) (by kernel_rfl) (fun _ _ _ h => h) (Or.inl ⟨by rfl, ?_⟩) (by assumption) ?_
    rotate_left 1
    · (intro w' hSw; go_simp; try with_reducible rfl)
    try simp only [Act.put, List.setIfInBounds_toArray, List.set_cons_zero, List.set_cons_succ]
    refine wpAnyW_freed (i := 13) (by kernel_rfl) (by kernel_rfl) (by simp only [List.getElem?_toArray, List.getElem?_cons_succ, List.getElem?_cons_zero]; rfl) (fun K hK => ?_)
    rw [if_pos (by rfl)]
    go_simp
    have HBE := Lib.hid hHeld.2.2
    refine hK.out _ _ ?_
    clear hK K hHeld
    try simp only [Act.put, List.setIfInBounds_toArray, List.set_cons_zero, List.set_cons_succ]
    refine wpAnyW_done (by kernel_rfl) ?_ _
    refine NoPanic.normal ?_
    go_wp2_with fail
    exact bodyPost_ret (retSTT rfl rfl rfl rfl rfl HZ8.out) rfl ⟨A8, k8, rfl, HO.out.row, HO.out.fresh.less (by omega), HBE.out⟩
end Go.Proofs.Ytpgdofhnpiefjaa
