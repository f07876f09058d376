/-
  The document's parser of a chunk: a contract.
-/
import Derived.Test.YtlbaockipeojhaaGreatR9S
import Derived.Test.YtlbaockipeojhaaGreatRkB
import Derived.Test.YtlbaockipeojhaaGreatRSmall
namespace Go.Proofs.YtlbaockipeojhaaGreat
open Go.RowKit
set_option linter.unusedVariables false
set_option linter.unusedSimpArgs false
set_option maxRecDepth 100000

structure P7S (w W : World) : Prop where
  out : W.heap[w.heap.size]? = some (.cells #[.int .i64 0, .int .i64 0, .int .u32 0, .int .u32 0, .int .u32 0, .int .u32 0, .int .u16 0, .int .u16 0, .int .u16 0, .int .u16 0, .slice none 0 0, .slice none 0 0, .slice none 0 0, .string ⟨#[]⟩] 74 (0, 0))
  below : Below w.heap.size w W
theorem P7S.later {w W W' : World} (h : P7S w W) (hb : Below W.heap.size W W') : P7S w W' :=
  ⟨(hb.block _ (Array.getElem?_eq_some_iff.1 h.out).1).trans h.out, h.below.trans (hb.mono h.below.size)⟩
theorem p7s_new (w : World) : P7S w (w.alloc (.cells #[.int .i64 0, .int .i64 0, .int .u32 0, .int .u32 0, .int .u32 0, .int .u32 0, .int .u16 0, .int .u16 0, .int .u16 0, .int .u16 0, .slice none 0 0, .slice none 0 0, .slice none 0 0, .string ⟨#[]⟩] 74)) := ⟨heap_alloc_new w _, (Below.refl _ _).alloc (Nat.le_refl _) _⟩
theorem heap_second8 (w : World) (a b : Obj) : ((w.alloc a).alloc b).drew.heap[w.heap.size + 1]? = some b := by
  have := heap_alloc_new (w.alloc a) b
  rwa [World.size_alloc] at this
theorem readQ_zero {n e : Nat} {w w' : World} (hb : Below w.heap.size w w') : ReadQ (zeroC 0 0) n e w (.returned (.tuple #[.agg #[.int .i64 0, .int .i64 0, .int .u32 0, .int .u32 0, .int .u32 0, .int .u32 0, .int .u16 0, .int .u16 0, .int .u16 0, .int .u16 0, .slice none 0 0, .slice none 0 0, .slice none 0 0, .string ⟨#[]⟩], .int .i64 (n : Int), .int .i64 (e : Int)])) w' :=
  ⟨_, _, _, rfl, Parts.zero _ _ _, fun j hj => (by rcases hj with hj | hj | hj <;> cases hj), hb⟩
theorem tail_text (s : ByteArray) (n t : Nat) (hn : n = lenC s) (h : n + t = sizeC s) (hs : n ≤ s.size) : (s.extract n (n + t) = (⟨#[0, 0, 0]⟩ : ByteArray).extract 0 t) = (tailC s = zerosL (tailC s).length) := by
  subst hn
  have e := tail_is s hs
  have hl : (tailC s).length = t := by
    rw [← e, ← size_list, ByteArray.size_extract]
    unfold sizeC at h ⊢
    omega
  have h3 := tailC_len s
  rw [h]
  have hz : ((⟨#[0, 0, 0]⟩ : ByteArray).extract 0 t).data.toList = zerosL t := by
    rw [cut_list]
    match t, hl ▸ h3 with
    | 0, _ => rfl
    | 1, _ => rfl
    | 2, _ => rfl
    | 3, _ => rfl
  apply propext
  rw [hl, ← e, ← hz]
  exact ⟨fun q => by rw [q], fun q => bytes_ext q⟩
set_option maxHeartbeats 16000000 in
theorem rparse7_any (s : ByteArray) (hs : s.size ≤ 1000000) (w : World) :
    Calls Tryz.prog 37 #[.string s] w (ReadQ (parseC s).1 (parseC s).2.1 (parseC s).2.2 w) := by
  have HRS := Lib.hid rkSize8
  have HZ1 : Hid ((#[.int .i64 0, .int .i64 0, .int .u32 0, .int .u32 0, .int .u32 0, .int .u32 0, .int .u16 0, .int .u16 0, .int .u16 0, .int .u16 0, .slice none 0 0, .slice none 0 0, .slice none 0 0, .string ⟨#[]⟩] : Array Value).all (·.oneCell') = true) := Lib.hid (by kernel_rfl)
  have HP := Lib.hid (p7s_new w)
  by_cases h4 : s.size < 4
  · have e : parseC s = (zeroC 0 0, 0, 3) := by unfold parseC; rw [if_pos h4]
    rw [e]
    have y0 : decide ((s.size : Int) < 4) = true := decide_eq_true (by omega)
    clear e h4
    go_enter Tryz.func37, Tryz.ntmps37
    go_wp2_with (first
      | (refine wpList_store_row rfl 74 (.tmp 2) (.tmp 13) rfl w.heap.size #[.int .i64 0, .int .i64 0, .int .u32 0, .int .u32 0, .int .u32 0, .int .u32 0, .int .u16 0, .int .u16 0, .int .u16 0, .int .u16 0, .slice none 0 0, .slice none 0 0, .slice none 0 0, .string ⟨#[]⟩] rfl rfl 74 _ HP.out.out HRS.out rfl HZ1.out ?_))
    exact bodyPost_ret (v := .tuple #[.agg #[.int .i64 0, .int .i64 0, .int .u32 0, .int .u32 0, .int .u32 0, .int .u32 0, .int .u16 0, .int .u16 0, .int .u16 0, .int .u16 0, .slice none 0 0, .slice none 0 0, .slice none 0 0, .string ⟨#[]⟩], .int .i64 0, .int .i64 3]) (results_row2 Tryz.results37 _ _ w.heap.size _ #[.int .i64 0, .int .i64 0, .int .u32 0, .int .u32 0, .int .u32 0, .int .u32 0, .int .u16 0, .int .u16 0, .int .u16 0, .int .u16 0, .slice none 0 0, .slice none 0 0, .slice none 0 0, .string ⟨#[]⟩] _ _ (by rfl) (setRow_heap _ _ _ _ _ _ HP.out.out) Tryz.underlying74 rfl HRS.out) rfl (readQ_zero (below_setRow HP.out.below (Nat.le_refl _) _))
  have y0 : decide ((s.size : Int) < 4) = false := decide_eq_false (by omega)
  have y4 : (4 : Int) ≤ (s.size : Int) := by omega
  have y2 : (2 : Int) ≤ (s.size : Int) := by omega
  have HN0 := Lib.hid (fun W => num2_cut8 s 2 4 (by omega) rfl W)
  have b1 := num_lt s.data.toList 2
  have hC := parseC_ref s (by omega) _ rfl
  have hl : num s.data.toList 2 = lenC s := rfl
  by_cases hn4 : lenC s < 4
  · rw [if_pos hn4] at hC
    rw [hC]
    have y5 : decide ((lenC s : Int) < 4) = true := decide_eq_true (by omega)
    rw [hl] at HN0
    clear hC
    generalize lenC s = n at *
    go_enter Tryz.func37, Tryz.ntmps37
    go_wp2_with fail
    refine (HN0.out _).mono ?_
    rintro _ wx ⟨rfl, rfl⟩
    go_wp2_with (first
      | (refine wpList_store_row rfl 74 (.tmp 2) (.tmp 21) rfl w.heap.size #[.int .i64 0, .int .i64 0, .int .u32 0, .int .u32 0, .int .u32 0, .int .u32 0, .int .u16 0, .int .u16 0, .int .u16 0, .int .u16 0, .slice none 0 0, .slice none 0 0, .slice none 0 0, .string ⟨#[]⟩] rfl rfl 74 _ HP.out.out HRS.out rfl HZ1.out ?_))
    exact bodyPost_ret (v := .tuple #[.agg #[.int .i64 0, .int .i64 0, .int .u32 0, .int .u32 0, .int .u32 0, .int .u32 0, .int .u16 0, .int .u16 0, .int .u16 0, .int .u16 0, .slice none 0 0, .slice none 0 0, .slice none 0 0, .string ⟨#[]⟩], .int .i64 0, .int .i64 2]) (results_row2 Tryz.results37 _ _ w.heap.size _ #[.int .i64 0, .int .i64 0, .int .u32 0, .int .u32 0, .int .u32 0, .int .u32 0, .int .u16 0, .int .u16 0, .int .u16 0, .int .u16 0, .slice none 0 0, .slice none 0 0, .slice none 0 0, .string ⟨#[]⟩] _ _ (by rfl) (setRow_heap _ _ _ _ _ _ HP.out.out) Tryz.underlying74 rfl HRS.out) rfl (readQ_zero (below_setRow HP.out.below (Nat.le_refl _) _))
  rw [if_neg hn4] at hC
  by_cases hns : s.size < lenC s
  · rw [if_pos hns] at hC
    rw [hC]
    have y5 : decide ((lenC s : Int) < 4) = false := decide_eq_false (by omega)
    have y6 : decide ((s.size : Int) < (lenC s : Int)) = true := decide_eq_true (by omega)
    rw [hl] at HN0
    clear hC
    generalize lenC s = n at *
    go_enter Tryz.func37, Tryz.ntmps37
    go_wp2_with fail
    refine (HN0.out _).mono ?_
    rintro _ wx ⟨rfl, rfl⟩
    go_wp2_with (first
      | (refine wpList_store_row rfl 74 (.tmp 2) (.tmp 27) rfl w.heap.size #[.int .i64 0, .int .i64 0, .int .u32 0, .int .u32 0, .int .u32 0, .int .u32 0, .int .u16 0, .int .u16 0, .int .u16 0, .int .u16 0, .slice none 0 0, .slice none 0 0, .slice none 0 0, .string ⟨#[]⟩] rfl rfl 74 _ HP.out.out HRS.out rfl HZ1.out ?_))
    exact bodyPost_ret (v := .tuple #[.agg #[.int .i64 0, .int .i64 0, .int .u32 0, .int .u32 0, .int .u32 0, .int .u32 0, .int .u16 0, .int .u16 0, .int .u16 0, .int .u16 0, .slice none 0 0, .slice none 0 0, .slice none 0 0, .string ⟨#[]⟩], .int .i64 0, .int .i64 3]) (results_row2 Tryz.results37 _ _ w.heap.size _ #[.int .i64 0, .int .i64 0, .int .u32 0, .int .u32 0, .int .u32 0, .int .u32 0, .int .u16 0, .int .u16 0, .int .u16 0, .int .u16 0, .slice none 0 0, .slice none 0 0, .slice none 0 0, .string ⟨#[]⟩] _ _ (by rfl) (setRow_heap _ _ _ _ _ _ HP.out.out) Tryz.underlying74 rfl HRS.out) rfl (readQ_zero (below_setRow HP.out.below (Nat.le_refl _) _))
  rw [if_neg hns] at hC
  by_cases hnl : 1400 < lenC s
  · rw [if_pos hnl] at hC
    rw [hC]
    have y5 : decide ((lenC s : Int) < 4) = false := decide_eq_false (by omega)
    have y6 : decide ((s.size : Int) < (lenC s : Int)) = false := decide_eq_false (by omega)
    have y7 : decide ((1400 : Int) < (lenC s : Int)) = true := decide_eq_true (by omega)
    rw [hl] at HN0
    clear hC
    generalize lenC s = n at *
    go_enter Tryz.func37, Tryz.ntmps37
    go_wp2_with fail
    refine (HN0.out _).mono ?_
    rintro _ wx ⟨rfl, rfl⟩
    go_wp2_with (first
      | (refine wpList_store_row rfl 74 (.tmp 2) (.tmp 31) rfl w.heap.size #[.int .i64 0, .int .i64 0, .int .u32 0, .int .u32 0, .int .u32 0, .int .u32 0, .int .u16 0, .int .u16 0, .int .u16 0, .int .u16 0, .slice none 0 0, .slice none 0 0, .slice none 0 0, .string ⟨#[]⟩] rfl rfl 74 _ HP.out.out HRS.out rfl HZ1.out ?_))
    exact bodyPost_ret (v := .tuple #[.agg #[.int .i64 0, .int .i64 0, .int .u32 0, .int .u32 0, .int .u32 0, .int .u32 0, .int .u16 0, .int .u16 0, .int .u16 0, .int .u16 0, .slice none 0 0, .slice none 0 0, .slice none 0 0, .string ⟨#[]⟩], .int .i64 0, .int .i64 4]) (results_row2 Tryz.results37 _ _ w.heap.size _ #[.int .i64 0, .int .i64 0, .int .u32 0, .int .u32 0, .int .u32 0, .int .u32 0, .int .u16 0, .int .u16 0, .int .u16 0, .int .u16 0, .slice none 0 0, .slice none 0 0, .slice none 0 0, .string ⟨#[]⟩] _ _ (by rfl) (setRow_heap _ _ _ _ _ _ HP.out.out) Tryz.underlying74 rfl HRS.out) rfl (readQ_zero (below_setRow HP.out.below (Nat.le_refl _) _))
  rw [if_neg hnl] at hC
  have y5 : decide ((lenC s : Int) < 4) = false := decide_eq_false (by omega)
  have y6 : decide ((s.size : Int) < (lenC s : Int)) = false := decide_eq_false (by omega)
  have y7 : decide ((1400 : Int) < (lenC s : Int)) = false := decide_eq_false (by omega)
  rw [hl] at HN0 b1
  have hvs := valC_size s (by omega)
  have HFT := Lib.hid (read_fit (byteAt s.data.toList 0) (byteAt s.data.toList 1) (valC s) (by omega))
  have hrd : ∀ W, Calls Tryz.prog 61 #[.agg (cellsC (zeroC (byteAt s.data.toList 0) (byteAt s.data.toList 1)) (.slice none 0 0) (.slice none 0 0) (.slice none 0 0)), .string (valC s)] W _ := fun W => rread_any (byteAt s.data.toList 0) (byteAt s.data.toList 1) (valC s) (by omega) W
  generalize readC (zeroC (byteAt s.data.toList 0) (byteAt s.data.toList 1)) (valC s) = R at *
  rw [← val_is s] at hrd
  have HRT : Hid (∀ (h : FitC R.1) g d it W, Parts W R.1 g d it → Calls Tryz.prog 51 #[.agg (cellsC R.1 g d it)] W fun e w' => e = .returned (.bool (decide ((buildC R.1).2 = 0))) ∧ Below W.heap.size W w') := Lib.hid (fun h g d it W hp => rkright_any R.1 h.wf (Nat.le_trans h.gl (by decide)) (Nat.le_trans h.dl (by decide)) h.il h.iv g d it W hp)
  have r0 : 0 < s.size := by omega
  have r1 : 1 < s.size := by omega
  have p0 : (0 : Int) < (s.size : Int) := by omega
  have p1 : (1 : Int) < (s.size : Int) := by omega
  have h0 := (byteAt_byte (s := s) (k := 0) r0).symm
  have h1 := (byteAt_byte (s := s) (k := 1) r1).symm
  have hk0 := byteAt_lt s.data.toList 0
  have hk1 := byteAt_lt s.data.toList 1
  have HPD := Lib.hid (fun W => rpad_any (lenC s : Int) (by omega) (by omega) W)
  rw [padI_nat] at HPD
  have hsc : sizeC s = min (lenC s + padN (lenC s)) s.size := rfl
  have hpl := padN_lt (lenC s)
  obtain ⟨t, ht⟩ : ∃ t, lenC s + t = sizeC s := ⟨sizeC s - lenC s, by omega⟩
  have hts := tail_text s (lenC s) t rfl ht (by omega)
  have hmin : min ((padN (lenC s) : Nat) : Int) ((s.size : Int) - (lenC s : Int)) = (t : Int) := by omega
  have ht3 : t ≤ 3 := by omega
  have htl : lenC s + t ≤ s.size := by omega
  rw [← ht] at hC
  clear ht hsc
  generalize byteAt s.data.toList 0 = k at *
  generalize byteAt s.data.toList 1 = f at *
  generalize parseC s = PR at *
  obtain ⟨q2, hq2⟩ : ∃ q2 : Bool, decide ((buildC R.1).2 = 0) = q2 := ⟨_, rfl⟩
  have hq3 : q2 = true ↔ (buildC R.1).2 = 0 := by rw [← hq2]; exact decide_eq_true_iff
  have HCY := Lib.hid (show R.2 = true → q2 = true → s.extract (lenC s) (lenC s + t) = (⟨#[0, 0, 0]⟩ : ByteArray).extract 0 t → PR = (R.1, lenC s + t, 0) from fun a b c => by rw [hC, if_pos ⟨⟨a, hq3.1 b⟩, Eq.mp hts c⟩])
  have HCN := Lib.hid (show ¬ (R.2 = true ∧ q2 = true ∧ s.extract (lenC s) (lenC s + t) = (⟨#[0, 0, 0]⟩ : ByteArray).extract 0 t) → PR = (zeroC 0 0, 0, 2) from fun a => by rw [hC, if_neg (fun h => a ⟨h.1.1, hq3.2 h.1.2, Eq.mpr hts h.2⟩)])
  rw [hq2] at HRT
  clear hts hl hC hq2 hq3
  generalize padN (lenC s) = p at *
  generalize lenC s = n at *
  have z1 : (n : Int) ≤ (s.size : Int) := by omega
  have z2 : (n : Int) + (t : Int) ≤ (s.size : Int) := by omega
  have z3 : (t : Int) ≤ 3 := by omega
  have z4 : (4 : Int) ≤ (n : Int) := by omega
  have z5 : (0 : Int) ≤ (n : Int) + (t : Int) := by omega
  have z6 : ((n : Int) + (t : Int)).toNat = n + t := by omega
  have z7 : (n : Int) ≤ (n : Int) + (t : Int) := by omega
  have z8 : IntKind.i64.wrap ((n : Int) + (t : Int)) = (n : Int) + (t : Int) := by rw [IntKind.wrap_i64]; omega
  have v0 : IntKind.i64.wrap (k : Int) = (k : Int) := by rw [IntKind.wrap_i64]; omega
  have v1 : IntKind.i64.wrap (f : Int) = (f : Int) := by rw [IntKind.wrap_i64]; omega
  clear ht3 htl hvs
  obtain ⟨⟨ty, fl, tsn, tag, win, ppid, st, ssn, outs, ins, gaps, dups, items, text⟩, q⟩ := R
  dsimp only at HFT HRT HCY HCN
  have HRD : Hid (∀ W, Calls Tryz.prog 61 #[.agg #[.int .i64 (k : Int), .int .i64 (f : Int), .int .u32 0, .int .u32 0, .int .u32 0, .int .u32 0, .int .u16 0, .int .u16 0, .int .u16 0, .int .u16 0, .slice none 0 0, .slice none 0 0, .slice none 0 0, .string ⟨#[]⟩], .string (s.extract 4 n)] W (ValQ ⟨ty, fl, tsn, tag, win, ppid, st, ssn, outs, ins, gaps, dups, items, text⟩ q W)) := Lib.hid hrd
  clear hrd
  go_enter Tryz.func37, Tryz.ntmps37
  go_wp2_with fail
  refine (HN0.out _).mono ?_
  rintro _ wx ⟨rfl, rfl⟩
  go_wp2_with fail
  refine wp_region_noPanic ?_
  refine wp_region_held_drew (S := (P7S w)) (by kernel_rfl) ?_ (fun hHeld => ?_)
  · exact HP.out.later (Below.refl _ _).drew
  refine k9 0 ?_ (y := ?_) (h := ?_)
  rotate_left 1
  · (intro w' hSw; clear hSw; go_simp; try with_reducible rfl)
  try simp only [Act.put, p9a, p9z, p9s]
  refine k9 1 ?_ (y := ?_) (h := ?_)
  rotate_left 1
  · (intro w' hSw; clear hSw; go_simp; try with_reducible rfl)
  try simp only [Act.put, p9a, p9z, p9s]
  refine k9 2 ?_ (y := ?_) (h := ?_)
  rotate_left 1
  · (intro w' hSw; clear hSw; go_simp; try with_reducible rfl)
  try simp only [Act.put, p9a, p9z, p9s]
  refine k9 3 ?_ (y := ?_) (h := ?_)
  rotate_left 1
  · (intro w' hSw; clear hSw; go_simp; try with_reducible rfl)
  try simp only [Act.put, p9a, p9z, p9s]
  refine k9 4 ?_ (y := ?_) (h := ?_)
  rotate_left 1
  · (intro w' hSw; clear hSw; go_simp; try with_reducible rfl)
  try simp only [Act.put, p9a, p9z, p9s]
  refine k9 5 ?_ (y := ?_) (h := ?_)
  rotate_left 1
  · (intro w' hSw; clear hSw; go_simp; try with_reducible rfl)
  try simp only [Act.put, p9a, p9z, p9s]
  refine k9 6 ?_ (y := ?_) (h := ?_)
  rotate_left 1
  · (intro w' hSw; clear hSw; go_simp; try with_reducible rfl)
  try simp only [Act.put, p9a, p9z, p9s]
  refine k9 7 ?_ (y := ?_) (h := ?_)
  rotate_left 1
  · (intro w' hSw; clear hSw; go_simp; try with_reducible rfl)
  try simp only [Act.put, p9a, p9z, p9s]
  refine k9 8 ?_ (y := ?_) (h := ?_)
  rotate_left 1
  · (intro w' hSw; clear hSw; go_simp; try with_reducible rfl)
  try simp only [Act.put, p9a, p9z, p9s]
  refine k9 9 ?_ (y := ?_) (h := ?_)
  rotate_left 1
  · (intro w' hSw; clear hSw; go_simp; try with_reducible rfl)
  try simp only [Act.put, p9a, p9z, p9s]
  refine wpAnyH_ready (rs := [10, 14]) (by kernel_rfl) (by simp) ?_
  refine AllReadyH.cons (by simp only [q9a, q9s, q9z]; rfl) (fun K hK => ?_) ?_
  · skip
    go_simp
    refine (HRD.out _).mono ?_
    rintro _ w1 ⟨g, d, it, rfl, hp1, ha1, hb1⟩
    obtain ⟨⟨A1, k1, rfl⟩, ⟨A2, k2, rfl⟩, ⟨A3, k3, rfl⟩⟩ := hp1.slices
    dsimp only at hp1 ha1
    have hS := hHeld.later hb1
    have HS1 := Lib.hid hS
    have HPP := Lib.hid hp1
    have HAA := Lib.hid (fun j hj => (show w.heap.size + 1 ≤ j from by
      have h9 : (World.alloc w (.cells #[.int .i64 0, .int .i64 0, .int .u32 0, .int .u32 0, .int .u32 0, .int .u32 0, .int .u16 0, .int .u16 0, .int .u16 0, .int .u16 0, .slice none 0 0, .slice none 0 0, .slice none 0 0, .string ⟨#[]⟩] 74)).heap.size ≤ j := ha1 j hj
      simp only [World.size_alloc] at h9
      exact h9))
    clear hHeld hb1 hp1 ha1
    dsimp only [cellsC] at *
    go_wp2_with fail
    refine hK.out _ _ ?_ (fun hHeld => ?_)
    · first | exact hS | exact hS _
    clear hK K
    try simp only [Act.put, p9a, p9z, p9s]
    refine k9 11 ?_ (y := ?_) (h := ?_)
    rotate_left 1
    · (intro w' hSw; clear hSw; go_simp; try with_reducible rfl)
    try simp only [Act.put, p9a, p9z, p9s]
    refine k9 12 ?_ (y := ?_) (h := ?_)
    rotate_left 1
    · (intro w' hSw; clear hSw; go_simp; try with_reducible rfl)
    try simp only [Act.put, p9a, p9z, p9s]
    refine k9 13 ?_ (y := ?_) (h := ?_)
    rotate_left 1
    · (intro w' hSw; clear hSw; go_simp; try with_reducible rfl)
    try simp only [Act.put, p9a, p9z, p9s]
    refine wpAnyH_ready (rs := [14]) (by kernel_rfl) (by simp) ?_
    refine AllReadyH.cons (by simp only [q9a, q9s, q9z]; rfl) (fun K hK => ?_) AllReadyH.nil
    have hS := fun o => hHeld.later ((Below.refl _ _).alloc (Nat.le_refl _) o)
    clear hHeld
    go_simp
    refine hK.out _ _ ?_ (fun hHeld => ?_)
    · first | exact hS | exact hS _
    clear hK K
    try simp only [Act.put, p9a, p9z, p9s]
    refine wpAnyH_ready (rs := [15]) (by kernel_rfl) (by simp) ?_
    refine AllReadyH.cons (by simp only [q9a, q9s, q9z]; rfl) (fun K hK => ?_) AllReadyH.nil
    rw [if_pos (by rfl)]
    have HONE := Lib.hid (show (#[.int .i64 ty, .int .i64 fl, .int .u32 (tsn : Int), .int .u32 (tag : Int), .int .u32 (win : Int), .int .u32 (ppid : Int), .int .u16 (st : Int), .int .u16 (ssn : Int), .int .u16 (outs : Int), .int .u16 (ins : Int), .slice A1 gaps.length k1, .slice A2 dups.length k2, .slice A3 items.length k3, .string text] : Array Value).all (·.oneCell') = true from by simp [Value.oneCell'])
    refine wp_store_row 74 (.tmp 6) (.tmp 44) rfl w1.heap.size #[.int .i64 ty, .int .i64 fl, .int .u32 (tsn : Int), .int .u32 (tag : Int), .int .u32 (win : Int), .int .u32 (ppid : Int), .int .u16 (st : Int), .int .u16 (ssn : Int), .int .u16 (outs : Int), .int .u16 (ins : Int), .slice A1 gaps.length k1, .slice A2 dups.length k2, .slice A3 items.length k3, .string text] rfl rfl 74 _ (heap_alloc_new w1 _) HRS.out rfl HONE.out ?_
    rw [World.setRow_alloc_new]
    have hS := HS1.out.later ((Below.refl _ _).alloc (Nat.le_refl _) (.cells #[.int .i64 ty, .int .i64 fl, .int .u32 (tsn : Int), .int .u32 (tag : Int), .int .u32 (win : Int), .int .u32 (ppid : Int), .int .u16 (st : Int), .int .u16 (ssn : Int), .int .u16 (outs : Int), .int .u16 (ins : Int), .slice A1 gaps.length k1, .slice A2 dups.length k2, .slice A3 items.length k3, .string text] 74))
    clear hHeld
    refine hK.out _ _ ?_ (fun hHeld => ?_)
    · first | exact hS | exact hS _
    clear hK K
    try simp only [Act.put, p9a, p9z, p9s]
    refine k9 16 ?_ (y := ?_) (h := ?_)
    rotate_left 1
    · (intro w' hSw; clear hSw; go_simp; try with_reducible rfl)
    try simp only [Act.put, p9a, p9z, p9s]
    refine wpAnyH_done (by kernel_rfl) ?_ _
    refine NoPanic.normal ?_
    clear hHeld
    have HS2 := Lib.hid (HS1.out.later ((Below.refl _ _).alloc (Nat.le_refl _) (.cells #[.int .i64 ty, .int .i64 fl, .int .u32 (tsn : Int), .int .u32 (tag : Int), .int .u32 (win : Int), .int .u32 (ppid : Int), .int .u16 (st : Int), .int .u16 (ssn : Int), .int .u16 (outs : Int), .int .u16 (ins : Int), .slice A1 gaps.length k1, .slice A2 dups.length k2, .slice A3 items.length k3, .string text] 74)))
    have HB6 := Lib.hid (heap_alloc_new w1 (.cells #[.int .i64 ty, .int .i64 fl, .int .u32 (tsn : Int), .int .u32 (tag : Int), .int .u32 (win : Int), .int .u32 (ppid : Int), .int .u16 (st : Int), .int .u16 (ssn : Int), .int .u16 (outs : Int), .int .u16 (ins : Int), .slice A1 gaps.length k1, .slice A2 dups.length k2, .slice A3 items.length k3, .string text] 74))
    have HPA := Lib.hid (HPP.out.below ((Below.refl _ _).alloc (Nat.le_refl _) (.cells #[.int .i64 ty, .int .i64 fl, .int .u32 (tsn : Int), .int .u32 (tag : Int), .int .u32 (win : Int), .int .u32 (ppid : Int), .int .u16 (st : Int), .int .u16 (ssn : Int), .int .u16 (outs : Int), .int .u16 (ins : Int), .slice A1 gaps.length k1, .slice A2 dups.length k2, .slice A3 items.length k3, .string text] 74)))
    have hz2 : w.heap.size + 1 ≤ w1.heap.size := (Array.getElem?_eq_some_iff.1 HS1.out.out).1
    go_wp2_with (first
      | (refine wpList_load_row rfl 74 (.tmp 6) rfl w1.heap.size rfl 74 #[.int .i64 ty, .int .i64 fl, .int .u32 (tsn : Int), .int .u32 (tag : Int), .int .u32 (win : Int), .int .u32 (ppid : Int), .int .u16 (st : Int), .int .u16 (ssn : Int), .int .u16 (outs : Int), .int .u16 (ins : Int), .slice A1 gaps.length k1, .slice A2 dups.length k2, .slice A3 items.length k3, .string text] (0, 0) _ HB6.out Tryz.underlying74 rfl HRS.out ?_))
    refine (HRT.out HFT.out _ _ _ _ HPA.out).mono ?_
    rintro _ w3 ⟨rfl, hb3⟩
    have HS3 := Lib.hid (HS2.out.later hb3)
    have HB63 := Lib.hid ((hb3.block _ (Array.getElem?_eq_some_iff.1 HB6.out).1).trans HB6.out)
    have HP3 := Lib.hid (HPA.out.below hb3)
    clear hb3
    go_wp2_with fail
    refine (HPD.out _).mono ?_
    rintro _ wx ⟨rfl, rfl⟩
    go_wp2_with fail
    have HSD := Lib.hid (fun n => (show P7S w (wx.drewN n) from ⟨HS3.out.out, below_drewN HS3.out.below n⟩))
    have HBD : Hid (∀ n, (wx.drewN n).heap[w1.heap.size]? = some (.cells #[.int .i64 ty, .int .i64 fl, .int .u32 (tsn : Int), .int .u32 (tag : Int), .int .u32 (win : Int), .int .u32 (ppid : Int), .int .u16 (st : Int), .int .u16 (ssn : Int), .int .u16 (outs : Int), .int .u16 (ins : Int), .slice A1 gaps.length k1, .slice A2 dups.length k2, .slice A3 items.length k3, .string text] 74 (0, 0))) := Lib.hid (fun n => HB63.out)
    have HPN := Lib.hid (fun n => HP3.out.below (below_drewN (Below.refl _ _) n))
    clear HS1 HS2 HS3 HB6 HB63 HPP HPA HP3 HRD HRT HN0 HPD
    cases q with
    | false =>
      have hR := HCN.out (by rintro ⟨h, -⟩; cases h)
      go_quiet (fail)
      go_wp2_with (first
        | (refine wpList_store_row rfl 74 (.tmp 2) (.tmp 72) rfl w.heap.size #[.int .i64 0, .int .i64 0, .int .u32 0, .int .u32 0, .int .u32 0, .int .u32 0, .int .u16 0, .int .u16 0, .int .u16 0, .int .u16 0, .slice none 0 0, .slice none 0 0, .slice none 0 0, .string ⟨#[]⟩] rfl rfl 74 _ (HSD.out _).out HRS.out rfl HZ1.out ?_))
      subst hR
      exact bodyPost_ret (v := .tuple #[.agg #[.int .i64 0, .int .i64 0, .int .u32 0, .int .u32 0, .int .u32 0, .int .u32 0, .int .u16 0, .int .u16 0, .int .u16 0, .int .u16 0, .slice none 0 0, .slice none 0 0, .slice none 0 0, .string ⟨#[]⟩], .int .i64 0, .int .i64 2]) (results_row2 Tryz.results37 _ _ w.heap.size _ #[.int .i64 0, .int .i64 0, .int .u32 0, .int .u32 0, .int .u32 0, .int .u32 0, .int .u16 0, .int .u16 0, .int .u16 0, .int .u16 0, .slice none 0 0, .slice none 0 0, .slice none 0 0, .string ⟨#[]⟩] _ _ (by rfl) (setRow_heap _ _ _ _ _ _ (HSD.out _).out) Tryz.underlying74 rfl HRS.out) rfl (readQ_zero (below_setRow (HSD.out _).below (Nat.le_refl _) _))
    | true =>
      cases q2 with
      | false =>
        have hR := HCN.out (by rintro ⟨-, h, -⟩; cases h)
        go_quiet (fail)
        go_wp2_with (first
          | (refine wpList_store_row rfl 74 (.tmp 2) (.tmp 72) rfl w.heap.size #[.int .i64 0, .int .i64 0, .int .u32 0, .int .u32 0, .int .u32 0, .int .u32 0, .int .u16 0, .int .u16 0, .int .u16 0, .int .u16 0, .slice none 0 0, .slice none 0 0, .slice none 0 0, .string ⟨#[]⟩] rfl rfl 74 _ (HSD.out _).out HRS.out rfl HZ1.out ?_))
        subst hR
        exact bodyPost_ret (v := .tuple #[.agg #[.int .i64 0, .int .i64 0, .int .u32 0, .int .u32 0, .int .u32 0, .int .u32 0, .int .u16 0, .int .u16 0, .int .u16 0, .int .u16 0, .slice none 0 0, .slice none 0 0, .slice none 0 0, .string ⟨#[]⟩], .int .i64 0, .int .i64 2]) (results_row2 Tryz.results37 _ _ w.heap.size _ #[.int .i64 0, .int .i64 0, .int .u32 0, .int .u32 0, .int .u32 0, .int .u32 0, .int .u16 0, .int .u16 0, .int .u16 0, .int .u16 0, .slice none 0 0, .slice none 0 0, .slice none 0 0, .string ⟨#[]⟩] _ _ (by rfl) (setRow_heap _ _ _ _ _ _ (HSD.out _).out) Tryz.underlying74 rfl HRS.out) rfl (readQ_zero (below_setRow (HSD.out _).below (Nat.le_refl _) _))
      | true =>
        by_cases hE : s.extract n (n + t) = (⟨#[0, 0, 0]⟩ : ByteArray).extract 0 t
        case neg =>
          have hR := HCN.out (by rintro ⟨-, -, h⟩; exact hE h)
          have hE1 : ((s.extract n (n + t)).toList == ((⟨#[0, 0, 0]⟩ : ByteArray).extract 0 t).toList) = false := eqB_false hE
          clear hE
          go_quiet (fail)
          go_wp2_with (first
            | (refine wpList_store_row rfl 74 (.tmp 2) (.tmp 72) rfl w.heap.size #[.int .i64 0, .int .i64 0, .int .u32 0, .int .u32 0, .int .u32 0, .int .u32 0, .int .u16 0, .int .u16 0, .int .u16 0, .int .u16 0, .slice none 0 0, .slice none 0 0, .slice none 0 0, .string ⟨#[]⟩] rfl rfl 74 _ (HSD.out _).out HRS.out rfl HZ1.out ?_))
          subst hR
          exact bodyPost_ret (v := .tuple #[.agg #[.int .i64 0, .int .i64 0, .int .u32 0, .int .u32 0, .int .u32 0, .int .u32 0, .int .u16 0, .int .u16 0, .int .u16 0, .int .u16 0, .slice none 0 0, .slice none 0 0, .slice none 0 0, .string ⟨#[]⟩], .int .i64 0, .int .i64 2]) (results_row2 Tryz.results37 _ _ w.heap.size _ #[.int .i64 0, .int .i64 0, .int .u32 0, .int .u32 0, .int .u32 0, .int .u32 0, .int .u16 0, .int .u16 0, .int .u16 0, .int .u16 0, .slice none 0 0, .slice none 0 0, .slice none 0 0, .string ⟨#[]⟩] _ _ (by rfl) (setRow_heap _ _ _ _ _ _ (HSD.out _).out) Tryz.underlying74 rfl HRS.out) rfl (readQ_zero (below_setRow (HSD.out _).below (Nat.le_refl _) _))
        case pos =>
          have hR := HCY.out rfl rfl hE
          have hE1 : ((s.extract n (n + t)).toList == ((⟨#[0, 0, 0]⟩ : ByteArray).extract 0 t).toList) = true := eqB_true hE
          clear hE
          go_quiet (fail)
          go_wp2_with (first
            | (refine wpList_load_row rfl 74 (.tmp 6) rfl w1.heap.size rfl 74 #[.int .i64 ty, .int .i64 fl, .int .u32 (tsn : Int), .int .u32 (tag : Int), .int .u32 (win : Int), .int .u32 (ppid : Int), .int .u16 (st : Int), .int .u16 (ssn : Int), .int .u16 (outs : Int), .int .u16 (ins : Int), .slice A1 gaps.length k1, .slice A2 dups.length k2, .slice A3 items.length k3, .string text] (0, 0) _ (HBD.out _) Tryz.underlying74 rfl HRS.out ?_)
            | (refine wpList_store_row rfl 74 (.tmp 2) (.tmp 73) rfl w.heap.size #[.int .i64 ty, .int .i64 fl, .int .u32 (tsn : Int), .int .u32 (tag : Int), .int .u32 (win : Int), .int .u32 (ppid : Int), .int .u16 (st : Int), .int .u16 (ssn : Int), .int .u16 (outs : Int), .int .u16 (ins : Int), .slice A1 gaps.length k1, .slice A2 dups.length k2, .slice A3 items.length k3, .string text] rfl rfl 74 _ (HSD.out _).out HRS.out rfl HONE.out ?_))
          subst hR
          exact bodyPost_ret (v := .tuple #[.agg #[.int .i64 ty, .int .i64 fl, .int .u32 (tsn : Int), .int .u32 (tag : Int), .int .u32 (win : Int), .int .u32 (ppid : Int), .int .u16 (st : Int), .int .u16 (ssn : Int), .int .u16 (outs : Int), .int .u16 (ins : Int), .slice A1 gaps.length k1, .slice A2 dups.length k2, .slice A3 items.length k3, .string text], .int .i64 ((n : Int) + (t : Int)), .int .i64 0]) (results_row2 Tryz.results37 _ _ w.heap.size _ #[.int .i64 ty, .int .i64 fl, .int .u32 (tsn : Int), .int .u32 (tag : Int), .int .u32 (win : Int), .int .u32 (ppid : Int), .int .u16 (st : Int), .int .u16 (ssn : Int), .int .u16 (outs : Int), .int .u16 (ins : Int), .slice A1 gaps.length k1, .slice A2 dups.length k2, .slice A3 items.length k3, .string text] _ _ (by rfl) (setRow_heap _ _ _ _ _ _ (HSD.out _).out) Tryz.underlying74 rfl HRS.out) rfl ⟨_, _, _, rfl, (HPN.out _).keep (by simp) (fun j hj => setRow_other _ _ _ _ (by have := HAA.out j hj; omega)), fun j hj => by have := HAA.out j hj; omega, below_setRow (HSD.out _).below (Nat.le_refl _) _⟩
  refine AllReadyH.cons (by simp only [q9a, q9s, q9z]; rfl) (fun K hK => ?_) AllReadyH.nil
  have hS := fun o => hHeld.later ((Below.refl _ _).alloc (Nat.le_refl _) o)
  clear hHeld
  go_simp
  refine hK.out _ _ ?_ (fun hHeld => ?_)
  · first | exact hS | exact hS _
  clear hK K
  try simp only [Act.put, p9a, p9z, p9s]
  refine wpAnyH_ready (rs := [10]) (by kernel_rfl) (by simp) ?_
  refine AllReadyH.cons (by simp only [q9a, q9s, q9z]; rfl) (fun K hK => ?_) AllReadyH.nil
  go_simp
  refine (HRD.out _).mono ?_
  rintro _ w1 ⟨g, d, it, rfl, hp1, ha1, hb1⟩
  obtain ⟨⟨A1, k1, rfl⟩, ⟨A2, k2, rfl⟩, ⟨A3, k3, rfl⟩⟩ := hp1.slices
  dsimp only at hp1 ha1
  have hS := hHeld.later hb1
  have HS1 := Lib.hid hS
  have HPP := Lib.hid hp1
  have HAA := Lib.hid (fun j hj => (show w.heap.size + 2 ≤ j from by
    have h9 : (World.alloc (World.alloc w (.cells #[.int .i64 0, .int .i64 0, .int .u32 0, .int .u32 0, .int .u32 0, .int .u32 0, .int .u16 0, .int .u16 0, .int .u16 0, .int .u16 0, .slice none 0 0, .slice none 0 0, .slice none 0 0, .string ⟨#[]⟩] 74)) (.cells #[.int .i64 0, .int .i64 0, .int .u32 0, .int .u32 0, .int .u32 0, .int .u32 0, .int .u16 0, .int .u16 0, .int .u16 0, .int .u16 0, .slice none 0 0, .slice none 0 0, .slice none 0 0, .string ⟨#[]⟩] 74)).heap.size ≤ j := ha1 j hj
    simp only [World.size_alloc] at h9
    exact h9))
  have HBX := Lib.hid ((hb1.block (w.heap.size + 1) (by show _ < (World.alloc (World.alloc w _) _).heap.size; simp only [World.size_alloc]; omega)).trans (heap_second8 w _ _))
  clear hHeld hb1 hp1 ha1
  dsimp only [cellsC] at *
  go_wp2_with fail
  refine hK.out _ _ ?_ (fun hHeld => ?_)
  · first | exact hS | exact hS _
  clear hK K
  try simp only [Act.put, p9a, p9z, p9s]
  refine k9 11 ?_ (y := ?_) (h := ?_)
  rotate_left 1
  · (intro w' hSw; clear hSw; go_simp; try with_reducible rfl)
  try simp only [Act.put, p9a, p9z, p9s]
  refine k9 12 ?_ (y := ?_) (h := ?_)
  rotate_left 1
  · (intro w' hSw; clear hSw; go_simp; try with_reducible rfl)
  try simp only [Act.put, p9a, p9z, p9s]
  refine k9 13 ?_ (y := ?_) (h := ?_)
  rotate_left 1
  · (intro w' hSw; clear hSw; go_simp; try with_reducible rfl)
  try simp only [Act.put, p9a, p9z, p9s]
  refine wpAnyH_ready (rs := [15]) (by kernel_rfl) (by simp) ?_
  refine AllReadyH.cons (by simp only [q9a, q9s, q9z]; rfl) (fun K hK => ?_) AllReadyH.nil
  rw [if_pos (by rfl)]
  have HONE := Lib.hid (show (#[.int .i64 ty, .int .i64 fl, .int .u32 (tsn : Int), .int .u32 (tag : Int), .int .u32 (win : Int), .int .u32 (ppid : Int), .int .u16 (st : Int), .int .u16 (ssn : Int), .int .u16 (outs : Int), .int .u16 (ins : Int), .slice A1 gaps.length k1, .slice A2 dups.length k2, .slice A3 items.length k3, .string text] : Array Value).all (·.oneCell') = true from by simp [Value.oneCell'])
  refine wp_store_row 74 (.tmp 6) (.tmp 44) rfl (w.heap.size + 1) #[.int .i64 ty, .int .i64 fl, .int .u32 (tsn : Int), .int .u32 (tag : Int), .int .u32 (win : Int), .int .u32 (ppid : Int), .int .u16 (st : Int), .int .u16 (ssn : Int), .int .u16 (outs : Int), .int .u16 (ins : Int), .slice A1 gaps.length k1, .slice A2 dups.length k2, .slice A3 items.length k3, .string text] rfl rfl 74 _ HBX.out HRS.out rfl HONE.out ?_
  have hS : P7S w (w1.setRow (w.heap.size + 1) #[.int .i64 ty, .int .i64 fl, .int .u32 (tsn : Int), .int .u32 (tag : Int), .int .u32 (win : Int), .int .u32 (ppid : Int), .int .u16 (st : Int), .int .u16 (ssn : Int), .int .u16 (outs : Int), .int .u16 (ins : Int), .slice A1 gaps.length k1, .slice A2 dups.length k2, .slice A3 items.length k3, .string text]) := ⟨(setRow_other _ _ _ _ (by omega)).trans HS1.out.out, below_setRow HS1.out.below (by omega) _⟩
  clear hHeld
  refine hK.out _ _ ?_ (fun hHeld => ?_)
  · first | exact hS | exact hS _
  clear hK K
  try simp only [Act.put, p9a, p9z, p9s]
  refine k9 16 ?_ (y := ?_) (h := ?_)
  rotate_left 1
  · (intro w' hSw; clear hSw; go_simp; try with_reducible rfl)
  try simp only [Act.put, p9a, p9z, p9s]
  refine wpAnyH_done (by kernel_rfl) ?_ _
  refine NoPanic.normal ?_
  clear hHeld
  have HS2 : Hid (P7S w (w1.setRow (w.heap.size + 1) #[.int .i64 ty, .int .i64 fl, .int .u32 (tsn : Int), .int .u32 (tag : Int), .int .u32 (win : Int), .int .u32 (ppid : Int), .int .u16 (st : Int), .int .u16 (ssn : Int), .int .u16 (outs : Int), .int .u16 (ins : Int), .slice A1 gaps.length k1, .slice A2 dups.length k2, .slice A3 items.length k3, .string text])) := Lib.hid ⟨(setRow_other _ _ _ _ (by omega)).trans HS1.out.out, below_setRow HS1.out.below (by omega) _⟩
  have HB6 := Lib.hid (setRow_heap _ _ _ #[.int .i64 ty, .int .i64 fl, .int .u32 (tsn : Int), .int .u32 (tag : Int), .int .u32 (win : Int), .int .u32 (ppid : Int), .int .u16 (st : Int), .int .u16 (ssn : Int), .int .u16 (outs : Int), .int .u16 (ins : Int), .slice A1 gaps.length k1, .slice A2 dups.length k2, .slice A3 items.length k3, .string text] _ _ HBX.out)
  have HPA := Lib.hid (HPP.out.keep (w' := w1.setRow (w.heap.size + 1) #[.int .i64 ty, .int .i64 fl, .int .u32 (tsn : Int), .int .u32 (tag : Int), .int .u32 (win : Int), .int .u32 (ppid : Int), .int .u16 (st : Int), .int .u16 (ssn : Int), .int .u16 (outs : Int), .int .u16 (ins : Int), .slice A1 gaps.length k1, .slice A2 dups.length k2, .slice A3 items.length k3, .string text]) (by simp) (fun j hj => setRow_other _ _ _ _ (by have := HAA.out j hj; omega)))
  have hz2 : w.heap.size + 1 ≤ (w.heap.size + 1) := Nat.le_refl _
  go_wp2_with (first
    | (refine wpList_load_row rfl 74 (.tmp 6) rfl (w.heap.size + 1) rfl 74 #[.int .i64 ty, .int .i64 fl, .int .u32 (tsn : Int), .int .u32 (tag : Int), .int .u32 (win : Int), .int .u32 (ppid : Int), .int .u16 (st : Int), .int .u16 (ssn : Int), .int .u16 (outs : Int), .int .u16 (ins : Int), .slice A1 gaps.length k1, .slice A2 dups.length k2, .slice A3 items.length k3, .string text] (0, 0) _ HB6.out Tryz.underlying74 rfl HRS.out ?_))
  refine (HRT.out HFT.out _ _ _ _ HPA.out).mono ?_
  rintro _ w3 ⟨rfl, hb3⟩
  have HS3 := Lib.hid (HS2.out.later hb3)
  have HB63 := Lib.hid ((hb3.block _ (Array.getElem?_eq_some_iff.1 HB6.out).1).trans HB6.out)
  have HP3 := Lib.hid (HPA.out.below hb3)
  clear hb3
  go_wp2_with fail
  refine (HPD.out _).mono ?_
  rintro _ wx ⟨rfl, rfl⟩
  go_wp2_with fail
  have HSD := Lib.hid (fun n => (show P7S w (wx.drewN n) from ⟨HS3.out.out, below_drewN HS3.out.below n⟩))
  have HBD : Hid (∀ n, (wx.drewN n).heap[(w.heap.size + 1)]? = some (.cells #[.int .i64 ty, .int .i64 fl, .int .u32 (tsn : Int), .int .u32 (tag : Int), .int .u32 (win : Int), .int .u32 (ppid : Int), .int .u16 (st : Int), .int .u16 (ssn : Int), .int .u16 (outs : Int), .int .u16 (ins : Int), .slice A1 gaps.length k1, .slice A2 dups.length k2, .slice A3 items.length k3, .string text] 74 (0, 0))) := Lib.hid (fun n => HB63.out)
  have HPN := Lib.hid (fun n => HP3.out.below (below_drewN (Below.refl _ _) n))
  clear HS1 HS2 HS3 HB6 HB63 HPP HPA HP3 HRD HRT HN0 HPD
  cases q with
  | false =>
    have hR := HCN.out (by rintro ⟨h, -⟩; cases h)
    go_quiet (fail)
    go_wp2_with (first
      | (refine wpList_store_row rfl 74 (.tmp 2) (.tmp 72) rfl w.heap.size #[.int .i64 0, .int .i64 0, .int .u32 0, .int .u32 0, .int .u32 0, .int .u32 0, .int .u16 0, .int .u16 0, .int .u16 0, .int .u16 0, .slice none 0 0, .slice none 0 0, .slice none 0 0, .string ⟨#[]⟩] rfl rfl 74 _ (HSD.out _).out HRS.out rfl HZ1.out ?_))
    subst hR
    exact bodyPost_ret (v := .tuple #[.agg #[.int .i64 0, .int .i64 0, .int .u32 0, .int .u32 0, .int .u32 0, .int .u32 0, .int .u16 0, .int .u16 0, .int .u16 0, .int .u16 0, .slice none 0 0, .slice none 0 0, .slice none 0 0, .string ⟨#[]⟩], .int .i64 0, .int .i64 2]) (results_row2 Tryz.results37 _ _ w.heap.size _ #[.int .i64 0, .int .i64 0, .int .u32 0, .int .u32 0, .int .u32 0, .int .u32 0, .int .u16 0, .int .u16 0, .int .u16 0, .int .u16 0, .slice none 0 0, .slice none 0 0, .slice none 0 0, .string ⟨#[]⟩] _ _ (by rfl) (setRow_heap _ _ _ _ _ _ (HSD.out _).out) Tryz.underlying74 rfl HRS.out) rfl (readQ_zero (below_setRow (HSD.out _).below (Nat.le_refl _) _))
  | true =>
    cases q2 with
    | false =>
      have hR := HCN.out (by rintro ⟨-, h, -⟩; cases h)
      go_quiet (fail)
      go_wp2_with (first
        | (refine wpList_store_row rfl 74 (.tmp 2) (.tmp 72) rfl w.heap.size #[.int .i64 0, .int .i64 0, .int .u32 0, .int .u32 0, .int .u32 0, .int .u32 0, .int .u16 0, .int .u16 0, .int .u16 0, .int .u16 0, .slice none 0 0, .slice none 0 0, .slice none 0 0, .string ⟨#[]⟩] rfl rfl 74 _ (HSD.out _).out HRS.out rfl HZ1.out ?_))
      subst hR
      exact bodyPost_ret (v := .tuple #[.agg #[.int .i64 0, .int .i64 0, .int .u32 0, .int .u32 0, .int .u32 0, .int .u32 0, .int .u16 0, .int .u16 0, .int .u16 0, .int .u16 0, .slice none 0 0, .slice none 0 0, .slice none 0 0, .string ⟨#[]⟩], .int .i64 0, .int .i64 2]) (results_row2 Tryz.results37 _ _ w.heap.size _ #[.int .i64 0, .int .i64 0, .int .u32 0, .int .u32 0, .int .u32 0, .int .u32 0, .int .u16 0, .int .u16 0, .int .u16 0, .int .u16 0, .slice none 0 0, .slice none 0 0, .slice none 0 0, .string ⟨#[]⟩] _ _ (by rfl) (setRow_heap _ _ _ _ _ _ (HSD.out _).out) Tryz.underlying74 rfl HRS.out) rfl (readQ_zero (below_setRow (HSD.out _).below (Nat.le_refl _) _))
    | true =>
      by_cases hE : s.extract n (n + t) = (⟨#[0, 0, 0]⟩ : ByteArray).extract 0 t
      case neg =>
        have hR := HCN.out (by rintro ⟨-, -, h⟩; exact hE h)
        have hE1 : ((s.extract n (n + t)).toList == ((⟨#[0, 0, 0]⟩ : ByteArray).extract 0 t).toList) = false := eqB_false hE
        clear hE
        go_quiet (fail)
        go_wp2_with (first
          | (refine wpList_store_row rfl 74 (.tmp 2) (.tmp 72) rfl w.heap.size #[.int .i64 0, .int .i64 0, .int .u32 0, .int .u32 0, .int .u32 0, .int .u32 0, .int .u16 0, .int .u16 0, .int .u16 0, .int .u16 0, .slice none 0 0, .slice none 0 0, .slice none 0 0, .string ⟨#[]⟩] rfl rfl 74 _ (HSD.out _).out HRS.out rfl HZ1.out ?_))
        subst hR
        exact bodyPost_ret (v := .tuple #[.agg #[.int .i64 0, .int .i64 0, .int .u32 0, .int .u32 0, .int .u32 0, .int .u32 0, .int .u16 0, .int .u16 0, .int .u16 0, .int .u16 0, .slice none 0 0, .slice none 0 0, .slice none 0 0, .string ⟨#[]⟩], .int .i64 0, .int .i64 2]) (results_row2 Tryz.results37 _ _ w.heap.size _ #[.int .i64 0, .int .i64 0, .int .u32 0, .int .u32 0, .int .u32 0, .int .u32 0, .int .u16 0, .int .u16 0, .int .u16 0, .int .u16 0, .slice none 0 0, .slice none 0 0, .slice none 0 0, .string ⟨#[]⟩] _ _ (by rfl) (setRow_heap _ _ _ _ _ _ (HSD.out _).out) Tryz.underlying74 rfl HRS.out) rfl (readQ_zero (below_setRow (HSD.out _).below (Nat.le_refl _) _))
      case pos =>
        have hR := HCY.out rfl rfl hE
        have hE1 : ((s.extract n (n + t)).toList == ((⟨#[0, 0, 0]⟩ : ByteArray).extract 0 t).toList) = true := eqB_true hE
        clear hE
        go_quiet (fail)
        go_wp2_with (first
          | (refine wpList_load_row rfl 74 (.tmp 6) rfl (w.heap.size + 1) rfl 74 #[.int .i64 ty, .int .i64 fl, .int .u32 (tsn : Int), .int .u32 (tag : Int), .int .u32 (win : Int), .int .u32 (ppid : Int), .int .u16 (st : Int), .int .u16 (ssn : Int), .int .u16 (outs : Int), .int .u16 (ins : Int), .slice A1 gaps.length k1, .slice A2 dups.length k2, .slice A3 items.length k3, .string text] (0, 0) _ (HBD.out _) Tryz.underlying74 rfl HRS.out ?_)
          | (refine wpList_store_row rfl 74 (.tmp 2) (.tmp 73) rfl w.heap.size #[.int .i64 ty, .int .i64 fl, .int .u32 (tsn : Int), .int .u32 (tag : Int), .int .u32 (win : Int), .int .u32 (ppid : Int), .int .u16 (st : Int), .int .u16 (ssn : Int), .int .u16 (outs : Int), .int .u16 (ins : Int), .slice A1 gaps.length k1, .slice A2 dups.length k2, .slice A3 items.length k3, .string text] rfl rfl 74 _ (HSD.out _).out HRS.out rfl HONE.out ?_))
        subst hR
        exact bodyPost_ret (v := .tuple #[.agg #[.int .i64 ty, .int .i64 fl, .int .u32 (tsn : Int), .int .u32 (tag : Int), .int .u32 (win : Int), .int .u32 (ppid : Int), .int .u16 (st : Int), .int .u16 (ssn : Int), .int .u16 (outs : Int), .int .u16 (ins : Int), .slice A1 gaps.length k1, .slice A2 dups.length k2, .slice A3 items.length k3, .string text], .int .i64 ((n : Int) + (t : Int)), .int .i64 0]) (results_row2 Tryz.results37 _ _ w.heap.size _ #[.int .i64 ty, .int .i64 fl, .int .u32 (tsn : Int), .int .u32 (tag : Int), .int .u32 (win : Int), .int .u32 (ppid : Int), .int .u16 (st : Int), .int .u16 (ssn : Int), .int .u16 (outs : Int), .int .u16 (ins : Int), .slice A1 gaps.length k1, .slice A2 dups.length k2, .slice A3 items.length k3, .string text] _ _ (by rfl) (setRow_heap _ _ _ _ _ _ (HSD.out _).out) Tryz.underlying74 rfl HRS.out) rfl ⟨_, _, _, rfl, (HPN.out _).keep (by simp) (fun j hj => setRow_other _ _ _ _ (by have := HAA.out j hj; omega)), fun j hj => by have := HAA.out j hj; omega, below_setRow (HSD.out _).below (Nat.le_refl _) _⟩
end Go.Proofs.YtlbaockipeojhaaGreat
