/-
  The reference of chapter 8: what is right, how long it is: contracts. The reference of chapter 8: whether a packet is right: contracts. The reference of chapter 8: what is built: contracts.
-/
import Derived.Test.YtlbaockipeojhaaGreatRkB
import Derived.Test.YtlbaockipeojhaaGreatFm
import Derived.Test.YtlbaockipeojhaaGreatAs
import Derived.Test.YtlbaockipeojhaaGreatCkRows
import Derived.Test.YtlbaockipeojhaaGreatPkBuild
import Derived.Test.YtlbaockipeojhaaGreatCrcR
section
namespace Go.Proofs.YtlbaockipeojhaaGreat
open Go.RowKit
set_option linter.unusedVariables false
set_option linter.unusedSimpArgs false
set_option maxRecDepth 100000

set_option maxHeartbeats 1000000 in
theorem ralone_any (k : Int) (w : World) : Calls Tryz.prog 13 #[.int .i64 k] w fun e w' => e = .returned (.bool (aloneB k)) ∧ w' = w := by
  unfold aloneB
  have e1 : (k == 1) = decide (k = 1) := by rw [Bool.eq_iff_iff, beq_iff_eq, decide_eq_true_eq]
  have e2 : (k == 2) = decide (k = 2) := by rw [Bool.eq_iff_iff, beq_iff_eq, decide_eq_true_eq]
  have e3 : (k == 14) = decide (k = 14) := by rw [Bool.eq_iff_iff, beq_iff_eq, decide_eq_true_eq]
  generalize decide (k = 1) = b1 at *
  generalize decide (k = 2) = b2 at *
  generalize decide (k = 14) = b3 at *
  cases b1 <;> cases b2 <;> cases b3
  all_goals
    go_enter Tryz.func13, Tryz.ntmps13
    go_wp2_with fail
    go_ret
    exact ⟨rfl, rfl⟩
/-- Whether it is right but for its bytes. -/
def shapedP (f t g : Nat) (l : List Cv) : Bool := formedP f t g (typesV l) && rightC (ckV l)
theorem shaped_no_f {f t g : Nat} {l : List Cv} (h : ¬ (f ≠ 0 ∧ t ≠ 0 ∧ 0 < l.length ∧ l.length ≤ 50 ∧ (g = 0 ↔ (typesV l).getD 0 0 = 1))) : shapedP f t g l = false := by
  unfold shapedP
  rw [show formedP f t g (typesV l) = false from by
    rw [← Bool.not_eq_true, formed_means, typesV_length]
    rintro ⟨h1, h2, h3, h4, h5, -⟩
    exact h ⟨h1, h2, h3, h4, h5⟩]
  rfl
theorem shaped_no_r {f t g : Nat} {l : List Cv} {k : Nat} (hk : k < l.length) (h : (buildC l[k].c).2 ≠ 0) : shapedP f t g l = false := by
  unfold shapedP
  rw [show rightC (ckV l) = false from by
    rw [← Bool.not_eq_true, rightC_true]
    intro hx
    exact h (hx _ (List.mem_map_of_mem (List.getElem_mem hk)))]
  exact Bool.and_false _
theorem shaped_no_a {f t g : Nat} {l : List Cv} {k : Nat} (hk : k < l.length) (h : aloneB l[k].c.type = true) (h1 : 1 < l.length) : shapedP f t g l = false := by
  unfold shapedP
  rw [show formedP f t g (typesV l) = false from by
    rw [← Bool.not_eq_true, formed_means, typesV_length]
    rintro ⟨-, -, -, -, -, h6, -⟩
    have := h6 k hk (by rw [typesV_at _ hk]; exact h)
    omega]
  rfl
theorem shaped_no_d {f t g : Nat} {l : List Cv} {i k : Nat} (hk : k < l.length) (hik : i < k) (h : (l[i]'(by omega)).c.type = 0) (h1 : l[k].c.type ≠ 0) : shapedP f t g l = false := by
  unfold shapedP
  rw [show formedP f t g (typesV l) = false from by
    rw [← Bool.not_eq_true, formed_means, typesV_length]
    rintro ⟨-, -, -, -, -, -, h7⟩
    have := h7 i k hik hk (by rw [typesV_at _ (by omega)]; exact h)
    rw [typesV_at _ hk] at this
    exact h1 this]
  rfl
/-- What has been looked at so far. -/
structure ShG (l : List Cv) (k : Nat) (d : Bool) : Prop where
  right : ∀ j (h : j < l.length), j < k → (buildC l[j].c).2 = 0 ∧ (aloneB l[j].c.type = true → l.length ≤ 1)
  data : ∀ i j (h : j < l.length), j < k → (hij : i < j) → (l[i]'(by omega)).c.type = 0 → l[j].c.type = 0
  seen : d = true ↔ ∃ i, ∃ h : i < l.length, i < k ∧ l[i].c.type = 0
theorem ShG.zero (l : List Cv) : ShG l 0 false := ⟨fun j _ h => absurd h (Nat.not_lt_zero _), fun i j _ h => absurd h (Nat.not_lt_zero _), by
  constructor
  · intro h; cases h
  · rintro ⟨i, -, h, -⟩; exact absurd h (Nat.not_lt_zero _)⟩
theorem ShG.next {l : List Cv} {k : Nat} {d : Bool} (h : ShG l k d) (hk : k < l.length) (h1 : (buildC l[k].c).2 = 0) (h2 : aloneB l[k].c.type = true → l.length ≤ 1) (h3 : d = true → l[k].c.type = 0) : ShG l (k + 1) (d || (l[k].c.type == 0)) := by
  refine ⟨fun j hj hjk => ?_, fun i j hj hjk hij hi => ?_, ?_⟩
  · by_cases e : j = k
    · subst e; exact ⟨h1, h2⟩
    · exact h.right j hj (by omega)
  · by_cases e : j = k
    · subst e; exact h3 (h.seen.2 ⟨i, by omega, hij, hi⟩)
    · exact h.data i j hj (by omega) hij hi
  · rw [Bool.or_eq_true, beq_iff_eq, h.seen]
    constructor
    · rintro (⟨i, hi, hik, hz⟩ | hz)
      · exact ⟨i, hi, by omega, hz⟩
      · exact ⟨k, hk, by omega, hz⟩
    · rintro ⟨i, hi, hik, hz⟩
      by_cases e : i = k
      · subst e; exact .inr hz
      · exact .inl ⟨i, hi, by omega, hz⟩
theorem ShG.all {f t g : Nat} {l : List Cv} {d : Bool} (h : ShG l l.length d) (hh : f ≠ 0 ∧ t ≠ 0 ∧ 0 < l.length ∧ l.length ≤ 50 ∧ (g = 0 ↔ (typesV l).getD 0 0 = 1)) : shapedP f t g l = true := by
  unfold shapedP
  obtain ⟨h1, h2, h3, h4, h5⟩ := hh
  rw [Bool.and_eq_true, formed_means, typesV_length, rightC_true]
  refine ⟨⟨h1, h2, h3, h4, h5, fun i hi ha => ?_, fun i j hij hj hz => ?_⟩, fun c hc => ?_⟩
  · rw [typesV_at _ hi] at ha
    have := (h.right i hi hi).2 ha
    omega
  · rw [typesV_at _ (by omega)] at hz
    rw [typesV_at _ hj]
    exact h.data i j hj hj hij hz
  · obtain ⟨y, hy, rfl⟩ := List.mem_map.1 hc
    obtain ⟨n, hn, rfl⟩ := List.getElem_of_mem hy
    exact (h.right n hn hn).1
/-- A packet in a box. -/
structure RpS (f t g : Nat) (V : Value) (w W : World) : Prop where
  own : W.heap[w.heap.size]? = some (.cells (cellsP f t g V) 35 (0, 0))
  below : Below w.heap.size w W
theorem RpS.later {f t g : Nat} {V : Value} {w W W' : World} (h : RpS f t g V w W) (hb : Below W.heap.size W W') : RpS f t g V w W' :=
  ⟨(hb.block _ (Array.getElem?_eq_some_iff.1 h.own).1).trans h.own, h.below.trans (hb.mono h.below.size)⟩
theorem RpS.c {f t g : Nat} {V : Value} {w W : World} (h : RpS f t g V w W) : W.cell? ⟨w.heap.size, 0, none⟩ = some (.int .u16 (f : Int)) ∧ W.cell? ⟨w.heap.size, 1, none⟩ = some (.int .u16 (t : Int)) ∧ W.cell? ⟨w.heap.size, 2, none⟩ = some (.int .u32 (g : Int)) ∧ W.cell? ⟨w.heap.size, 3, none⟩ = some V := by
  refine ⟨?_, ?_, ?_, ?_⟩ <;> (rw [cell_in h.own]; rfl)
theorem rpS_new (f t g : Nat) (V : Value) (w : World) : RpS f t g V w (w.alloc (.cells (cellsP f t g V) 35)) := ⟨heap_alloc_new w _, (Below.refl _ _).alloc (Nat.le_refl _) _⟩
set_option maxHeartbeats 16000000 in
theorem rsize8_any (V : Value) (l : List Cv) (hl : l.length ≤ 100000) (hfit : ∀ x ∈ l, FitC x.c) (w : World) (h : Rk w V l) :
    Calls Tryz.prog 27 #[V] w fun e w' => e = .returned (.int .i64 ((12 + (joinC (ckV l)).size : Nat) : Int)) ∧ Below w.heap.size w w' := by
  have HSZ := Lib.hid (fun k (hk : k ≤ l.length) => (upTo_length 0 0 0 l k hk))
  have HK := Lib.hid h
  have HFIT := Lib.hid hfit
  obtain ⟨A, cap, rfl, hcap, hmax, hcells⟩ := h.row
  have HC := Lib.hid hcells
  have hlm : (l.length : Int) ≤ 100000 := by omega
  clear h hfit hcells
  go_enter Tryz.func27, Tryz.ntmps27
  go_wp2_with fail
  go_loopw [3, 4] (fun n i wr => ∃ k : Nat, k ≤ l.length ∧ i = .int .i64 k ∧ n = .int .i64 ((12 + (joinC (ckV (l.take k))).size : Nat) : Int) ∧ Hid (Below w.heap.size w wr))
    (fun _ i _ => l.length - (intOf i).toNat)
  case atStart => exact ⟨0, Nat.zero_le _, rfl, rfl, Lib.hid (Below.refl _ _)⟩
  case round =>
    obtain ⟨k, hk, rfl, rfl, HB⟩ := hrel
    by_cases hlt : k < l.length
    · obtain ⟨b, off, rfl, hb, hr⟩ := HC.out (by omega)
      have hp := HK.out.parts _ (List.getElem_mem hlt)
      have hf := HFIT.out _ (List.getElem_mem hlt)
      have hz := HSZ.out k (by omega)
      have hs : (joinC (ckV (l.take (k + 1)))).size = (joinC (ckV (l.take k))).size + (buildC l[k].c).1.size := by
        rw [List.take_succ_eq_append_getElem hlt]
        unfold ckV
        rw [List.map_append]
        exact joinC_size_snoc _ _
      have hbz : (buildC l[k].c).1.size ≤ 1400 := by
        by_cases h : (buildC l[k].c).2 = 0
        · exact (built_size h).2.1
        · rw [buildC_none h]; decide
      have hj : (joinC (ckV (l.take k))).size ≤ 1400 * k := by
        have : (upTo 0 0 0 l k).length = 12 + (joinC (ckV (l.take k))).size := by
          unfold upTo
          rw [← size_list, ByteArray.size_append]
          rfl
        omega
      obtain ⟨CL, hL⟩ := hasL l[k]
      have HT := Lib.hid (show ∀ W, Below w.heap.size w W → Calls Tryz.prog 52 #[.agg CL.toArray] W fun e w' => e = .returned (.int .i64 ((buildC l[k].c).1.size : Nat)) ∧ Below W.heap.size W w' from fun W hW => by
        rw [← hL.arr]
        exact rksize_any _ hf.wf (Nat.le_trans hf.gl (by omega)) (Nat.le_trans hf.dl (by omega)) hf.il hf.iv _ _ _ W (hp.below hW))
      have HR := Lib.hid (show w.rangeAt b (off + k * 14) CL from by rw [← hL.cells]; exact hr k hlt)
      have HL := Lib.hid hL
      have HS := Lib.hid hs
      have q1 : (k : Int) < (l.length : Int) := by omega
      have q2 : (0 : Int) ≤ (k : Int) := by omega
      clear hr hp hf hL hs hz
      generalize (buildC l[k].c).1.size = m at *
      generalize (joinC (ckV (l.take k))).size = n0 at *
      have v1 : IntKind.i64.wrap (((12 + n0 : Nat) : Int) + (m : Int)) = ((12 + (n0 + m) : Nat) : Int) := by rw [IntKind.wrap_i64]; omega
      go_wp2_with (first
        | (refine wpList_load_mid rfl 74 (.tmp 14) rfl b (off + k * 14) rfl CL _ (rangeAt_below HR.out hb HB.out) Tryz.underlying74 rfl HL.out.size ?_))
      refine (HT.out _ HB.out).mono ?_
      rintro _ w2 ⟨rfl, hb2⟩
      have HB2 := Lib.hid (HB.out.trans (hb2.mono HB.out.size))
      clear hb2
      go_wp2_with fail
      go_roundw
      case rel => exact ⟨k + 1, by omega, by go_num, by rw [HS.out]; first | rfl | (simp only [Value.int.injEq, true_and]; omega), HB2⟩
      case measure => simp [intOf]; omega
    · obtain rfl : k = l.length := by omega
      rw [List.take_length]
      go_wp2_with fail
      go_ret
      exact ⟨rfl, HB.out⟩
end Go.Proofs.YtlbaockipeojhaaGreat
end
section
namespace Go.Proofs.YtlbaockipeojhaaGreat
open Go.RowKit
set_option linter.unusedVariables false
set_option linter.unusedSimpArgs false
set_option maxRecDepth 100000

set_option maxHeartbeats 16000000 in
theorem rshaped8_any (f t g : Nat) (V : Value) (l : List Cv) (hl : l.length ≤ 100000) (hfit : ∀ x ∈ l, FitC x.c) (w : World) (h : Rk w V l) :
    Calls Tryz.prog 26 #[.agg (cellsP f t g V)] w fun e w' => e = .returned (.bool (shapedP f t g l)) ∧ Below w.heap.size w w' := by
  have HK := Lib.hid h
  have HFIT := Lib.hid hfit
  obtain ⟨A, cap, rfl, hcap, hmax, hcells⟩ := h.row
  have HS := Lib.hid (rpS_new f t g (.slice A l.length cap) w)
  have HC := Lib.hid hcells
  have hlm : (l.length : Int) ≤ 100000 := by omega
  clear h hfit hcells
  dsimp only [cellsP] at *
  by_cases h1 : f = 0
  · rw [shaped_no_f (by rintro ⟨x, -⟩; exact x h1)]
    have z1 : ((f : Int) == 0) = true := beq_iff_eq.2 (by omega)
    clear h1 HK HFIT HC
    go_enter Tryz.func26, Tryz.ntmps26
    go_wp2_with fail
    go_quiet (fail)
    go_wp2_with fail
    go_ret
    exact ⟨rfl, below_drewN HS.out.below _⟩
  have z1 : ((f : Int) == 0) = false := beq_eq_false_iff_ne.2 (by omega)
  by_cases h2 : t = 0
  · rw [shaped_no_f (by rintro ⟨-, x, -⟩; exact x h2)]
    have z2 : ((t : Int) == 0) = true := beq_iff_eq.2 (by omega)
    clear h1 h2 HK HFIT HC
    go_enter Tryz.func26, Tryz.ntmps26
    go_wp2_with fail
    go_quiet (fail)
    go_wp2_with fail
    go_ret
    exact ⟨rfl, below_drewN HS.out.below _⟩
  have z2 : ((t : Int) == 0) = false := beq_eq_false_iff_ne.2 (by omega)
  by_cases h3 : l.length = 0
  · rw [shaped_no_f (by rintro ⟨-, -, x, -⟩; omega)]
    have z3 : decide ((l.length : Int) < 1) = true := decide_eq_true (by omega)
    clear h1 h2 h3 HK HFIT HC
    go_enter Tryz.func26, Tryz.ntmps26
    go_wp2_with fail
    go_quiet (fail)
    go_wp2_with fail
    go_ret
    exact ⟨rfl, below_drewN HS.out.below _⟩
  have z3 : decide ((l.length : Int) < 1) = false := decide_eq_false (by omega)
  by_cases h4 : 50 < l.length
  · rw [shaped_no_f (by rintro ⟨-, -, -, x, -⟩; omega)]
    have z4 : decide ((50 : Int) < (l.length : Int)) = true := decide_eq_true (by omega)
    clear h1 h2 h3 h4 HK HFIT HC
    go_enter Tryz.func26, Tryz.ntmps26
    go_wp2_with fail
    go_quiet (fail)
    go_wp2_with fail
    go_ret
    exact ⟨rfl, below_drewN HS.out.below _⟩
  have z4 : decide ((50 : Int) < (l.length : Int)) = false := decide_eq_false (by omega)
  have hn0 : 0 < l.length := by omega
  obtain ⟨b, off, rfl, hb, hr⟩ := HC.out hn0
  have hty : (typesV l).getD 0 0 = (l[0]'hn0).c.type := typesV_at _ hn0
  have hc0 : (w.alloc (.cells #[.int .u16 (f : Int), .int .u16 (t : Int), .int .u32 (g : Int), .slice (some ⟨b, off, none⟩) l.length cap] 35)).cell? ⟨b, off, none⟩ = some (.int .i64 (l[0]'hn0).c.type) := by
    have := rangeAt_below (hr 0 hn0) hb HS.out.below 0 _ rfl
    rwa [Nat.zero_mul, Nat.add_zero] at this
  have HR0 := Lib.hid hr
  have q0 : (0 : Int) < (l.length : Int) := by omega
  clear hr HC
  have hgz : (((g : Int) == 0) != ((l[0]'hn0).c.type == 1)) = !decide (g = 0 ↔ (typesV l).getD 0 0 = 1) := by
    rw [hty]
    by_cases ha : g = 0
    · by_cases hb : (l[0]'hn0).c.type = 1 <;> simp [ha, hb]
    · have : ((g : Int) == 0) = false := beq_eq_false_iff_ne.2 (by omega)
      rw [this]
      by_cases hb : (l[0]'hn0).c.type = 1 <;> simp [ha, hb]
  by_cases h5 : (g = 0 ↔ (typesV l).getD 0 0 = 1)
  case neg =>
    rw [shaped_no_f (by rintro ⟨-, -, -, -, x⟩; exact h5 x)]
    rw [decide_eq_false h5] at hgz
    generalize (l[0]'hn0).c.type = ty0 at *
    generalize hg0 : ((g : Int) == 0) = gz at *
    generalize ht0 : (ty0 == 1) = tz at *
    replace hgz : (gz != tz) = true := hgz
    have hgz2 : (gz == tz) = false := by cases gz <;> cases tz <;> first | rfl | cases hgz
    clear h1 h2 h3 h4 h5 hty HK HFIT hn0 HR0
    go_enter Tryz.func26, Tryz.ntmps26
    go_wp2_with fail
    go_quiet (fail)
    go_wp2_with fail
    go_ret
    exact ⟨rfl, below_drewN HS.out.below _⟩
  rw [decide_eq_true h5] at hgz
  have HH := Lib.hid (show f ≠ 0 ∧ t ≠ 0 ∧ 0 < l.length ∧ l.length ≤ 50 ∧ (g = 0 ↔ (typesV l).getD 0 0 = 1) from ⟨h1, h2, hn0, by omega, h5⟩)
  have HNR := Lib.hid (fun k (hk : k < l.length) => shaped_no_r (f := f) (t := t) (g := g) hk)
  have HNA := Lib.hid (fun k (hk : k < l.length) => shaped_no_a (f := f) (t := t) (g := g) hk)
  have HND := Lib.hid (fun i k (hk : k < l.length) (hi : i < k) => shaped_no_d (f := f) (t := t) (g := g) hk hi)
  have HY := Lib.hid (fun d (h : ShG l l.length d) => ShG.all h HH.out)
  have HG0 := Lib.hid (ShG.zero l)
  generalize shapedP f t g l = q at *
  clear h1 h2 h3 h4 h5 hty HH
  generalize hty0 : (l[0]'hn0).c.type = ty0 at *
  clear hty0
  generalize hg0 : ((g : Int) == 0) = gz at *
  generalize ht0 : (ty0 == 1) = tz at *
  replace hgz : (gz != tz) = false := hgz
  obtain rfl : gz = tz := by cases gz <;> cases tz <;> first | rfl | cases hgz
  go_enter Tryz.func26, Tryz.ntmps26
  go_wp2_with fail
  go_quiet (fail)
  go_wp2_with fail
  have HS0 := Lib.hid (show ∀ n, RpS f t g (.slice (some ⟨b, off, none⟩) l.length cap) w ((w.alloc (.cells #[.int .u16 (f : Int), .int .u16 (t : Int), .int .u32 (g : Int), .slice (some ⟨b, off, none⟩) l.length cap] 35)).drewN n) from fun n => HS.out.later (below_drewN (Below.refl _ _) _))
  clear z1 z2 z3 z4 hgz hc0 HS hg0 ht0
  go_loopw [4, 5] (fun dv i wr => ∃ (k : Nat) (d : Bool), k ≤ l.length ∧ i = .int .i64 k ∧ dv = .bool d ∧ Hid (RpS f t g (.slice (some ⟨b, off, none⟩) l.length cap) w wr ∧ ShG l k d))
    (fun _ i _ => l.length - (intOf i).toNat)
  case atStart => exact ⟨0, false, Nat.zero_le _, rfl, rfl, Lib.hid ⟨HS0.out _, HG0.out⟩⟩
  case round =>
    obtain ⟨k, d, hk, rfl, rfl, HR⟩ := hrel
    have HS := Lib.hid HR.out.1
    have HG := Lib.hid HR.out.2
    clear HR HS0 HG0
    by_cases hlt : k < l.length
    · have hp := HK.out.parts _ (List.getElem_mem hlt)
      have hf := HFIT.out _ (List.getElem_mem hlt)
      obtain ⟨CL, hL⟩ := hasL l[k]
      have HONE := Lib.hid (hL.one (hp.below HS.out.below))
      have HR2 := Lib.hid (show w.rangeAt b (off + k * 14) CL from by rw [← hL.cells]; exact HR0.out k hlt)
      have HT := Lib.hid (show ∀ W, Below w.heap.size w W → Calls Tryz.prog 51 #[.agg CL.toArray] W fun e w' => e = .returned (.bool (decide ((buildC l[k].c).2 = 0))) ∧ Below W.heap.size W w' from fun W hW => by
        rw [← hL.arr]
        exact rkright_any _ hf.wf (Nat.le_trans hf.gl (by omega)) (Nat.le_trans hf.dl (by omega)) hf.il hf.iv _ _ _ W (hp.below hW))
      have hnr := HNR.out k hlt
      have hna := HNA.out k hlt
      have hnd : d = true → l[k].c.type ≠ 0 → q = false := fun e hz => by
        obtain ⟨i, hi, hik, hiz⟩ := HG.out.seen.1 e
        exact HND.out i k hlt hik hiz hz
      have hnx := HG.out.next hlt
      have hcl : CL.toArray[0]? = some (.int .i64 l[k].c.type) := by rw [← hL.arr]; rfl
      have HLL := Lib.hid hL
      have HNX := Lib.hid hnx
      have HRB := Lib.hid (fun (h : decide ((buildC l[k].c).2 = 0) = true) => of_decide_eq_true h)
      have HRN := Lib.hid (fun (h : decide ((buildC l[k].c).2 = 0) = false) => hnr (of_decide_eq_false h))
      clear hp hf hL HG HNR HNA HND HR0 hnx hnr
      generalize hrb : decide ((buildC l[k].c).2 = 0) = r at *
      generalize l[k].c.type = ty at *
      have q1 : (k : Int) < (l.length : Int) := by omega
      have q2 : (0 : Int) ≤ (k : Int) := by omega
      have HS1 := Lib.hid (HS.out.later ((Below.refl wr.heap.size wr).alloc (Nat.le_refl _) (.cells CL.toArray 74)))
      have HO1 : Hid ((wr.alloc (.cells CL.toArray 74)).heap[wr.heap.size]? = some (.cells CL.toArray 74 (0, 0))) := Lib.hid (heap_alloc_new _ _)
      have c3 := HS.out.c.2.2.2
      clear hrb
      go_wp2_with (first
        | (refine wpList_load_mid rfl 74 (.tmp 47) rfl b (off + k * 14) rfl CL _ (rangeAt_below HR2.out hb HS.out.below) Tryz.underlying74 rfl HLL.out.size ?_)
        | (refine wpList_store_row rfl 74 (.tmp 6) (.tmp 48) rfl wr.heap.size CL.toArray rfl rfl 74 _ (heap_alloc_new _ _) HLL.out.sizeA (ckZero.trans HLL.out.fourteen.symm) HONE.out ?_; rw [World.setRow_alloc_new])
        | (refine wpList_load_row rfl 74 (.tmp 6) rfl wr.heap.size rfl 74 CL.toArray (0, 0) _ HO1.out Tryz.underlying74 rfl HLL.out.sizeA ?_))
      refine (HT.out _ HS1.out.below).mono ?_
      rintro _ w2 ⟨rfl, hb2⟩
      have HS2 := Lib.hid (HS1.out.later hb2)
      have hown := (hb2.block _ (Array.getElem?_eq_some_iff.1 HO1.out).1).trans HO1.out
      have c0 : w2.cell? ⟨wr.heap.size, 0, none⟩ = some (.int .i64 ty) := by rw [cell_in hown]; exact hcl
      clear c3 hb2 hown HO1 HS1 HT HLL HR2 HONE hcl
      cases r
      case false =>
        obtain rfl := HRN.out rfl
        go_wp2_with fail
        go_ret
        exact ⟨rfl, HS2.out.below⟩
      have HAL := Lib.hid (fun W => ralone_any ty W)
      have HRT := Lib.hid (HRB.out rfl)
      clear HRB HRN
      by_cases hab : aloneB ty = true
      case pos =>
        rw [hab] at HAL
        by_cases h1n : 1 < l.length
        case pos =>
          obtain rfl := hna hab h1n
          have z5 : decide ((1 : Int) < (l.length : Int)) = true := decide_eq_true (by omega)
          clear hna hnd hab h1n
          go_wp2_with fail
          refine (HAL.out _).mono ?_
          rintro _ w3 ⟨rfl, rfl⟩
          go_wp2_with fail
          go_ret
          exact ⟨rfl, HS2.out.below⟩
        have z5 : decide ((1 : Int) < (l.length : Int)) = false := decide_eq_false (by omega)
        have HNY := Lib.hid (HNX.out HRT.out (fun _ => by omega))
        clear hna hab h1n
        cases d
        case false =>
          have HNZ := Lib.hid (HNY.out (fun e => by cases e))
          clear hnd
          go_wp2_with fail
          refine (HAL.out _).mono ?_
          rintro _ w3 ⟨rfl, rfl⟩
          go_wp2_with fail
          go_roundw
          case rel => exact ⟨k + 1, _, by omega, by go_num, rfl, Lib.hid ⟨HS2.out, HNZ.out⟩⟩
          case measure => simp [intOf]; omega
        case true =>
          by_cases hz : ty = 0
          case neg =>
            obtain rfl := hnd rfl hz
            have z6 : (ty != 0) = true := bne_iff_ne.2 hz
            clear hnd hz
            go_wp2_with fail
            refine (HAL.out _).mono ?_
            rintro _ w3 ⟨rfl, rfl⟩
            go_wp2_with fail
            go_ret
            exact ⟨rfl, HS2.out.below⟩
          have HNZ := Lib.hid (HNY.out (fun _ => hz))
          have z6 : (ty != 0) = false := by rw [hz]; rfl
          clear hnd hz
          go_wp2_with fail
          refine (HAL.out _).mono ?_
          rintro _ w3 ⟨rfl, rfl⟩
          go_wp2_with fail
          go_roundw
          case rel => exact ⟨k + 1, _, by omega, by go_num, rfl, Lib.hid ⟨HS2.out, HNZ.out⟩⟩
          case measure => simp [intOf]; omega
      case neg =>
        have HNY := Lib.hid (HNX.out HRT.out (fun e => absurd e hab))
        rw [Bool.not_eq_true] at hab
        rw [hab] at HAL
        clear hna hab
        cases d
        case false =>
          have HNZ := Lib.hid (HNY.out (fun e => by cases e))
          clear hnd
          go_wp2_with fail
          refine (HAL.out _).mono ?_
          rintro _ w3 ⟨rfl, rfl⟩
          go_wp2_with fail
          go_roundw
          case rel => exact ⟨k + 1, _, by omega, by go_num, rfl, Lib.hid ⟨HS2.out, HNZ.out⟩⟩
          case measure => simp [intOf]; omega
        case true =>
          by_cases hz : ty = 0
          case neg =>
            obtain rfl := hnd rfl hz
            have z6 : (ty != 0) = true := bne_iff_ne.2 hz
            clear hnd hz
            go_wp2_with fail
            refine (HAL.out _).mono ?_
            rintro _ w3 ⟨rfl, rfl⟩
            go_wp2_with fail
            go_ret
            exact ⟨rfl, HS2.out.below⟩
          have HNZ := Lib.hid (HNY.out (fun _ => hz))
          have z6 : (ty != 0) = false := by rw [hz]; rfl
          clear hnd hz
          go_wp2_with fail
          refine (HAL.out _).mono ?_
          rintro _ w3 ⟨rfl, rfl⟩
          go_wp2_with fail
          go_roundw
          case rel => exact ⟨k + 1, _, by omega, by go_num, rfl, Lib.hid ⟨HS2.out, HNZ.out⟩⟩
          case measure => simp [intOf]; omega
    · obtain rfl : k = l.length := by omega
      obtain rfl := HY.out _ HG.out
      go_wp2_with fail
      go_ret
      exact ⟨rfl, HS.out.below⟩
end Go.Proofs.YtlbaockipeojhaaGreat
end
section
namespace Go.Proofs.YtlbaockipeojhaaGreat
open Go.RowKit
set_option linter.unusedVariables false
set_option linter.unusedSimpArgs false
set_option maxRecDepth 100000

theorem shaped_build_no {f t g : Nat} {l : List Cv} (h : shapedP f t g l = false) : buildP ⟨f, t, g, ckV l⟩ = (noB, 1) := by
  unfold buildP
  rw [if_neg]
  rintro ⟨h1, h2⟩
  unfold Pk.types at h1
  rw [typesV_ck] at h1
  unfold shapedP at h
  rw [h1, h2] at h
  cases h
theorem shaped_build {f t g : Nat} {l : List Cv} (h : shapedP f t g l = true) : buildP ⟨f, t, g, ckV l⟩ = if 1500 < 12 + (joinC (ckV l)).size then (noB, 4) else (sealed (headB f t g ++ joinC (ckV l)), 0) := by
  unfold shapedP at h
  rw [Bool.and_eq_true] at h
  have h4 := packB_size ⟨f, t, g, ckV l⟩
  unfold buildP
  rw [if_pos ⟨by unfold Pk.types; rw [typesV_ck]; exact h.1, h.2⟩, h4]
  rfl
theorem packed_right8 {f t g : Nat} {l : List Cv} : decide ((buildP ⟨f, t, g, ckV l⟩).2 = 0) = (shapedP f t g l && decide (12 + (joinC (ckV l)).size ≤ 1500)) := by
  cases h : shapedP f t g l
  · rw [shaped_build_no h]; rfl
  · rw [shaped_build h]
    by_cases h1 : 1500 < 12 + (joinC (ckV l)).size
    · rw [if_pos h1, decide_eq_false (by omega : ¬ 12 + (joinC (ckV l)).size ≤ 1500)]; rfl
    · rw [if_neg h1, decide_eq_true (by omega : 12 + (joinC (ckV l)).size ≤ 1500)]; rfl
set_option maxHeartbeats 4000000 in
theorem rright8_any (f t g : Nat) (V : Value) (l : List Cv) (hl : l.length ≤ 100000) (hfit : ∀ x ∈ l, FitC x.c) (w : World) (h : Rk w V l) :
    Calls Tryz.prog 11 #[.agg (cellsP f t g V)] w fun e w' => e = .returned (.bool (decide ((buildP ⟨f, t, g, ckV l⟩).2 = 0))) ∧ Below w.heap.size w w' := by
  rw [packed_right8]
  have HSH := Lib.hid (fun W hW => rshaped8_any f t g V l hl hfit W (h.below hW))
  have HSZ := Lib.hid (fun W hW => rsize8_any V l hl hfit W (h.below hW))
  have HS := Lib.hid (rpS_new f t g V w)
  obtain ⟨A, cap, rfl, hcap, hmax, hcells⟩ := h.row
  generalize shapedP f t g l = q at *
  generalize (joinC (ckV l)).size = m at *
  clear h hcells hfit
  dsimp only [cellsP] at *
  have hz : decide (((12 + m : Nat) : Int) ≤ 1500) = decide (12 + m ≤ 1500) := by rw [decide_eq_decide]; omega
  go_enter Tryz.func11, Tryz.ntmps11
  go_wp2_with fail
  refine (HSH.out _ HS.out.below).mono ?_
  rintro _ w1 ⟨rfl, hb1⟩
  replace HS := Lib.hid (HS.out.later hb1)
  have c3 := HS.out.c.2.2.2
  clear hb1
  cases q
  case false =>
    go_wp2_with fail
    go_ret
    exact ⟨rfl, HS.out.below⟩
  go_wp2_with fail
  refine (HSZ.out _ HS.out.below).mono ?_
  rintro _ w2 ⟨rfl, hb2⟩
  replace HS := Lib.hid (HS.out.later hb2)
  clear hb2 c3
  go_wp2_with fail
  go_ret
  exact ⟨by first | rfl | (rw [← hz]; rfl) | (rw [hz]; rfl), HS.out.below⟩
end Go.Proofs.YtlbaockipeojhaaGreat
end
