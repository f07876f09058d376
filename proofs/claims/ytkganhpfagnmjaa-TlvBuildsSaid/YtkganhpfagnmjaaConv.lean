/-
  What the statements do with items: as the document has them; whether two rows are the same; whether they are few and short; the longest: contracts.
-/
import Derived.Test.YtkganhpfagnmjaaRow
import Derived.Test.YtkganhpfagnmjaaWords
import Derived.Test.YtkganhpfagnmjaaOwn
import Derived.BigRegion
import Derived.Laws.StructEq
namespace Go.Proofs.Ytkganhpfagnmjaa
open Go.RowKit
set_option linter.unusedVariables false

theorem info63 : (Try.prog.info? 63).map (fun i => (i.zero, i.size, i.bytes)) = some (some (.agg #[.int .i64 0, .string ⟨#[]⟩]), 2, 24) := by kernel_rfl
theorem info47 : (Try.prog.info? 47).map (fun i => (i.zero, i.size, i.bytes)) = some (some (.agg #[.int .i64 0, .string ⟨#[]⟩]), 2, 24) := by kernel_rfl
theorem flatI_take (l : List Item) (k : Nat) (h : k < l.length) : flatI (l.take (k + 1)) = flatI (l.take k) ++ [.int .i64 l[k].1, .string l[k].2] := by
  rw [List.take_succ_eq_append_getElem h, flatI_append]
  rfl
/-- Two cells just laid. -/
theorem fed_two {P : Program} (w : World) (a b : Value) (t : TypeId) (h1 : a.oneCell' = true) (h2 : b.oneCell' = true) : Fed P (w.alloc (.cells #[a, b] t)) 2 (.slice (some ⟨w.heap.size, 0, none⟩) 1 1) 1 [a, b] :=
  Fed.block (heap_alloc_new w _) rfl (by intro u hu; simp at hu; rcases hu with rfl | rfl <;> assumption)

set_option maxHeartbeats 4000000 in
theorem as_any (l : List Item) (hl : l.length ≤ 100000) (v : Value) (w : World) (hv : RowI w v l) :
    Calls Try.prog 13 #[v] w fun e w' => ∃ v', e = .returned v' ∧ OwnG w' w.heap.size 63 2 v' l.length (flatI l) ∧ Below w.heap.size w w' := by
  obtain ⟨A, cap, rfl, hcap, hmax, hcells⟩ := hv
  obtain ⟨i0, hi0, hz0, hz1, hz2⟩ := info_parts info63
  have HI := Lib.hid hi0
  have HZ0 := Lib.hid hz0
  have HZ1 := Lib.hid hz1
  have HZ2 := Lib.hid hz2
  have HC := Lib.hid hcells
  have HT := Lib.hid (fun k (h : k < l.length) => flatI_take l k h)
  have HL := Lib.hid (show flatI (l.take l.length) = flatI l by rw [List.take_length])
  have HL0 := Lib.hid (show flatI (l.take 0) = [] from rfl)
  clear hcells hi0 hz0 hz1 hz2
  have hl' : (l.length : Int) ≤ 100000 := by omega
  go_enter Try.func13, Try.ntmps13
  go_wp2_with fail
  go_loopw [3, 4] (fun vr i wr => ∃ k : Nat, k ≤ l.length ∧ i = .int .i64 k ∧ Hid (OwnG wr w.heap.size 63 2 vr k (flatI (l.take k)) ∧ Below w.heap.size w wr))
    (fun _ i _ => l.length - (intOf i).toNat)
  case atStart => exact ⟨0, Nat.zero_le _, rfl, Lib.hid ⟨by rw [HL0.out]; exact OwnG.nil _ _ _ _, Below.refl _ _⟩⟩
  case round =>
    obtain ⟨k, hk, rfl, HR⟩ := hrel
    by_cases hlt : k < l.length
    · obtain ⟨b, off, rfl, hb, hc⟩ := HC.out (by omega)
      obtain ⟨hc0, hc1⟩ := hc k hlt
      have HT1 := Lib.hid (HT.out k hlt)
      generalize hxe : l[k] = x at *
      obtain ⟨a, t⟩ := x
      dsimp only at hc0 hc1
      have hbr := HR.out.2
      have hd0 := (hbr.cell (p := ⟨b, off + k * 2, none⟩) hb).trans hc0
      have hd1 := (hbr.cell (p := ⟨b, off + k * 2 + 1, none⟩) hb).trans hc1
      have hblt := Nat.lt_of_lt_of_le hb hbr.size
      have q4 : (0 : Int) ≤ (k : Int) := by omega
      have q5 : (k : Int) < (l.length : Int) := by omega
      clear hc hxe
      go_wp2_with fail
      have hbw := hbr
      have HK0 := Lib.hid (And.intro ((World.cell?_drew wr ⟨b, off + k * 2, none⟩).trans hd0) (And.intro ((World.cell?_drew wr ⟨b, off + k * 2 + 1, none⟩).trans hd1) hbr.drew))
      clear hbr
      go_region_held3 (fun w' => w'.cell? ⟨b, off + k * 2, none⟩ = some (.int .i64 a) ∧ w'.cell? ⟨b, off + k * 2 + 1, none⟩ = some (.string t) ∧ Below w.heap.size w w')
        (first | exact HK0.out | (go_split_ands; refine ⟨?_, ?_, ?_⟩ <;> assumption) | exact ⟨(World.cell?_of_block (heap_alloc_old _ _ hblt)).trans HK0.out.1, (World.cell?_of_block (heap_alloc_old _ _ hblt)).trans HK0.out.2.1, (HK0.out.2.2.alloc (Nat.le_of_lt_succ (by have := HK0.out.2.2.size; simpa using Nat.lt_succ_of_le this)) _)⟩ | exact ⟨(hb58.cell (p := ⟨b, off + k * 2, none⟩) hb).trans hc0, (hb58.cell (p := ⟨b, off + k * 2 + 1, none⟩) hb).trans hc1, hb58⟩)
        ((go_split_ands
          refine step_append_fed _ (by rfl) (.tmp 11) (.tmp 23) 29 29 (by rfl) w 63 i0 _ 2 24 Try.underlying29 (.inr ⟨_, Try.underlying29⟩) HI.out HZ0.out HZ1.out HZ2.out rfl _ k _ (by rfl) ((HR.out.1.alloc _).drew) _ 1 [.int .i64 a, .string t] (by rfl) (Fed.heap (fed_two wr _ _ _ rfl rfl) rfl) ?_ ?_ ?_ ?_
          · simp only [maxLen]; omega
          · omega
          · assumption
          intro v58 w58 hown58 hg58 hb58))
      have HQ := Lib.hid (And.intro hown58 hb58)
      clear hown58 hg58 hb58
      go_wp2_with fail
      go_roundw
      case rel => exact ⟨k + 1, by omega, by go_num, Lib.hid ⟨by rw [HT1.out]; exact HQ.out.1, HQ.out.2⟩⟩
      case measure => simp [intOf]; omega
    · obtain rfl : k = l.length := by omega
      rw [HL.out] at HR
      go_wp2_with fail
      go_ret
      exact ⟨_, rfl, HR.out.1, HR.out.2⟩

theorem eqB_true {a b : ByteArray} (h : a = b) : (a.toList == b.toList) = true := by subst h; simp
theorem eqB_false {a b : ByteArray} (h : a ≠ b) : (a.toList == b.toList) = false := by
  rw [ByteArray.toList_eq, ByteArray.toList_eq]
  exact beq_eq_false_iff_ne.2 fun e => h (ByteArray.ext (Array.toList_inj.1 e))
theorem neq_items (a c : Int) (s t : ByteArray) (w : World) : (binOp .neq 63 (.agg #[.int .i64 a, .string s]) (.agg #[.int .i64 c, .string t])).run Try.prog w = .ok (.bool (!((a == c) && (s.toList == t.toList)))) w := by
  have hfo : Try.prog.fieldsOf 63 = #[{ name := "Type", type := 3, offset := 0, embedded := false, tag := "", pkgPath := "", byteOffset := 0 }, { name := "Value", type := 9, offset := 1, embedded := false, tag := "", pkgPath := "", byteOffset := 8 }] := by
    unfold Program.fieldsOf
    rw [Try.underlying63]
  rw [run_neq_struct, run_equalIn_struct w 9999 _ _ _ (by rw [hfo]; exact Try.underlying63) Try.stoodInHeld63, hfo]
  cases h1 : (a == c) <;> cases h2 : (s.toList == t.toList) <;> simp [Op.eqFields, go_sem, h1, h2]
theorem neq_is (a c : Int) (s t : ByteArray) (w : World) : (binOp .neq 63 (.agg #[.int .i64 a, .string s]) (.agg #[.int .i64 c, .string t])).run Try.prog w = .ok (.bool (!decide ((a, s) = (c, t)))) w := by
  rw [neq_items]
  congr 3
  by_cases h : (a, s) = (c, t)
  · obtain ⟨rfl, rfl⟩ := Prod.mk.inj h
    rw [eqB_true rfl]
    simp
  · rw [decide_eq_false h]
    by_cases h1 : a = c
    · have h2 : s ≠ t := by rintro rfl; exact h (by rw [h1])
      rw [eqB_false h2, Bool.and_false]
    · rw [beq_eq_false_iff_ne.2 h1, Bool.false_and]
/-- The two rows are the same: what is told of the first k. -/
theorem same_take {l m : List Item} (h : l.length = m.length) (k : Nat) (hk : k < l.length) (h0 : l.take k = m.take k) (h1 : l[k] = m[k]'(by omega)) : l.take (k + 1) = m.take (k + 1) := by
  rw [List.take_succ_eq_append_getElem hk, List.take_succ_eq_append_getElem (by omega), h0, h1]
set_option maxHeartbeats 4000000 in
theorem same_any (l m : List Item) (hl : l.length ≤ 100000) (hm : m.length ≤ 100000) (v u : Value) (w : World) (hv : RowI w v l) (hu : RowI w u m) :
    Calls Try.prog 22 #[v, u] w fun e w' => e = .returned (.bool (decide (l = m))) ∧ Below w.heap.size w w' := by
  obtain ⟨A, cap, rfl, hcap, hmax, hcells⟩ := hv
  obtain ⟨A', cap', rfl, hcap', hmax', hcells'⟩ := hu
  by_cases hlen : l.length = m.length
  · have HC := Lib.hid hcells
    have HC' := Lib.hid hcells'
    have HE := Lib.hid (fun (k : Nat) (hk : k < l.length) (h1 : l[k] ≠ m[k]'(by omega)) => show decide (l = m) = false from decide_eq_false (by rintro rfl; exact h1 rfl))
    have HT := Lib.hid (fun k hk h0 h1 => same_take hlen k hk h0 h1)
    have HF := Lib.hid (show l.take l.length = m.take l.length → decide (l = m) = true from fun h => decide_eq_true (by rw [List.take_length, hlen, List.take_length] at h; exact h))
    have HLE := Lib.hid hlen
    generalize hd : decide (l = m) = d at *
    have hlz : ((l.length : Int) == (m.length : Int)) = true := by rw [hlen]; simp
    have hl' : (l.length : Int) ≤ 100000 := by omega
    clear hcells hcells' hd
    go_enter Try.func22, Try.ntmps22
    go_wp2_with fail
    go_loopw [5] (fun i wr => ∃ k : Nat, k ≤ l.length ∧ i = .int .i64 k ∧ Hid (l.take k = m.take k) ∧ Below w.heap.size w wr)
      (fun i _ => l.length - (intOf i).toNat)
    case atStart => exact ⟨0, Nat.zero_le _, rfl, Lib.hid rfl, Below.refl _ _⟩
    case round =>
      obtain ⟨k, hk, rfl, HT0, hbr⟩ := hrel
      by_cases hlt : k < l.length
      · obtain ⟨b, off, rfl, hb, hc⟩ := HC.out (by omega)
        obtain ⟨b', off', rfl, hb', hc'⟩ := HC'.out (by omega)
        obtain ⟨hc0, hc1⟩ := hc k hlt
        obtain ⟨hc2, hc3⟩ := hc' k (by omega)
        have HT1 := Lib.hid (HT.out k hlt HT0.out)
        have HE1 := Lib.hid (HE.out k hlt)
        generalize hxe : l[k] = x at *
        generalize hye : m[k]'(by omega) = y at *
        obtain ⟨a, s⟩ := x
        obtain ⟨c, t⟩ := y
        dsimp only at hc0 hc1 hc2 hc3
        have hd0 := (hbr.cell (p := ⟨b, off + k * 2, none⟩) hb).trans hc0
        have hd1 := (hbr.cell (p := ⟨b, off + k * 2 + 1, none⟩) hb).trans hc1
        have hd2 := (hbr.cell (p := ⟨b', off' + k * 2, none⟩) hb').trans hc2
        have hd3 := (hbr.cell (p := ⟨b', off' + k * 2 + 1, none⟩) hb').trans hc3
        have q4 : (0 : Int) ≤ (k : Int) := by omega
        have q5 : (k : Int) < (l.length : Int) := by omega
        have q6 : (k : Int) < (m.length : Int) := by omega
        have HB := Lib.hid hbr
        clear hc hc' hxe hye hc0 hc1 hc2 hc3 hbr
        go_wp2_with fail
        have HK0 := Lib.hid (And.intro ((World.cell?_drew wr ⟨b, off + k * 2, none⟩).trans hd0) (And.intro ((World.cell?_drew wr ⟨b, off + k * 2 + 1, none⟩).trans hd1) (And.intro ((World.cell?_drew wr ⟨b', off' + k * 2, none⟩).trans hd2) (And.intro ((World.cell?_drew wr ⟨b', off' + k * 2 + 1, none⟩).trans hd3) HB.out.drew))))
        have hnq := fun W => neq_is a c s t W
        have HT2 := Lib.hid (fun h : decide ((a, s) = (c, t)) = true => HT1.out (of_decide_eq_true h))
        have HE2 := Lib.hid (fun h : decide ((a, s) = (c, t)) = false => HE1.out (of_decide_eq_false h))
        generalize decide ((a, s) = (c, t)) = q at *
        clear HT1 HE1
        go_region_held3 (fun w' => w'.cell? ⟨b, off + k * 2, none⟩ = some (.int .i64 a) ∧ w'.cell? ⟨b, off + k * 2 + 1, none⟩ = some (.string s) ∧ w'.cell? ⟨b', off' + k * 2, none⟩ = some (.int .i64 c) ∧ w'.cell? ⟨b', off' + k * 2 + 1, none⟩ = some (.string t) ∧ Below w.heap.size w w')
          (exact HK0.out) (fail)
        clear hnq HK0
        rename_i hHeld
        clear hHeld
        cases q with
        | true =>
          go_wp2_with fail
          go_roundw
          case rel => exact ⟨k + 1, by omega, by go_num, Lib.hid (HT2.out rfl), HB.out.drew⟩
          case measure => simp [intOf]; omega
        | false =>
          obtain rfl := HE2.out rfl
          go_wp2_with fail
          go_ret
          exact ⟨rfl, HB.out.drew⟩
      · obtain rfl : k = l.length := by omega
        obtain rfl := HF.out HT0.out
        go_wp2_with fail
        go_ret
        exact ⟨rfl, hbr⟩
  · have e : decide (l = m) = false := decide_eq_false (by rintro rfl; exact hlen rfl)
    rw [e]
    have hlz : ((l.length : Int) == (m.length : Int)) = false := beq_eq_false_iff_ne.2 (by omega)
    clear hcells hcells' e
    go_enter Try.func22, Try.ntmps22
    go_wp2_with fail
    go_ret
    exact ⟨rfl, Below.refl _ _⟩

def smallB (l : List Item) : Bool := decide (l.length ≤ 60) && l.all fun x => decide (x.2.size ≤ 2000)
theorem small_not {l : List Item} {k : Nat} (h : k < l.length) (hx : 2000 < l[k].2.size) : smallB l = false := by
  unfold smallB
  rw [Bool.and_eq_false_iff]
  right
  rw [List.all_eq_false]
  exact ⟨l[k], List.getElem_mem h, by simp; omega⟩
theorem small_is {l : List Item} (h : l.length ≤ 60) (hx : ∀ j (hj : j < l.length), l[j].2.size ≤ 2000) : smallB l = true := by
  unfold smallB
  rw [Bool.and_eq_true, decide_eq_true_eq, List.all_eq_true]
  refine ⟨h, fun x hm => ?_⟩
  obtain ⟨j, hj, rfl⟩ := List.getElem_of_mem hm
  exact decide_eq_true (hx j hj)
theorem small_gives {l : List Item} (h : smallB l = true) : l.length ≤ 60 ∧ ∀ x ∈ l, x.2.size ≤ 2000 := by
  unfold smallB at h
  rw [Bool.and_eq_true, decide_eq_true_eq, List.all_eq_true] at h
  exact ⟨h.1, fun x hx => of_decide_eq_true (h.2 x hx)⟩
set_option maxHeartbeats 4000000 in
theorem small_any (l : List Item) (hm : l.length ≤ maxLen) (v : Value) (w : World) (hv : RowI w v l) :
    Calls Try.prog 10 #[v] w fun e w' => e = .returned (.bool (smallB l)) ∧ w' = w := by
  obtain ⟨A, cap, rfl, hcap, hmax, hcells⟩ := hv
  by_cases hlen : 60 < l.length
  · have e : smallB l = false := by unfold smallB; rw [Bool.and_eq_false_iff]; left; rw [decide_eq_false_iff_not]; omega
    rw [e]
    have hl : (60 : Int) < (l.length : Int) := by omega
    clear hcells e hlen
    go_enter Try.func10, Try.ntmps10
    go_wp2_with fail
    go_ret
    exact ⟨rfl, rfl⟩
  · have hl : (l.length : Int) ≤ 60 := by omega
    have HC := Lib.hid hcells
    have HN := Lib.hid (fun k (h : k < l.length) hx => small_not h hx)
    have HI := Lib.hid (fun hx => small_is (l := l) (by omega) hx)
    generalize smallB l = d at *
    clear hcells hlen
    go_enter Try.func10, Try.ntmps10
    go_wp2_with fail
    go_loopw [3] (fun i wr => ∃ k : Nat, k ≤ l.length ∧ i = .int .i64 k ∧ Hid (∀ j (hj : j < l.length), j < k → l[j].2.size ≤ 2000) ∧ w = wr)
      (fun i _ => l.length - (intOf i).toNat)
    case atStart => exact ⟨0, Nat.zero_le _, rfl, Lib.hid (fun j hj h => absurd h (Nat.not_lt_zero _)), rfl⟩
    case round =>
      obtain ⟨k, hk, rfl, HF, rfl⟩ := hrel
      by_cases hlt : k < l.length
      · obtain ⟨b, off, rfl, hb, hc⟩ := HC.out (by omega)
        obtain ⟨hc0, hc1⟩ := hc k hlt
        have HN1 := Lib.hid (HN.out k hlt)
        have HS := Lib.hid (show l[k].2.size ≤ 2000 → ∀ j (hj : j < l.length), j < k + 1 → l[j].2.size ≤ 2000 from fun h j hj h2 => by
          by_cases e : j = k
          · subst e; exact h
          · exact HF.out j hj (by omega))
        generalize l[k] = x at *
        obtain ⟨a, t⟩ := x
        dsimp only at hc0 hc1
        dsimp only at HS HN1
        clear hc
        by_cases hlong : 2000 < t.size
        · have h2 : (2000 : Int) < (t.size : Int) := by omega
          obtain rfl := HN1.out hlong
          clear HN1 hlong
          go_wp2_with fail
          go_ret
          exact ⟨rfl, rfl⟩
        · have h2 : (t.size : Int) ≤ 2000 := by omega
          have HS2 := Lib.hid (HS.out (by omega))
          clear HN1 HS hlong
          go_wp2_with fail
          go_roundw
          case rel => exact ⟨k + 1, by omega, by go_num, HS2, trivial⟩
          case measure => simp [intOf]; omega
      · obtain rfl : k = l.length := by omega
        obtain rfl := HI.out fun j hj => HF.out j hj hj
        go_wp2_with fail
        go_ret
        exact ⟨rfl, rfl⟩
def largestB (l : List Item) : Nat := l.foldl (fun n x => if n < x.2.size then x.2.size else n) 0
theorem largest_take (l : List Item) (k : Nat) (h : k < l.length) : largestB (l.take (k + 1)) = if largestB (l.take k) < l[k].2.size then l[k].2.size else largestB (l.take k) := by
  unfold largestB
  rw [List.take_succ_eq_append_getElem h, List.foldl_append]
  rfl
theorem largest_long (l : List Item) (h : largestB l ≤ 1400) : anyLong l = false := by
  have key : ∀ (l : List Item) (n : Nat), n ≤ l.foldl (fun n x => if n < x.2.size then x.2.size else n) n ∧ ∀ x ∈ l, x.2.size ≤ l.foldl (fun n x => if n < x.2.size then x.2.size else n) n := by
    intro l
    induction l with
    | nil => intro n; exact ⟨Nat.le_refl _, by simp⟩
    | cons y l ih =>
      intro n
      rw [List.foldl_cons]
      by_cases hy : n < y.2.size
      · rw [if_pos hy]
        obtain ⟨i1, i2⟩ := ih y.2.size
        refine ⟨by omega, fun x hx => ?_⟩
        rcases List.mem_cons.1 hx with rfl | hx
        · exact i1
        · exact i2 x hx
      · rw [if_neg hy]
        obtain ⟨i1, i2⟩ := ih n
        refine ⟨i1, fun x hx => ?_⟩
        rcases List.mem_cons.1 hx with rfl | hx
        · omega
        · exact i2 x hx
  unfold anyLong
  rw [List.any_eq_false]
  intro x hx
  have := (key l 0).2 x hx
  unfold largestB at h
  simp only [decide_eq_true_eq]
  omega
set_option maxHeartbeats 4000000 in
theorem largest_any (l : List Item) (hl : l.length ≤ 100000) (v : Value) (w : World) (hv : RowI w v l) :
    Calls Try.prog 23 #[v] w fun e w' => e = .returned (.int .i64 (largestB l : Nat)) ∧ w' = w := by
  obtain ⟨A, cap, rfl, hcap, hmax, hcells⟩ := hv
  have HC := Lib.hid hcells
  have HT := Lib.hid (fun k (h : k < l.length) => largest_take l k h)
  have HL := Lib.hid (show largestB (l.take l.length) = largestB l by rw [List.take_length])
  have HL0 := Lib.hid (show largestB (l.take 0) = 0 from rfl)
  have hl' : (l.length : Int) ≤ 100000 := by omega
  clear hcells
  go_enter Try.func23, Try.ntmps23
  go_wp2_with fail
  go_loopw [3, 4] (fun n i wr => ∃ k : Nat, k ≤ l.length ∧ i = .int .i64 k ∧ n = .int .i64 (largestB (l.take k) : Nat) ∧ w = wr)
    (fun _ i _ => l.length - (intOf i).toNat)
  case atStart => exact ⟨0, Nat.zero_le _, rfl, by rw [HL0.out]; rfl, rfl⟩
  case round =>
    obtain ⟨k, hk, rfl, rfl, rfl⟩ := hrel
    by_cases hlt : k < l.length
    · obtain ⟨b, off, rfl, hb, hc⟩ := HC.out (by omega)
      obtain ⟨hc0, hc1⟩ := hc k hlt
      have HT1 := Lib.hid (HT.out k hlt)
      generalize l[k] = x at *
      obtain ⟨a, t⟩ := x
      dsimp only at hc0 hc1 HT1
      generalize largestB (l.take k) = n at *
      have HM := Lib.hid (show (max (n : Int) (t.size : Int)) = ((largestB (l.take (k + 1)) : Nat) : Int) by
        rw [HT1.out]
        split <;> omega)
      clear hc
      go_wp2_with fail
      go_roundw
      case rel => exact ⟨k + 1, by omega, by go_num, by rw [← HM.out], trivial⟩
      case measure => simp [intOf]; omega
    · obtain rfl : k = l.length := by omega
      rw [HL.out]
      go_wp2_with fail
      go_ret
      exact ⟨rfl, rfl⟩
end Go.Proofs.Ytkganhpfagnmjaa
