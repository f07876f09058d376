/-
  Rows of items in memory: a slice that reads as a list of items; how many bytes they have; contracts.
-/
import Derived.Test.YtfdnphkdpmlbnaaOne
import Derived.Laws.OwnMore
import Derived.OwnWalk
namespace Go.Proofs.Ytfdnphkdpmlbnaa
open Go.RowKit
set_option linter.unusedVariables false

/-- The cells of items. -/
def flatI (l : List Item) : List Value := l.flatMap fun x => [.int .i64 x.1, .string x.2]
theorem flatI_length (l : List Item) : (flatI l).length = l.length * 2 := by
  induction l with
  | nil => rfl
  | cons p ps ih => simp only [flatI, List.flatMap_cons, List.length_append, List.length_cons, List.length_nil] at ih ⊢; omega
theorem flatI_append (l m : List Item) : flatI (l ++ m) = flatI l ++ flatI m := by simp [flatI]
theorem flatI_one (l : List Item) : ∀ u ∈ flatI l, u.oneCell' = true := by
  intro u hu
  obtain ⟨x, _, hx⟩ := List.mem_flatMap.1 hu
  simp only [List.mem_cons, List.not_mem_nil, or_false] at hx
  rcases hx with rfl | rfl <;> rfl
theorem flatI_at (l : List Item) (i : Nat) (h : i < l.length) : (flatI l)[i * 2]? = some (.int .i64 l[i].1) ∧ (flatI l)[i * 2 + 1]? = some (.string l[i].2) := by
  induction l generalizing i with
  | nil => simp at h
  | cons p ps ih =>
    cases i with
    | zero => simp [flatI]
    | succ i =>
      have := ih i (by simpa using h)
      simp only [flatI, List.flatMap_cons] at this ⊢
      rw [show (i + 1) * 2 = i * 2 + 2 by omega]
      simpa using this
/-- The slice v reads as these items; nil and empty ones let in. -/
def RowI (w : World) (v : Value) (l : List Item) : Prop :=
  ∃ (A : Option Addr) (cap : Nat), v = .slice A l.length cap ∧ l.length ≤ cap ∧ cap ≤ maxLen ∧ (0 < l.length → ∃ b off, A = some ⟨b, off, none⟩ ∧ b < w.heap.size ∧ ∀ j (h : j < l.length), w.cell? ⟨b, off + j * 2, none⟩ = some (.int .i64 l[j].1) ∧ w.cell? ⟨b, off + j * 2 + 1, none⟩ = some (.string l[j].2))
theorem RowI.below {w w' : World} {v : Value} {l : List Item} (h : RowI w v l) (hb : Below w.heap.size w w') : RowI w' v l := by
  obtain ⟨A, cap, rfl, hc, hm, h⟩ := h
  refine ⟨A, cap, rfl, hc, hm, fun hl => ?_⟩
  obtain ⟨b, off, rfl, hlt, hcell⟩ := h hl
  exact ⟨b, off, rfl, Nat.lt_of_lt_of_le hlt hb.size, fun j hj => ⟨(hb.cell (p := ⟨b, off + j * 2, none⟩) hlt).trans (hcell j hj).1, (hb.cell (p := ⟨b, off + j * 2 + 1, none⟩) hlt).trans (hcell j hj).2⟩⟩
theorem RowI.nil (w : World) : RowI w (.slice none 0 0) [] := ⟨none, 0, rfl, Nat.le_refl _, Nat.zero_le _, fun h => absurd h (by simp)⟩
/-- What the call owns reads as a list. -/
theorem rowI_of_own {w : World} {base n : Nat} {e : TypeId} {v : Value} {l : List Item} (h : OwnG w base e 2 v n (flatI l)) : RowI w v l := by
  have hl : l.length = n := by have := h.1; rw [flatI_length] at this; omega
  subst hl
  rcases h.2 with ⟨rfl, h0⟩ | ⟨g, cap, cur, fz, rfl, hb, hh, h1, h2, _⟩
  · exact ⟨none, 0, by rw [h0], by omega, Nat.zero_le _, fun hp => by omega⟩
  · refine ⟨_, cap, rfl, h1, h2, fun _ => ⟨g, 0, rfl, (Array.getElem?_eq_some_iff.1 hh).1, fun j hj => ?_⟩⟩
    obtain ⟨e1, e2⟩ := flatI_at l j hj
    rw [Nat.zero_add]
    exact ⟨h.cells _ _ e1, h.cells _ _ e2⟩
theorem rowL_take (l : List Item) (k : Nat) (h : k < l.length) : rowL (l.take (k + 1)) = rowL (l.take k) ++ bytesL l[k] := by
  rw [List.take_succ_eq_append_getElem h, rowL_snoc]
theorem rowL_size_take (l : List Item) (k : Nat) (h : k < l.length) : (rowL (l.take (k + 1))).length = (rowL (l.take k)).length + sizeV l[k].2.size := by
  rw [rowL_take l k h, List.length_append, bytesL_length]
  rfl
theorem rowL_le (l : List Item) (m : Nat) (h : ∀ x ∈ l, x.2.size ≤ m) : (rowL l).length ≤ l.length * (m + 7) := by
  induction l with
  | nil => exact Nat.zero_le _
  | cons x l ih =>
    have h1 := h x (by simp)
    have h2 := ih fun y hy => h y (by simp [hy])
    have h3 := sizeV_le x.2.size
    rw [rowL_cons, List.length_append, bytesL_length, List.length_cons, Nat.add_mul, Nat.one_mul]
    unfold sizeV at h3
    omega

set_option maxHeartbeats 1000000 in
theorem sizeOf_any (l : List Item) (hl : l.length ≤ 100000) (hs : ∀ x ∈ l, x.2.size ≤ 1000000) (v : Value) (w : World) (hv : RowI w v l) :
    Calls Try.prog 58 #[v] w fun e w' => e = .returned (.int .i64 ((rowL l).length : Nat)) ∧ Below w.heap.size w w' := by
  obtain ⟨A, cap, rfl, hcap, hmax, hcells⟩ := hv
  have HC := Lib.hid hcells
  have HZ := Lib.hid (fun k (h : k < l.length) => rowL_size_take l k h)
  have HS := Lib.hid hs
  have HL := Lib.hid (show rowL (l.take l.length) = rowL l by rw [List.take_length])
  have HZ0 := Lib.hid (show (rowL (l.take 0)).length = 0 from rfl)
  have HZL := Lib.hid (fun k => show (rowL (l.take k)).length ≤ 100000 * 1000007 from by
    have h1 := rowL_le (l.take k) 1000000 fun x hx => hs x (List.mem_of_mem_take hx)
    have h2 : (l.take k).length ≤ 100000 := by rw [List.length_take]; omega
    exact Nat.le_trans h1 (Nat.mul_le_mul_right _ h2))
  clear hcells hs
  have hl' : (l.length : Int) ≤ 100000 := by omega
  go_enter Try.func58, Try.ntmps58
  go_wp2_with fail
  go_loopw [3, 8] (fun s i wr => ∃ k : Nat, k ≤ l.length ∧ i = .int .i64 k ∧ s = .int .i64 ((rowL (l.take k)).length : Nat) ∧ Below w.heap.size w wr)
    (fun _ i _ => l.length - (intOf i).toNat)
  case atStart => exact ⟨0, Nat.zero_le _, rfl, by rw [HZ0.out]; rfl, Below.refl _ _⟩
  case round =>
    obtain ⟨k, hk, rfl, rfl, hbr⟩ := hrel
    by_cases hlt : k < l.length
    · obtain ⟨b, off, rfl, hb, hc⟩ := HC.out (by omega)
      obtain ⟨hc0, hc1⟩ := hc k hlt
      have hx := HS.out l[k] (List.getElem_mem hlt)
      have HT := Lib.hid (HZ.out k hlt)
      generalize hxe : l[k] = x at *
      obtain ⟨a, t⟩ := x
      dsimp only at hc0 hc1 hx
      have hd0 := (hbr.cell (p := ⟨b, off + k * 2, none⟩) hb).trans hc0
      have hd1 := (hbr.cell (p := ⟨b, off + k * 2 + 1, none⟩) hb).trans hc1
      have HB := Lib.hid hbr
      have hbs := hbr.size
      have hblt := Nat.lt_of_lt_of_le hb hbr.size
      have HSZ := Lib.hid (fun W => size_any a t (by omega) W)
      have hsl := sizeV_le t.size
      have hzl := HZL.out k
      generalize sizeV t.size = z at *
      generalize (rowL (l.take k)).length = q at *
      clear hc hc0 hc1 hxe hbr
      go_wp2_with (go_at_call 79; ((with_reducible refine (HSZ.out _).mono ?_); rintro e w1 ⟨rfl, hb1⟩))
      go_roundw
      case rel => exact ⟨k + 1, by omega, by go_num, by rw [HT.out]; go_num, (HB.out.alloc hbs _).trans (hb1.mono (by simp; omega))⟩
      case measure => simp [intOf]; omega
    · obtain rfl : k = l.length := by omega
      go_wp2_with fail
      go_ret
      exact ⟨by rw [← HL.out]; rfl, hbr⟩

theorem wrong_in (l : List Item) (k : Nat) (h : k < l.length) (hp : (fun x => !isType x.1 : Item → Bool) l[k] = true) : anyWrong l = true := by
  unfold anyWrong
  rw [List.any_eq_true]
  exact ⟨l[k], List.getElem_mem h, hp⟩
theorem wrong_not (l : List Item) (k : Nat) (h : k < l.length) (h0 : anyWrong (l.take k) = false) (hp : (fun x => !isType x.1 : Item → Bool) l[k] = false) : anyWrong (l.take (k + 1)) = false := by
  unfold anyWrong at *
  rw [List.take_succ_eq_append_getElem h, List.any_append, h0, Bool.false_or]
  simp only [List.any_cons, List.any_nil, Bool.or_false]
  exact hp
set_option maxHeartbeats 1000000 in
theorem index_wrong (l : List Item) (hl : l.length ≤ 100000) (v : Value) (w : World) (hv : RowI w v l) :
    Calls Try.prog 77 #[v, .func (.func 56) #[] #[]] w fun e w' => ∃ i : Int, e = .returned (.int .i64 i) ∧ ((0 ≤ i ∧ anyWrong l = true) ∨ (i = -1 ∧ anyWrong l = false)) ∧ Below w.heap.size w w' := by
  obtain ⟨A, cap, rfl, hcap, hmax, hcells⟩ := hv
  have HC := Lib.hid hcells
  have HI := Lib.hid (fun k (h : k < l.length) hp => wrong_in l k h hp)
  have HN := Lib.hid (fun k (h : k < l.length) h0 hp => wrong_not l k h h0 hp)
  have HL := Lib.hid (show anyWrong (l.take l.length) = anyWrong l by rw [List.take_length])
  clear hcells
  have hl' : (l.length : Int) ≤ 100000 := by omega
  go_enter Try.func77, Try.ntmps77
  go_wp2_with fail
  go_loopw [8] (fun i wr => ∃ k : Nat, k ≤ l.length ∧ i = .int .i64 k ∧ Hid (anyWrong (l.take k) = false) ∧ Below w.heap.size w wr)
    (fun i _ => l.length - (intOf i).toNat)
  case atStart => exact ⟨0, Nat.zero_le _, rfl, Lib.hid rfl, Below.refl _ _⟩
  case round =>
    obtain ⟨k, hk, rfl, HF, hbr⟩ := hrel
    by_cases hlt : k < l.length
    · obtain ⟨b, off, rfl, hb, hc⟩ := HC.out (by omega)
      obtain ⟨hc0, hc1⟩ := hc k hlt
      have HT := Lib.hid (HI.out k hlt)
      have HU := Lib.hid (HN.out k hlt HF.out)
      generalize hxe : l[k] = x at *
      obtain ⟨a, t⟩ := x
      dsimp only at hc0 hc1 HT HU
      have hd0 := (hbr.cell (p := ⟨b, off + k * 2, none⟩) hb).trans hc0
      have hd1 := (hbr.cell (p := ⟨b, off + k * 2 + 1, none⟩) hb).trans hc1
      have HB := Lib.hid hbr
      have hbs := hbr.size
      have hblt := Nat.lt_of_lt_of_le hb hbr.size
      have HSZ := Lib.hid (fun W => wrongType_any a t W)
      generalize hq : (!isType a) = q at *
      clear hc hc0 hc1 hxe hbr hq
      cases q with
      | true =>
        go_wp2_with (go_at_call 56; ((with_reducible refine (HSZ.out _).mono ?_); rintro e w1 ⟨rfl, hb1⟩))
        go_ret
        exact ⟨(k : Int), rfl, .inl ⟨by omega, HT.out trivial⟩, HB.out.trans (hb1.mono hbs)⟩
      | false =>
        go_wp2_with (go_at_call 56; ((with_reducible refine (HSZ.out _).mono ?_); rintro e w1 ⟨rfl, hb1⟩))
        go_roundw
        case rel => exact ⟨k + 1, by omega, by go_num, Lib.hid (HU.out trivial), HB.out.trans (hb1.mono hbs)⟩
        case measure => simp [intOf]; omega
    · obtain rfl : k = l.length := by omega
      go_wp2_with fail
      go_ret
      exact ⟨-1, rfl, .inr ⟨rfl, by rw [← HL.out]; exact HF.out⟩, hbr⟩
set_option maxHeartbeats 1000000 in
theorem contains_wrong (l : List Item) (hl : l.length ≤ 100000) (v : Value) (w : World) (hv : RowI w v l) :
    Calls Try.prog 55 #[v, .func (.func 56) #[] #[]] w fun e w' => e = .returned (.bool (anyWrong l)) ∧ Below w.heap.size w w' := by
  have H := Lib.hid (index_wrong l hl v w hv)
  generalize anyWrong l = q at *
  clear hv
  go_enter Try.func55, Try.ntmps55
  go_wp2_with fail
  refine H.out.mono ?_
  rintro e w1 ⟨i, rfl, hi, hb1⟩
  rcases hi with ⟨hi, rfl⟩ | ⟨rfl, rfl⟩
  all_goals
    go_wp2_with fail
    go_ret
    exact ⟨rfl, hb1⟩

theorem long_in (l : List Item) (k : Nat) (h : k < l.length) (hp : (fun x => decide (1400 < x.2.size) : Item → Bool) l[k] = true) : anyLong l = true := by
  unfold anyLong
  rw [List.any_eq_true]
  exact ⟨l[k], List.getElem_mem h, hp⟩
theorem long_not (l : List Item) (k : Nat) (h : k < l.length) (h0 : anyLong (l.take k) = false) (hp : (fun x => decide (1400 < x.2.size) : Item → Bool) l[k] = false) : anyLong (l.take (k + 1)) = false := by
  unfold anyLong at *
  rw [List.take_succ_eq_append_getElem h, List.any_append, h0, Bool.false_or]
  simp only [List.any_cons, List.any_nil, Bool.or_false]
  exact hp
set_option maxHeartbeats 1000000 in
theorem index_long (l : List Item) (hl : l.length ≤ 100000) (v : Value) (w : World) (hv : RowI w v l) :
    Calls Try.prog 77 #[v, .func (.func 57) #[] #[]] w fun e w' => ∃ i : Int, e = .returned (.int .i64 i) ∧ ((0 ≤ i ∧ anyLong l = true) ∨ (i = -1 ∧ anyLong l = false)) ∧ Below w.heap.size w w' := by
  obtain ⟨A, cap, rfl, hcap, hmax, hcells⟩ := hv
  have HC := Lib.hid hcells
  have HI := Lib.hid (fun k (h : k < l.length) hp => long_in l k h hp)
  have HN := Lib.hid (fun k (h : k < l.length) h0 hp => long_not l k h h0 hp)
  have HL := Lib.hid (show anyLong (l.take l.length) = anyLong l by rw [List.take_length])
  clear hcells
  have hl' : (l.length : Int) ≤ 100000 := by omega
  go_enter Try.func77, Try.ntmps77
  go_wp2_with fail
  go_loopw [8] (fun i wr => ∃ k : Nat, k ≤ l.length ∧ i = .int .i64 k ∧ Hid (anyLong (l.take k) = false) ∧ Below w.heap.size w wr)
    (fun i _ => l.length - (intOf i).toNat)
  case atStart => exact ⟨0, Nat.zero_le _, rfl, Lib.hid rfl, Below.refl _ _⟩
  case round =>
    obtain ⟨k, hk, rfl, HF, hbr⟩ := hrel
    by_cases hlt : k < l.length
    · obtain ⟨b, off, rfl, hb, hc⟩ := HC.out (by omega)
      obtain ⟨hc0, hc1⟩ := hc k hlt
      have HT := Lib.hid (HI.out k hlt)
      have HU := Lib.hid (HN.out k hlt HF.out)
      generalize hxe : l[k] = x at *
      obtain ⟨a, t⟩ := x
      dsimp only at hc0 hc1 HT HU
      have hd0 := (hbr.cell (p := ⟨b, off + k * 2, none⟩) hb).trans hc0
      have hd1 := (hbr.cell (p := ⟨b, off + k * 2 + 1, none⟩) hb).trans hc1
      have HB := Lib.hid hbr
      have hbs := hbr.size
      have hblt := Nat.lt_of_lt_of_le hb hbr.size
      have HSZ := Lib.hid (fun W => longValue_any a t W)
      generalize hq : (decide (1400 < t.size)) = q at *
      clear hc hc0 hc1 hxe hbr hq
      cases q with
      | true =>
        go_wp2_with (go_at_call 57; ((with_reducible refine (HSZ.out _).mono ?_); rintro e w1 ⟨rfl, hb1⟩))
        go_ret
        exact ⟨(k : Int), rfl, .inl ⟨by omega, HT.out trivial⟩, HB.out.trans (hb1.mono hbs)⟩
      | false =>
        go_wp2_with (go_at_call 57; ((with_reducible refine (HSZ.out _).mono ?_); rintro e w1 ⟨rfl, hb1⟩))
        go_roundw
        case rel => exact ⟨k + 1, by omega, by go_num, Lib.hid (HU.out trivial), HB.out.trans (hb1.mono hbs)⟩
        case measure => simp [intOf]; omega
    · obtain rfl : k = l.length := by omega
      go_wp2_with fail
      go_ret
      exact ⟨-1, rfl, .inr ⟨rfl, by rw [← HL.out]; exact HF.out⟩, hbr⟩
set_option maxHeartbeats 1000000 in
theorem contains_long (l : List Item) (hl : l.length ≤ 100000) (v : Value) (w : World) (hv : RowI w v l) :
    Calls Try.prog 55 #[v, .func (.func 57) #[] #[]] w fun e w' => e = .returned (.bool (anyLong l)) ∧ Below w.heap.size w w' := by
  have H := Lib.hid (index_long l hl v w hv)
  generalize anyLong l = q at *
  clear hv
  go_enter Try.func55, Try.ntmps55
  go_wp2_with fail
  refine H.out.mono ?_
  rintro e w1 ⟨i, rfl, hi, hb1⟩
  rcases hi with ⟨hi, rfl⟩ | ⟨rfl, rfl⟩
  all_goals
    go_wp2_with fail
    go_ret
    exact ⟨rfl, hb1⟩
end Go.Proofs.Ytfdnphkdpmlbnaa
