/-
  Package tlv: Build: its contract, whatever items.
-/
import Derived.Test.YtfdnphkdpmlbnaaRow
import Derived.Test.YtfdnphkdpmlbnaaWords
namespace Go.Proofs.Ytfdnphkdpmlbnaa
open Go.RowKit
set_option linter.unusedVariables false

theorem builder_later {T e : TypeId} {B b : Nat} {bs : List Value} {w w' : World} (h : Lib.IsBuilder T e B b bs w) (hb : Below w.heap.size w w') : Lib.IsBuilder T e B b bs w' := by
  have step : ∀ p, Lib.BuilderAt T e B b p bs w → Lib.BuilderAt T e B b p bs w' := by
    intro p hp
    have hlt := hp.lt
    obtain ⟨hB, v, hc, hown, hne⟩ := hp
    exact ⟨hB, v, (hb.block b hlt).trans hc, hown.kept (row := none) ⟨hb.os, hb.tape, hb.output, hb.size, fun k hk _ => hb.block k hk⟩ (own_ne_none v), hne⟩
  exact h.imp (step _) (step _)
theorem wrong_none {l : List Item} (h : anyWrong l = false) (j : Nat) (hj : j < l.length) : ∃ k : Nat, k < 65536 ∧ l[j].1 = (k : Int) := by
  unfold anyWrong at h
  rw [List.any_eq_false] at h
  have := h l[j] (List.getElem_mem hj)
  have h2 : isType l[j].1 = true := by simpa using this
  have h3 := of_decide_eq_true h2
  exact ⟨l[j].1.toNat, by omega, by omega⟩
theorem long_none {l : List Item} (h : anyLong l = false) (j : Nat) (hj : j < l.length) : l[j].2.size ≤ 1400 := by
  unfold anyLong at h
  rw [List.any_eq_false] at h
  have := h l[j] (List.getElem_mem hj)
  simp only [decide_eq_true_eq] at this
  omega
theorem byteCells_add (l m : List UInt8) : Lib.byteCells l ++ Lib.strCells ⟨m.toArray⟩ = Lib.byteCells (l ++ m) := by simp [Lib.byteCells, Lib.strCells]

set_option maxHeartbeats 2000000 in
theorem build_any (l : List Item) (hl : l.length ≤ 100000) (hs : ∀ x ∈ l, x.2.size ≤ 1000000) (v : Value) (w : World) (hv : RowI w v l) :
    Calls Try.prog 46 #[v] w fun e w' => e = .returned (.tuple #[.string (buildB l).1, .int .i64 (buildB l).2]) ∧ Below w.heap.size w w' := by
  have HV := Lib.hid hv
  have HB := Lib.hid (Below.refl w.heap.size w)
  have H1 := Lib.hid (fun W h => contains_wrong l hl v W h)
  have H2 := Lib.hid (fun W h => contains_long l hl v W h)
  have H3 := Lib.hid (fun W h => sizeOf_any l hl hs v W h)
  have A1 : Hid (∀ w1, Below w.heap.size w w1 → RowI w1 v l) := Lib.hid (fun w1 h => hv.below h)
  by_cases hw : anyWrong l = true
  · have e1 : buildB l = (⟨#[]⟩, 1) := by unfold buildB; rw [if_pos hw]
    rw [e1]
    rw [hw] at H1
    clear hv hw e1
    go_enter Try.func46, Try.ntmps46
    go_wp2_with (go_at_call 55; ((with_reducible refine (H1.out _ (A1.out _ HB.out)).mono ?_); rintro e w1 ⟨rfl, hb1⟩))
    go_ret2
    exact ⟨rfl, hb1⟩
  have hw' : anyWrong l = false := by simpa using hw
  by_cases hg : anyLong l = true
  · have e1 : buildB l = (⟨#[]⟩, 4) := by unfold buildB; rw [if_neg hw, if_pos hg]
    rw [e1]
    rw [hw'] at H1
    rw [hg] at H2
    clear hv hw hw' hg e1
    go_enter Try.func46, Try.ntmps46
    go_wp2_with (first
      | (go_at_call 55; ((with_reducible refine (H1.out _ (A1.out _ HB.out)).mono ?_); rintro e w1 ⟨rfl, hb1⟩); replace HB := Lib.hid (HB.out.trans (hb1.mono HB.out.size)); clear hb1)
      | (go_at_call 55; ((with_reducible refine (H2.out _ (A1.out _ HB.out)).mono ?_); rintro e w1 ⟨rfl, hb1⟩); replace HB := Lib.hid (HB.out.trans (hb1.mono HB.out.size)); clear hb1))
    go_ret2
    exact ⟨rfl, HB.out⟩
  have hg' : anyLong l = false := by simpa using hg
  rw [hw'] at H1
  rw [hg'] at H2
  by_cases hz : 4000 < (rowL l).length
  · have e1 : buildB l = (⟨#[]⟩, 4) := by unfold buildB; rw [if_neg hw, if_neg hg, if_pos hz]
    rw [e1]
    have hz' : (4000 : Int) < ((rowL l).length : Int) := by omega
    generalize (rowL l).length = z at *
    clear hv hw hw' hg hg' e1 hz
    go_enter Try.func46, Try.ntmps46
    go_wp2_with (first
      | (go_at_call 55; ((with_reducible refine (H1.out _ (A1.out _ HB.out)).mono ?_); rintro e w1 ⟨rfl, hb1⟩); replace HB := Lib.hid (HB.out.trans (hb1.mono HB.out.size)); clear hb1)
      | (go_at_call 55; ((with_reducible refine (H2.out _ (A1.out _ HB.out)).mono ?_); rintro e w1 ⟨rfl, hb1⟩); replace HB := Lib.hid (HB.out.trans (hb1.mono HB.out.size)); clear hb1)
      | (go_at_call 58; ((with_reducible refine (H3.out _ (A1.out _ HB.out)).mono ?_); rintro e w1 ⟨rfl, hb1⟩); replace HB := Lib.hid (HB.out.trans (hb1.mono HB.out.size)); clear hb1))
    go_ret2
    exact ⟨rfl, HB.out⟩
  have e1 : buildB l = (⟨(rowL l).toArray⟩, 0) := by unfold buildB; rw [if_neg hw, if_neg hg, if_neg hz]
  rw [e1]
  have hz' : ((rowL l).length : Int) ≤ 4000 := by omega
  have HW := Lib.hid (fun j hj => wrong_none hw' j hj)
  have HG := Lib.hid (fun j hj => long_none hg' j hj)
  have HT := Lib.hid (fun k (h : k < l.length) => rowL_take l k h)
  have HZL := Lib.hid (fun k => show (rowL (l.take k)).length ≤ 100000 * 1000007 from by
    have h1 := rowL_le (l.take k) 1000000 fun x hx => hs x (List.mem_of_mem_take hx)
    have h2 : (l.take k).length ≤ 100000 := by rw [List.length_take]; omega
    exact Nat.le_trans h1 (Nat.mul_le_mul_right _ h2))
  have HL := Lib.hid (show rowL (l.take l.length) = rowL l by rw [List.take_length])
  have HL0 := Lib.hid (show rowL (l.take 0) = [] from rfl)
  generalize hzz : (rowL l).length = z at *
  obtain ⟨A, cap, rfl, hcap, hmax, hcells⟩ := hv
  have HC := Lib.hid hcells
  clear hcells hw hw' hg hg' e1 hz hs hzz
  have hl' : (l.length : Int) ≤ 100000 := by omega
  go_enter Try.func46, Try.ntmps46
  go_wp2_with (first
    | (go_at_call 55; ((with_reducible refine (H1.out _ (A1.out _ HB.out)).mono ?_); rintro e w1 ⟨rfl, hb1⟩); replace HB := Lib.hid (HB.out.trans (hb1.mono HB.out.size)); clear hb1)
    | (go_at_call 55; ((with_reducible refine (H2.out _ (A1.out _ HB.out)).mono ?_); rintro e w1 ⟨rfl, hb1⟩); replace HB := Lib.hid (HB.out.trans (hb1.mono HB.out.size)); clear hb1)
    | (go_at_call 58; ((with_reducible refine (H3.out _ (A1.out _ HB.out)).mono ?_); rintro e w3 ⟨rfl, hb1⟩); replace HB := Lib.hid (HB.out.trans (hb1.mono HB.out.size)); clear hb1))
  clear H1 H2 H3 A1
  have HI0 := Lib.hid (Lib.fresh_isBuilder 85 5 w3)
  have HB0 := Lib.hid ((Below.refl w3.heap.size w3).alloc (Nat.le_refl _) (.cells #[.pointer none, .slice none 0 0] 85))
  go_loopw [18] (fun i wr => ∃ k : Nat, k ≤ l.length ∧ i = .int .i64 k ∧ Hid (Lib.IsBuilder 85 5 w3.heap.size w3.heap.size (Lib.byteCells (rowL (l.take k))) wr) ∧ Hid (Below w3.heap.size w3 wr))
    (fun i _ => l.length - (intOf i).toNat)
  case atStart => exact ⟨0, Nat.zero_le _, rfl, by rw [HL0.out]; exact HI0, HB0⟩
  case round =>
    obtain ⟨k, hk, rfl, HI, HR⟩ := hrel
    by_cases hlt : k < l.length
    · obtain ⟨b, off, rfl, hb, hc⟩ := HC.out (by omega)
      obtain ⟨hc0, hc1⟩ := hc k hlt
      obtain ⟨n, hn, hn2⟩ := HW.out k hlt
      have hx := HG.out k hlt
      have HT1 := Lib.hid (HT.out k hlt)
      generalize hxe : l[k] = x at *
      obtain ⟨a, t⟩ := x
      dsimp only at hc0 hc1 hx hn2
      subst hn2
      have hbr := HB.out.trans (HR.out.mono HB.out.size)
      have hd0 := (hbr.cell (p := ⟨b, off + k * 2, none⟩) hb).trans hc0
      have hd1 := (hbr.cell (p := ⟨b, off + k * 2 + 1, none⟩) hb).trans hc1
      have hbs := HR.out.size
      have hblt := Nat.lt_of_lt_of_le hb hbr.size
      have HSZ := Lib.hid (fun W => bytesOf_any n hn t hx W)
      have HSB := Lib.hid (show bytesB ((n : Int), t) = ⟨(bytesL ((n : Int), t)).toArray⟩ from rfl)
      have hbl : (bytesB ((n : Int), t)).size ≤ 1407 := by
        have := bytesL_length ((n : Int), t)
        have h4 := padN_lt (4 + t.size)
        rw [HSB.out]
        show (bytesL ((n : Int), t)).toArray.size ≤ 1407
        simp only [List.size_toArray]
        dsimp only at this
        omega
      have hzl := HZL.out k
      generalize bytesB ((n : Int), t) = y at *
      clear hc hc0 hc1 hxe hbr
      go_wp2_with (first
        | (go_at_call 59; ((with_reducible refine (HSZ.out _).mono ?_); rintro e w4 ⟨rfl, hb4⟩); have HI4 := Lib.hid (builder_later (builder_later HI.out ((Below.refl wr.heap.size wr).alloc (Nat.le_refl _) _)) hb4); have hs4 := hb4.size; rw [World.size_alloc] at hs4; replace HR := Lib.hid ((HR.out.alloc HR.out.size _).trans (hb4.mono (by rw [World.size_alloc]; omega))); clear hb4)
        | (go_at_call 51; ((with_reducible refine (builder_write w3.heap.size w3.heap.size _ y _ HI4.out ?hlen HR.out.size).mono ?_); (case hlen => rw [Lib.byteCells_length]; omega); rintro e w5 ⟨rfl, hi5, hb5⟩); have HI5 := Lib.hid hi5; clear hi5; replace HR := Lib.hid (HR.out.trans hb5); clear hb5))
      go_roundw
      case rel =>
        refine ⟨k + 1, by omega, by go_num, Lib.hid ?_, HR⟩
        have := HI5.out
        rw [HSB.out, byteCells_add, ← HT1.out] at this
        exact .inr this
      case measure => simp [intOf]; omega
    · obtain rfl : k = l.length := by omega
      rw [HL.out] at HI
      go_wp2_with (go_at_call 53; ((with_reducible refine (builder_text w3.heap.size w3.heap.size _ _ HI.out HR.out.size).mono ?_); rintro e w5 ⟨rfl, hb5⟩))
      go_ret2
      exact ⟨rfl, HB.out.trans ((HR.out.trans hb5).mono HB.out.size)⟩
end Go.Proofs.Ytfdnphkdpmlbnaa
