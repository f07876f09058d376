/-
  The value of a chunk: contracts.
-/
import Derived.Test.YtfdnphkdpmlbnaaReports
import Derived.Test.YtfdnphkdpmlbnaaCk
import Derived.Test.YtfdnphkdpmlbnaaSmall
namespace Go.Proofs.Ytfdnphkdpmlbnaa
open Go.RowKit
set_option linter.unusedVariables false
set_option linter.unusedSimpArgs false
set_option maxRecDepth 100000

theorem numsL_le (c : Ck) : (numsL c).length ≤ 16 := by
  unfold numsL
  by_cases h0 : c.type = 0
  · rw [if_pos h0]; simp only [List.length_append, be32_length, be16_length]; omega
  rw [if_neg h0]
  by_cases h1 : c.type = 1 ∨ c.type = 2
  · rw [if_pos h1]; simp only [List.length_append, be32_length, be16_length]; omega
  rw [if_neg h1]
  by_cases h3 : c.type = 3
  · rw [if_pos h3]; simp only [List.length_append, be32_length]; omega
  rw [if_neg h3]
  by_cases h7 : c.type = 7
  · rw [if_pos h7, be32_length]; omega
  · rw [if_neg h7]; simp
theorem lastPad_get : ∀ (l : List Item) (h : 0 < l.length), lastPad l = padN (l[l.length - 1]'(by omega)).2.size
  | [x], _ => rfl
  | x :: y :: l, _ => by
    rw [lastPad, lastPad_get (y :: l) (by simp)]
    simp only [List.length_cons, Nat.add_sub_cancel, List.getElem_cons_succ]
set_option maxHeartbeats 1000000 in
theorem behindLast_any (l : List Item) (hl : l.length ≤ 100000) (hs : ∀ x ∈ l, x.2.size ≤ 1000000) (v : Value) (w : World) (hv : RowI w v l) :
    Calls Try.prog 68 #[v] w fun e w' => e = .returned (.int .i64 (lastPad l : Nat)) ∧ w' = w := by
  obtain ⟨A, cap, rfl, hcap, hmax, hcells⟩ := hv
  by_cases hlt : 0 < l.length
  · obtain ⟨b, off, rfl, hb, hc⟩ := hcells hlt
    have hc1 := (hc (l.length - 1) (by omega)).2
    have hx := hs _ (List.getElem_mem (show l.length - 1 < l.length by omega))
    rw [lastPad_get l hlt]
    generalize (l[l.length - 1]'(by omega)).2 = t at *
    have HP := Lib.hid (fun W => pad_any (t.size : Int) (by omega) (by omega) W)
    rw [padI_nat] at HP
    generalize padN t.size = p at *
    obtain ⟨n, hn⟩ : ∃ n, l.length = n + 1 := ⟨l.length - 1, by omega⟩
    rw [hn] at hc1 ⊢
    rw [Nat.add_sub_cancel] at hc1
    have hn' : (n : Int) ≤ 100000 := by omega
    have hts : (t.size : Int) ≤ 1000000 := by omega
    clear hcells hc hs hl hn hcap hlt
    have n0 : (((n + 1 : Nat) : Int) == 0) = false := beq_eq_false_iff_ne.2 (by omega)
    go_enter Try.func68, Try.ntmps68
    go_wp2_with (go_at_call 52; ((with_reducible refine (HP.out _).mono ?_); rintro e w1 ⟨rfl, rfl⟩))
    go_ret
    exact ⟨rfl, rfl⟩
  · obtain rfl : l = [] := List.eq_nil_of_length_eq_zero (by omega)
    clear hcells hs hlt
    go_enter Try.func68, Try.ntmps68
    go_wp2
    go_ret
    exact ⟨rfl, rfl⟩
theorem writer_32 (bb : Nat) (w : World) : Calls Try.prog 65 #[.pointer (some ⟨bb, 0, none⟩)] w fun e w' => e = .returned (.func (.func 84) #[] #[.pointer (some ⟨w.heap.size, 0, none⟩)]) ∧ w' = w.alloc (.cells #[.pointer (some ⟨bb, 0, none⟩)] 82) := by
  go_enter Try.func65, Try.ntmps65
  go_wp2
  go_ret
  exact ⟨rfl, rfl⟩
theorem writer_16 (bb : Nat) (w : World) : Calls Try.prog 66 #[.pointer (some ⟨bb, 0, none⟩)] w fun e w' => e = .returned (.func (.func 86) #[] #[.pointer (some ⟨w.heap.size, 0, none⟩)]) ∧ w' = w.alloc (.cells #[.pointer (some ⟨bb, 0, none⟩)] 82) := by
  go_enter Try.func66, Try.ntmps66
  go_wp2
  go_ret
  exact ⟨rfl, rfl⟩
/-- What a chunk, a builder and two captured ones lie in, each just made. -/
theorem start_facts (w : World) (C : Array Value) :
    let W := (((w.alloc (.cells C 44)).alloc (.cells #[.pointer none, .slice none 0 0] 85)).alloc (.cells #[.pointer (some ⟨w.heap.size + 1, 0, none⟩)] 82)).alloc (.cells #[.pointer (some ⟨w.heap.size + 1, 0, none⟩)] 82)
    Bd W (w.heap.size + 1) (w.heap.size + 1) [] ∧ W.heap[w.heap.size]? = some (.cells C 44 (0, 0)) ∧ W.heap[w.heap.size + 2]? = some (.cells #[.pointer (some ⟨w.heap.size + 1, 0, none⟩)] 82 (0, 0)) ∧
      W.heap[w.heap.size + 3]? = some (.cells #[.pointer (some ⟨w.heap.size + 1, 0, none⟩)] 82 (0, 0)) ∧ Below w.heap.size w W ∧ W.heap.size = w.heap.size + 4 := by
  intro W
  have h1 := heap_alloc_new w (.cells C 44)
  generalize hW1 : w.alloc (.cells C 44) = W1 at *
  have s1 : W1.heap.size = w.heap.size + 1 := by rw [← hW1]; exact World.size_alloc _ _
  have b1 : Below w.heap.size w W1 := by rw [← hW1]; exact (Below.refl _ _).alloc (Nat.le_refl _) _
  have h2 := bd_fresh W1
  generalize hW2 : W1.alloc (.cells #[.pointer none, .slice none 0 0] 85) = W2 at *
  have s2 : W2.heap.size = w.heap.size + 2 := by rw [← hW2, World.size_alloc, s1]
  have g1 : W2.heap[w.heap.size]? = some (.cells C 44 (0, 0)) := by rw [← hW2]; exact (Below.heap_alloc _ _ _ (by omega)).trans h1
  have b2 : Below w.heap.size w W2 := by rw [← hW2]; exact b1.alloc (by omega) _
  rw [s1] at h2
  have h3 := heap_alloc_new W2 (.cells #[.pointer (some ⟨w.heap.size + 1, 0, none⟩)] 82)
  have h2' := h2.alloc (.cells #[.pointer (some ⟨w.heap.size + 1, 0, none⟩)] 82)
  generalize hW3 : W2.alloc (.cells #[.pointer (some ⟨w.heap.size + 1, 0, none⟩)] 82) = W3 at *
  have s3 : W3.heap.size = w.heap.size + 3 := by rw [← hW3, World.size_alloc, s2]
  have g2 : W3.heap[w.heap.size]? = some (.cells C 44 (0, 0)) := by rw [← hW3]; exact (Below.heap_alloc _ _ _ (by omega)).trans g1
  have b3 : Below w.heap.size w W3 := by rw [← hW3]; exact b2.alloc (by omega) _
  rw [s2] at h3
  have e4 : W = W3.alloc (.cells #[.pointer (some ⟨w.heap.size + 1, 0, none⟩)] 82) := by rw [← hW3, ← hW2, ← hW1]
  rw [e4]
  refine ⟨h2'.alloc _, (Below.heap_alloc _ _ _ (by omega)).trans g2, (Below.heap_alloc _ _ _ (by omega)).trans h3, ?_, b3.alloc (by omega) _, by rw [World.size_alloc, s3]⟩
  have := heap_alloc_new W3 (.cells #[.pointer (some ⟨w.heap.size + 1, 0, none⟩)] 82)
  rw [s3] at this
  exact this
set_option maxHeartbeats 4000000 in
theorem valueOf_any (c : Ck) (hw : WfC c) (hg : c.gaps.length < 65536) (hd : c.dups.length < 65536) (hit : c.items.length ≤ 100000) (his : ∀ x ∈ c.items, x.2.size ≤ 1000000) (hr : (rowL c.items).length ≤ 4000) (hts : c.text.size ≤ 1000000) (g d it : Value) (w : World) (hp : Parts w c g d it) :
    Calls Try.prog 48 #[.agg (cellsC c g d it), .string ⟨(rowL c.items).toArray⟩] w fun e w' => e = .returned (.string ⟨(valueL c).toArray⟩) ∧ Below w.heap.size w w' := by
  obtain ⟨s1, s2, s3, s4, s5, s6⟩ := start_facts w (cellsC c g d it)
  have HN := Lib.hid (numbers_put (w.heap.size + 1) (w.heap.size + 1) w.heap.size (w.heap.size + 2) (w.heap.size + 3) [] c hw g d it _ s1 (by simp) (by rw [s6]; omega) s2 s3 s4 (by omega) (by omega) (by omega))
  have HB := Lib.hid s5
  have HX0 := Lib.hid s2
  have HS := Lib.hid (show w.heap.size + 1 ≤ _ from Nat.le_trans (by omega) (Nat.le_of_eq s6.symm))
  have HP := Lib.hid hp
  have HRP := Lib.hid (fun (l : List UInt8) (W : World) hb0 h hlen hBw => reports_any (w.heap.size + 1) (w.heap.size + 1) l c hw hg hd g d it w W hp hb0 (by omega) h hlen hBw)
  have HBL := Lib.hid (fun W h => behindLast_any c.items hit his it W h)
  have HV := Lib.hid (show valueL c = numsL c ++ (if c.type = 3 then repL c else []) ++ itemsL c.items ++ c.text.data.toList from rfl)
  have HNL := Lib.hid (numsL_le c)
  have HRL := Lib.hid (show (repL c).length ≤ 4 + 4 * 65536 + 4 * 65536 from by unfold repL; simp only [List.length_append, be16_length, gapsL_length, dupsL_length]; omega)
  have hz : (⟨(rowL c.items).toArray⟩ : ByteArray).size = (itemsL c.items).length + lastPad c.items := by
    have := lastPad_le c.items
    rw [toB_size, itemsL_length]
    omega
  obtain ⟨S, hi2⟩ : ∃ S : ByteArray, S.data.toList = itemsL c.items := ⟨⟨(itemsL c.items).toArray⟩, rfl⟩
  have he : (⟨(rowL c.items).toArray⟩ : ByteArray).extract 0 (itemsL c.items).length = S := by
    apply bytes_ext
    rw [cut_list, toB_list, hi2, List.drop_zero, Nat.sub_zero, itemsL_length]
    rfl
  have hi1 : S.size = (itemsL c.items).length := by rw [size_list, hi2]
  have hzl : (⟨(rowL c.items).toArray⟩ : ByteArray).size ≤ 4000 := by rw [toB_size]; exact hr
  have hts' : c.text.size = c.text.data.toList.length := size_list _
  obtain ⟨ty, fl, tsn, tag, win, ppid, st, ssn, outs, ins, gaps, dups, items, text⟩ := c
  dsimp only [cellsC] at *
  clear s1 s2 s3 s4 s5 s6 hw hp hg hd hit his hr
  generalize numsL ⟨ty, fl, tsn, tag, win, ppid, st, ssn, outs, ins, gaps, dups, items, text⟩ = NL at *
  generalize repL ⟨ty, fl, tsn, tag, win, ppid, st, ssn, outs, ins, gaps, dups, items, text⟩ = RL at *
  generalize valueL ⟨ty, fl, tsn, tag, win, ppid, st, ssn, outs, ins, gaps, dups, items, text⟩ = VL at *
  generalize lastPad items = n at *
  generalize (⟨(rowL items).toArray⟩ : ByteArray) = R at *
  generalize itemsL items = IL at *
  generalize hm : IL.length = m at *
  have HM := Lib.hid hm
  have HI1 := Lib.hid hi1
  have HI2 := Lib.hid hi2
  have HZ := Lib.hid hz
  have HTS := Lib.hid hts'
  have q1 : (R.size : Int) - (n : Int) = (m : Int) := by omega
  have q2 : (m : Int) ≤ (R.size : Int) := by omega
  have q3 : (0 : Int) ≤ (m : Int) := by omega
  have q4 : (R.size : Int) ≤ 4000 := by omega
  have q5 : m ≤ R.size := by omega
  have q6 : m ≤ 4000 := by omega
  clear hm hi1 hi2 hz hts' hzl
  by_cases t3 : ty = 3
  · subst t3
    rw [if_pos rfl] at HV
    go_enter Try.func48, Try.ntmps48
    go_wp2_with (first
      | (go_at_call 65; ((with_reducible refine (writer_32 _ _).mono ?_); rintro e w1 ⟨rfl, rfl⟩))
      | (go_at_call 66; ((with_reducible refine (writer_16 _ _).mono ?_); rintro e w1 ⟨rfl, rfl⟩)))
    refine HN.out.mono ?_
    rintro e w1 ⟨rfl, hi, hr⟩
    rw [List.nil_append] at hi
    have hx := hr.block HX0.out (by omega) (by decide)
    replace HB := Lib.hid (HB.out.trans (hr.1.mono (by omega)))
    have HSZ := Lib.hid (Nat.le_trans HS.out hr.size)
    have HI := Lib.hid hi
    have HX := Lib.hid hx
    clear hi hr HN HX0 HS
    have c0 : w1.cell? ⟨w.heap.size, 0, none⟩ = some (.int .i64 3) := by rw [cell_in hx]; rfl
    have c1 : w1.cell? ⟨w.heap.size, 1, none⟩ = some (.int .i64 fl) := by rw [cell_in hx]; rfl
    have c2 : w1.cell? ⟨w.heap.size, 2, none⟩ = some (.int .u32 (tsn : Int)) := by rw [cell_in hx]; rfl
    have c3 : w1.cell? ⟨w.heap.size, 3, none⟩ = some (.int .u32 (tag : Int)) := by rw [cell_in hx]; rfl
    have c4 : w1.cell? ⟨w.heap.size, 4, none⟩ = some (.int .u32 (win : Int)) := by rw [cell_in hx]; rfl
    have c5 : w1.cell? ⟨w.heap.size, 5, none⟩ = some (.int .u32 (ppid : Int)) := by rw [cell_in hx]; rfl
    have c6 : w1.cell? ⟨w.heap.size, 6, none⟩ = some (.int .u16 (st : Int)) := by rw [cell_in hx]; rfl
    have c7 : w1.cell? ⟨w.heap.size, 7, none⟩ = some (.int .u16 (ssn : Int)) := by rw [cell_in hx]; rfl
    have c8 : w1.cell? ⟨w.heap.size, 8, none⟩ = some (.int .u16 (outs : Int)) := by rw [cell_in hx]; rfl
    have c9 : w1.cell? ⟨w.heap.size, 9, none⟩ = some (.int .u16 (ins : Int)) := by rw [cell_in hx]; rfl
    have c10 : w1.cell? ⟨w.heap.size, 10, none⟩ = some (g) := by rw [cell_in hx]; rfl
    have c11 : w1.cell? ⟨w.heap.size, 11, none⟩ = some (d) := by rw [cell_in hx]; rfl
    have c12 : w1.cell? ⟨w.heap.size, 12, none⟩ = some (it) := by rw [cell_in hx]; rfl
    have c13 : w1.cell? ⟨w.heap.size, 13, none⟩ = some (.string text) := by rw [cell_in hx]; rfl
    clear hx
    go_wp2_with fail
    refine (HRP.out NL _ HB.out HI.out (by have := HNL.out; omega) HSZ.out).mono ?_
    rintro e w2 ⟨rfl, hi, hr⟩
    have hx := hr.block HX.out (by omega) (by decide)
    replace HB := Lib.hid (HB.out.trans (hr.1.mono (by omega)))
    replace HSZ := Lib.hid (Nat.le_trans HSZ.out hr.size)
    replace HI := Lib.hid hi
    replace HX := Lib.hid hx
    clear hi hr c0 c1 c2 c3 c4 c5 c6 c7 c8 c9 c10 c11 c12 c13
    have c12 : w2.cell? ⟨w.heap.size, 12, none⟩ = some (it) := by rw [cell_in hx]; rfl
    have c13 : w2.cell? ⟨w.heap.size, 13, none⟩ = some (.string text) := by rw [cell_in hx]; rfl
    clear hx
    go_wp2_with fail
    refine (HBL.out _ (HP.out.items.below HB.out)).mono ?_
    rintro e w3 ⟨rfl, rfl⟩
    go_wp2_with fail
    refine (string_any (w.heap.size + 1) (w.heap.size + 1) (NL ++ RL) S _ HI.out (by have := HNL.out; have := HRL.out; (try simp only [List.length_append, List.length_cons, List.length_nil]); (try rw [HI1.out]); (try rw [HI2.out, HM.out]); omega) HSZ.out).mono ?_
    rintro e w4 ⟨rfl, hi, hr⟩
    have hx := hr.block HX.out (by omega) (by decide)
    replace HB := Lib.hid (HB.out.trans (hr.1.mono (by omega)))
    replace HSZ := Lib.hid (Nat.le_trans HSZ.out hr.size)
    replace HI := Lib.hid hi
    have e13 : w4.cell? ⟨w.heap.size, 13, none⟩ = some (.string text) := by rw [cell_in hx]; rfl
    clear hi hr hx HX c12 c13
    go_wp2_with fail
    refine (string_any (w.heap.size + 1) (w.heap.size + 1) (NL ++ RL ++ S.data.toList) text _ HI.out (by have := HNL.out; have := HRL.out; (try simp only [List.length_append, List.length_cons, List.length_nil]); (try rw [HI1.out]); (try rw [HI2.out, HM.out]); omega) HSZ.out).mono ?_
    rintro e w5 ⟨rfl, hi, hr⟩
    replace HB := Lib.hid (HB.out.trans (hr.1.mono (by omega)))
    replace HSZ := Lib.hid (Nat.le_trans HSZ.out hr.size)
    replace HI := Lib.hid hi
    clear hi hr e13
    go_wp2_with fail
    refine (told_any (w.heap.size + 1) (w.heap.size + 1) _ _ HI.out HSZ.out).mono ?_
    rintro e w6 ⟨rfl, hi, hr⟩
    replace HB := Lib.hid (HB.out.trans (hr.1.mono (by omega)))
    clear hi hr
    go_wp2_with fail
    go_ret
    exact ⟨by rw [HV.out, HI2.out]; simp only [List.append_assoc]; rfl, HB.out⟩
  · have n3 : (ty == 3) = false := beq_eq_false_iff_ne.2 t3
    rw [if_neg t3] at HV
    go_enter Try.func48, Try.ntmps48
    go_wp2_with (first
      | (go_at_call 65; ((with_reducible refine (writer_32 _ _).mono ?_); rintro e w1 ⟨rfl, rfl⟩))
      | (go_at_call 66; ((with_reducible refine (writer_16 _ _).mono ?_); rintro e w1 ⟨rfl, rfl⟩)))
    refine HN.out.mono ?_
    rintro e w1 ⟨rfl, hi, hr⟩
    rw [List.nil_append] at hi
    have hx := hr.block HX0.out (by omega) (by decide)
    replace HB := Lib.hid (HB.out.trans (hr.1.mono (by omega)))
    have HSZ := Lib.hid (Nat.le_trans HS.out hr.size)
    have HI := Lib.hid hi
    have HX := Lib.hid hx
    clear hi hr HN HX0 HS
    have c0 : w1.cell? ⟨w.heap.size, 0, none⟩ = some (.int .i64 ty) := by rw [cell_in hx]; rfl
    have c12 : w1.cell? ⟨w.heap.size, 12, none⟩ = some (it) := by rw [cell_in hx]; rfl
    have c13 : w1.cell? ⟨w.heap.size, 13, none⟩ = some (.string text) := by rw [cell_in hx]; rfl
    clear hx
    go_wp2_with fail
    refine (HBL.out _ (HP.out.items.below HB.out)).mono ?_
    rintro e w3 ⟨rfl, rfl⟩
    go_wp2_with fail
    refine (string_any (w.heap.size + 1) (w.heap.size + 1) (NL) S _ HI.out (by have := HNL.out; have := HRL.out; (try simp only [List.length_append, List.length_cons, List.length_nil]); (try rw [HI1.out]); (try rw [HI2.out, HM.out]); omega) HSZ.out).mono ?_
    rintro e w4 ⟨rfl, hi, hr⟩
    have hx := hr.block HX.out (by omega) (by decide)
    replace HB := Lib.hid (HB.out.trans (hr.1.mono (by omega)))
    replace HSZ := Lib.hid (Nat.le_trans HSZ.out hr.size)
    replace HI := Lib.hid hi
    have e13 : w4.cell? ⟨w.heap.size, 13, none⟩ = some (.string text) := by rw [cell_in hx]; rfl
    clear hi hr hx HX c12 c13
    go_wp2_with fail
    refine (string_any (w.heap.size + 1) (w.heap.size + 1) (NL ++ S.data.toList) text _ HI.out (by have := HNL.out; have := HRL.out; (try simp only [List.length_append, List.length_cons, List.length_nil]); (try rw [HI1.out]); (try rw [HI2.out, HM.out]); omega) HSZ.out).mono ?_
    rintro e w5 ⟨rfl, hi, hr⟩
    replace HB := Lib.hid (HB.out.trans (hr.1.mono (by omega)))
    replace HSZ := Lib.hid (Nat.le_trans HSZ.out hr.size)
    replace HI := Lib.hid hi
    clear hi hr e13
    go_wp2_with fail
    refine (told_any (w.heap.size + 1) (w.heap.size + 1) _ _ HI.out HSZ.out).mono ?_
    rintro e w6 ⟨rfl, hi, hr⟩
    replace HB := Lib.hid (HB.out.trans (hr.1.mono (by omega)))
    clear hi hr
    go_wp2_with fail
    go_ret
    exact ⟨by rw [HV.out, HI2.out]; simp only [List.append_assoc, List.nil_append]; rfl, HB.out⟩
end Go.Proofs.Ytfdnphkdpmlbnaa
