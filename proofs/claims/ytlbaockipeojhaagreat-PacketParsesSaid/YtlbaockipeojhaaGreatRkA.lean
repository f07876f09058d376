/-
  The document's chunk: what its type has, whether that fits, its value: plain functions and facts. The document's chunk, its small functions: contracts. The value of a chunk that is right, as the document puts it together: plain facts. Whether the document lets gaps through: a contract. Whether what a chunk's type has is as the document asks: a contract.
-/
import Derived.Test.YtlbaockipeojhaaGreatAs
import Derived.Test.YtlbaockipeojhaaGreatRow
import Derived.Test.YtlbaockipeojhaaGreatMeant
import Derived.BigQuiet
import Derived.BigRegion
section
namespace Go.Proofs.YtlbaockipeojhaaGreat
set_option linter.unusedVariables false
set_option linter.unusedSimpArgs false

/-- A chunk with nothing but what its type has. -/
def onlyC (c : Ck) : Ck :=
  if c.type = 0 then ⟨0, c.flags, c.tsn, 0, 0, c.ppid, c.stream, c.ssn, 0, 0, [], [], [], c.text⟩
  else if c.type = 1 ∨ c.type = 2 then ⟨c.type, 0, c.tsn, c.tag, c.window, 0, 0, 0, c.outs, c.ins, [], [], c.items, noB⟩
  else if c.type = 3 then ⟨3, 0, c.tsn, 0, c.window, 0, 0, 0, 0, 0, c.gaps, c.dups, [], noB⟩
  else if c.type = 4 ∨ c.type = 5 ∨ c.type = 9 then ⟨c.type, 0, 0, 0, 0, 0, 0, 0, 0, 0, [], [], c.items, noB⟩
  else if c.type = 6 then ⟨6, c.flags, 0, 0, 0, 0, 0, 0, 0, 0, [], [], c.items, noB⟩
  else if c.type = 7 then ⟨7, 0, c.tsn, 0, 0, 0, 0, 0, 0, 0, [], [], [], noB⟩
  else if c.type = 8 ∨ c.type = 11 then ⟨c.type, 0, 0, 0, 0, 0, 0, 0, 0, 0, [], [], [], noB⟩
  else if c.type = 10 then ⟨10, 0, 0, 0, 0, 0, 0, 0, 0, 0, [], [], [], c.text⟩
  else if c.type = 14 then ⟨14, c.flags, 0, 0, 0, 0, 0, 0, 0, 0, [], [], [], noB⟩
  else ⟨c.type, c.flags, 0, 0, 0, 0, 0, 0, 0, 0, [], [], [], c.text⟩
def gapsB (l : List (Nat × Nat)) : Bool := apartB 1 l && decide (l.length ≤ 100)
/-- Whether what the type has is as it must be. -/
def fitsB (c : Ck) : Bool :=
  if c.type = 0 then decide (0 ≤ c.flags) && decide (c.flags ≤ 7) && decide (1 ≤ c.text.size) && decide (c.text.size ≤ 1000)
  else if c.type = 1 ∨ c.type = 2 then decide (c.tag ≠ 0) && decide (c.outs ≠ 0) && decide (c.ins ≠ 0)
  else if c.type = 3 then gapsB c.gaps && decide (c.dups.length ≤ 100)
  else if c.type = 4 ∨ c.type = 5 then decide (c.items.length = 1) && decide (firstType c.items = 1)
  else if c.type = 9 then decide (1 ≤ c.items.length)
  else if c.type = 10 then decide (1 ≤ c.text.size) && decide (c.text.size ≤ 1000)
  else if c.type = 6 ∨ c.type = 14 then decide (c.flags = 0) || decide (c.flags = 1)
  else if c.type = 7 ∨ c.type = 8 ∨ c.type = 11 then true
  else decide (0 ≤ c.type) && decide (c.type ≤ 255) && decide (0 ≤ c.flags) && decide (c.flags ≤ 255) && decide (c.text.size ≤ 1000)
theorem only_rows (c : Ck) : (c.gaps.length = (onlyC c).gaps.length → c.gaps = (onlyC c).gaps) ∧ (c.dups.length = (onlyC c).dups.length → c.dups = (onlyC c).dups) ∧ (c.items.length = (onlyC c).items.length → c.items = (onlyC c).items) := by
  unfold onlyC
  repeat' split
  all_goals refine ⟨fun h => ?_, fun h => ?_, fun h => ?_⟩
  all_goals first | rfl | exact List.eq_nil_of_length_eq_zero h
theorem size_nil {s : ByteArray} : s = noB ↔ (s.size : Int) ≤ 0 := ⟨fun h => by subst h; decide, empty_of⟩
theorem len_nil {α : Type} {l : List α} : l = [] ↔ (l.length : Int) ≤ 0 := ⟨fun h => by subst h; simp, fun h => List.eq_nil_of_length_eq_zero (by omega)⟩
/-- The document's test and the program's are one. -/
theorem shaped_formed (c : Ck) (hl : (c.items.length : Int) ≤ 9223372036854775807) : (sameB c (onlyC c) && fitsB c) = formedB c := by
  obtain ⟨r1, r2, r3⟩ := only_rows c
  have hs := sameB_iff c (onlyC c) r1 r2 r3
  rw [Bool.eq_iff_iff, Bool.and_eq_true, hs]
  clear r1 r2 r3 hs
  unfold formedB
  simp only [Bool.and_eq_true, within_true, decide_eq_true_eq]
  obtain ⟨ty, fl, tsn, tag, win, ppid, st, ssn, outs, ins, gaps, dups, items, text⟩ := c
  dsimp only at hl ⊢
  have hf : firstType items = 1 ∨ firstType items ≠ 1 := by omega
  by_cases h0 : ty = 0
  · subst h0
    simp only [onlyC, fitsB, formOf, ownB, eraseC, nothingB, meantB, gapsB, if_true, if_false, Ck.mk.injEq, Bool.and_eq_true, Bool.or_eq_true, decide_eq_true_eq, size_nil, len_nil, true_and, and_true, true_or, or_true, false_or, or_false, Int.reduceEq, Int.reduceLE, reduceIte]
    omega
  by_cases h1 : ty = 1
  · subst h1
    simp only [onlyC, fitsB, formOf, ownB, eraseC, nothingB, meantB, gapsB, if_true, if_false, Ck.mk.injEq, Bool.and_eq_true, Bool.or_eq_true, decide_eq_true_eq, size_nil, len_nil, true_and, and_true, true_or, or_true, false_or, or_false, Int.reduceEq, Int.reduceLE, reduceIte]
    omega
  by_cases h2 : ty = 2
  · subst h2
    simp only [onlyC, fitsB, formOf, ownB, eraseC, nothingB, meantB, gapsB, if_true, if_false, Ck.mk.injEq, Bool.and_eq_true, Bool.or_eq_true, decide_eq_true_eq, size_nil, len_nil, true_and, and_true, true_or, or_true, false_or, or_false, Int.reduceEq, Int.reduceLE, reduceIte]
    omega
  by_cases h3 : ty = 3
  · subst h3
    cases hq : apartB 1 gaps
    all_goals
      simp only [onlyC, fitsB, formOf, ownB, eraseC, nothingB, meantB, gapsB, if_true, if_false, Ck.mk.injEq, Bool.and_eq_true, Bool.or_eq_true, decide_eq_true_eq, size_nil, len_nil, true_and, and_true, true_or, or_true, false_or, or_false, Int.reduceEq, Int.reduceLE, reduceIte, hq, Bool.false_eq_true, false_and, and_false, false_iff, iff_false]
      try omega
  by_cases h4 : ty = 4
  · subst h4
    simp only [onlyC, fitsB, formOf, ownB, eraseC, nothingB, meantB, gapsB, if_true, if_false, Ck.mk.injEq, Bool.and_eq_true, Bool.or_eq_true, decide_eq_true_eq, size_nil, len_nil, true_and, and_true, true_or, or_true, false_or, or_false, Int.reduceEq, Int.reduceLE, reduceIte]
    omega
  by_cases h5 : ty = 5
  · subst h5
    simp only [onlyC, fitsB, formOf, ownB, eraseC, nothingB, meantB, gapsB, if_true, if_false, Ck.mk.injEq, Bool.and_eq_true, Bool.or_eq_true, decide_eq_true_eq, size_nil, len_nil, true_and, and_true, true_or, or_true, false_or, or_false, Int.reduceEq, Int.reduceLE, reduceIte]
    omega
  by_cases h9 : ty = 9
  · subst h9
    simp only [onlyC, fitsB, formOf, ownB, eraseC, nothingB, meantB, gapsB, if_true, if_false, Ck.mk.injEq, Bool.and_eq_true, Bool.or_eq_true, decide_eq_true_eq, size_nil, len_nil, true_and, and_true, true_or, or_true, false_or, or_false, Int.reduceEq, Int.reduceLE, reduceIte]
    omega
  by_cases h6 : ty = 6
  · subst h6
    simp only [onlyC, fitsB, formOf, ownB, eraseC, nothingB, meantB, gapsB, if_true, if_false, Ck.mk.injEq, Bool.and_eq_true, Bool.or_eq_true, decide_eq_true_eq, size_nil, len_nil, true_and, and_true, true_or, or_true, false_or, or_false, Int.reduceEq, Int.reduceLE, reduceIte]
    omega
  by_cases h7 : ty = 7
  · subst h7
    simp only [onlyC, fitsB, formOf, ownB, eraseC, nothingB, meantB, gapsB, if_true, if_false, Ck.mk.injEq, Bool.and_eq_true, Bool.or_eq_true, decide_eq_true_eq, size_nil, len_nil, true_and, and_true, true_or, or_true, false_or, or_false, Int.reduceEq, Int.reduceLE, reduceIte]
    omega
  by_cases h8 : ty = 8
  · subst h8
    simp only [onlyC, fitsB, formOf, ownB, eraseC, nothingB, meantB, gapsB, if_true, if_false, Ck.mk.injEq, Bool.and_eq_true, Bool.or_eq_true, decide_eq_true_eq, size_nil, len_nil, true_and, and_true, true_or, or_true, false_or, or_false, Int.reduceEq, Int.reduceLE, reduceIte]
    omega
  by_cases h11 : ty = 11
  · subst h11
    simp only [onlyC, fitsB, formOf, ownB, eraseC, nothingB, meantB, gapsB, if_true, if_false, Ck.mk.injEq, Bool.and_eq_true, Bool.or_eq_true, decide_eq_true_eq, size_nil, len_nil, true_and, and_true, true_or, or_true, false_or, or_false, Int.reduceEq, Int.reduceLE, reduceIte]
    omega
  by_cases h10 : ty = 10
  · subst h10
    simp only [onlyC, fitsB, formOf, ownB, eraseC, nothingB, meantB, gapsB, if_true, if_false, Ck.mk.injEq, Bool.and_eq_true, Bool.or_eq_true, decide_eq_true_eq, size_nil, len_nil, true_and, and_true, true_or, or_true, false_or, or_false, Int.reduceEq, Int.reduceLE, reduceIte]
    omega
  by_cases h14 : ty = 14
  · subst h14
    simp only [onlyC, fitsB, formOf, ownB, eraseC, nothingB, meantB, gapsB, if_true, if_false, Ck.mk.injEq, Bool.and_eq_true, Bool.or_eq_true, decide_eq_true_eq, size_nil, len_nil, true_and, and_true, true_or, or_true, false_or, or_false, Int.reduceEq, Int.reduceLE, reduceIte]
    omega
  simp only [onlyC, fitsB, formOf, ownB, eraseC, nothingB, meantB, gapsB, if_true, if_false, Ck.mk.injEq, Bool.and_eq_true, Bool.or_eq_true, decide_eq_true_eq, size_nil, len_nil, true_and, and_true, true_or, or_true, false_or, or_false, Int.reduceEq, Int.reduceLE, reduceIte, h0, h1, h2, h3, h4, h5, h6, h7, h8, h9, h10, h11, h14]
  omega
end Go.Proofs.YtlbaockipeojhaaGreat
end
section
namespace Go.Proofs.YtlbaockipeojhaaGreat
open Go.RowKit
set_option linter.unusedVariables false
set_option linter.unusedSimpArgs false
set_option maxRecDepth 100000

set_option maxHeartbeats 1000000 in
theorem rtwo_any (n : Nat) (hn : n < 65536) (w : World) : Calls Tryz.prog 55 #[.int .i64 (n : Int)] w fun e w' => e = .returned (.string (twoB n)) ∧ Below w.heap.size w w' := by
  have ht := twoB_text n hn w
  generalize twoB n = t at *
  go_enter Tryz.func55, Tryz.ntmps55
  go_wp2
  go_ret
  exact ⟨rfl, (Below.refl _ _).alloc (Nat.le_refl _) _⟩
def be32B (n : Nat) : ByteArray := ⟨(be32 n).toArray⟩
theorem be32_text (n : Nat) (hn : n < 4294967296) (w : World) :
    (convert 47 9 (.slice (some ⟨w.heap.size, 0, none⟩) 4 4)).run Tryz.prog (w.alloc (.cells #[.int .u8 ((n : Int) / 16777216), .int .u8 ((n : Int) / 65536 % 256), .int .u8 ((n : Int) / 256 % 256), .int .u8 ((n : Int) % 256)] 5)) = .ok (.string (be32B n)) (w.alloc (.cells #[.int .u8 ((n : Int) / 16777216), .int .u8 ((n : Int) / 65536 % 256), .int .u8 ((n : Int) / 256 % 256), .int .u8 ((n : Int) % 256)] 5)) := by
  have h := new_text w (be32 n) 4
  have e1 : (UInt8.ofNat (n / 16777216)).toNat = n / 16777216 := UInt8.toNat_ofNat_of_lt' (by show _ < 256; omega)
  have e2 : (UInt8.ofNat (n / 65536)).toNat = n / 65536 % 256 := UInt8.toNat_ofNat'
  have e3 : (UInt8.ofNat (n / 256)).toNat = n / 256 % 256 := UInt8.toNat_ofNat'
  have e4 : (UInt8.ofNat n).toNat = n % 256 := UInt8.toNat_ofNat'
  simp only [be32, List.map_cons, List.map_nil, enc8, e1, e2, e3, e4, List.length_cons, List.length_nil] at h
  exact h
set_option maxHeartbeats 1000000 in
theorem rfour_any (n : Nat) (hn : n < 4294967296) (w : World) : Calls Tryz.prog 87 #[.int .u32 (n : Int)] w fun e w' => e = .returned (.string (be32B n)) ∧ Below w.heap.size w w' := by
  have ht := be32_text n hn w
  generalize be32B n = t at *
  go_enter Tryz.func87, Tryz.ntmps87
  go_wp2
  go_ret
  exact ⟨rfl, (Below.refl _ _).alloc (Nat.le_refl _) _⟩
end Go.Proofs.YtlbaockipeojhaaGreat
end
section
namespace Go.Proofs.YtlbaockipeojhaaGreat
open Go.RowKit
set_option linter.unusedVariables false
set_option linter.unusedSimpArgs false

theorem lastPad_last : ∀ (l : List Item) (h : 0 < l.length), lastPad l = padN (l[l.length - 1]'(by omega)).2.size
  | [], h => by simp at h
  | [x], _ => rfl
  | x :: y :: l, _ => by
    have := lastPad_last (y :: l) (by simp)
    rw [lastPad, this]
    rfl
theorem cut_items (l : List Item) : (⟨(rowL l).toArray⟩ : ByteArray).extract 0 ((rowL l).length - lastPad l) = ⟨(itemsL l).toArray⟩ := by
  apply bytes_ext
  rw [cut_list, list_toB, list_toB, List.drop_zero, Nat.sub_zero]
  rfl
section
variable (fl : Int) (tsn tag win ppid st ssn outs ins : Nat) (gaps : List (Nat × Nat)) (dups : List Nat) (items : List Item) (text : ByteArray)
theorem value_0 : be32B tsn ++ twoB st ++ twoB ssn ++ be32B ppid ++ text = ⟨(valueL ⟨0, fl, tsn, tag, win, ppid, st, ssn, outs, ins, gaps, dups, [], text⟩).toArray⟩ := by
  apply bytes_ext
  simp only [app_list, list_toB, be32B, twoB, valueL, numsL, itemsL_nil, if_true, show ¬ ((0 : Int) = 3) by decide, if_false, List.append_nil]
theorem value_1 : be32B tag ++ be32B win ++ twoB outs ++ twoB ins ++ be32B tsn ++ ⟨(itemsL items).toArray⟩ = ⟨(valueL ⟨1, fl, tsn, tag, win, ppid, st, ssn, outs, ins, gaps, dups, items, noB⟩).toArray⟩ := by
  apply bytes_ext
  simp only [app_list, list_toB, be32B, twoB, valueL, numsL, noB, if_true, show ¬ ((1 : Int) = 0) by decide, show ¬ ((1 : Int) = 3) by decide, if_false, List.append_nil, true_or, or_true]
theorem value_2 : be32B tag ++ be32B win ++ twoB outs ++ twoB ins ++ be32B tsn ++ ⟨(itemsL items).toArray⟩ = ⟨(valueL ⟨2, fl, tsn, tag, win, ppid, st, ssn, outs, ins, gaps, dups, items, noB⟩).toArray⟩ := by
  apply bytes_ext
  simp only [app_list, list_toB, be32B, twoB, valueL, numsL, noB, if_true, show ¬ ((2 : Int) = 0) by decide, show ¬ ((2 : Int) = 3) by decide, if_false, List.append_nil, true_or, or_true]
theorem value_3 : be32B tsn ++ be32B win ++ twoB gaps.length ++ twoB dups.length ++ ⟨(gapsL gaps ++ dupsL dups).toArray⟩ = ⟨(valueL ⟨3, fl, tsn, tag, win, ppid, st, ssn, outs, ins, gaps, dups, [], noB⟩).toArray⟩ := by
  apply bytes_ext
  simp only [app_list, list_toB, be32B, twoB, valueL, numsL, repL, noB, itemsL_nil, if_true, show ¬ ((3 : Int) = 0) by decide, show ¬ ((3 : Int) = 1 ∨ (3 : Int) = 2) by decide, if_false, List.append_nil, List.append_assoc]
theorem value_7 : be32B tsn = ⟨(valueL ⟨7, fl, tsn, tag, win, ppid, st, ssn, outs, ins, gaps, dups, [], noB⟩).toArray⟩ := by
  apply bytes_ext
  simp only [app_list, list_toB, be32B, twoB, valueL, numsL, noB, itemsL_nil, if_true, show ¬ ((7 : Int) = 0) by decide, show ¬ ((7 : Int) = 3) by decide, show ¬ ((7 : Int) = 1 ∨ (7 : Int) = 2) by decide, if_false, List.append_nil]
theorem value_d {ty : Int} (h0 : ¬ ty = 0) (h1 : ¬ ty = 1) (h2 : ¬ ty = 2) (h3 : ¬ ty = 3) (h7 : ¬ ty = 7) : ⟨(itemsL items).toArray⟩ ++ text = (⟨(valueL ⟨ty, fl, tsn, tag, win, ppid, st, ssn, outs, ins, gaps, dups, items, text⟩).toArray⟩ : ByteArray) := by
  apply bytes_ext
  simp only [app_list, list_toB, valueL, numsL, h0, h1, h2, h3, h7, if_false, or_self, List.append_nil, List.nil_append]
end
theorem vgaps_take (l : List (Nat × Nat)) (k : Nat) (h : k < l.length) : (⟨(gapsL (l.take (k + 1))).toArray⟩ : ByteArray) = ⟨(gapsL (l.take k)).toArray⟩ ++ twoB l[k].1 ++ twoB l[k].2 := by
  apply bytes_ext
  rw [List.take_succ_eq_append_getElem h]
  simp only [app_list, list_toB, twoB, gapsL, List.flatMap_append, List.flatMap_cons, List.flatMap_nil, List.append_nil, gapL, List.append_assoc]
theorem vdups_take (l : List Nat) (k : Nat) (h : k < l.length) : (⟨(dupsL (l.take (k + 1))).toArray⟩ : ByteArray) = ⟨(dupsL (l.take k)).toArray⟩ ++ be32B l[k] := by
  apply bytes_ext
  rw [List.take_succ_eq_append_getElem h]
  simp only [app_list, list_toB, be32B, dupsL, List.flatMap_append, List.flatMap_cons, List.flatMap_nil, List.append_nil]
/-- A chunk lies in the block that is laid first, else all is as it was. -/
def ValS (w : World) (CS : Array Value) (W : World) : Prop := W.heap[w.heap.size]? = some (.cells CS 74 (0, 0)) ∧ Below w.heap.size w W
theorem ValS.drew {w W : World} {CS : Array Value} (h : ValS w CS W) : ValS w CS W.drew := ⟨h.1, h.2.drew⟩
theorem ValS.later {w W W' : World} {CS : Array Value} (h : ValS w CS W) (hb : Below W.heap.size W W') : ValS w CS W' := ⟨(hb.block _ (Array.getElem?_eq_some_iff.1 h.1).1).trans h.1, h.2.trans (hb.mono h.2.size)⟩
end Go.Proofs.YtlbaockipeojhaaGreat
end
section
namespace Go.Proofs.YtlbaockipeojhaaGreat
open Go.RowKit
set_option linter.unusedVariables false
set_option linter.unusedSimpArgs false
set_option maxRecDepth 100000

/-- From where on the k-th gap may begin. -/
def fromN (l : List (Nat × Nat)) : Nat → Nat
  | 0 => 1
  | k + 1 => l[k]!.2 + 2
theorem gaps_step (l : List (Nat × Nat)) (k : Nat) (h : k < l.length) : apartB (fromN l k) (l.drop k) = (decide (fromN l k ≤ l[k].1 ∧ l[k].1 ≤ l[k].2) && apartB (fromN l (k + 1)) (l.drop (k + 1))) := by
  rw [apart_step _ l k h]
  simp only [fromN]
  rw [getElem!_pos l k h]
set_option maxHeartbeats 8000000 in
theorem rgaps_any (l : List (Nat × Nat)) (hl : l.length ≤ 100000) (hw : ∀ g ∈ l, g.1 < 65536 ∧ g.2 < 65536) (v : Value) (w : World) (hv : RowG w v l) :
    Calls Tryz.prog 112 #[v] w fun e w' => e = .returned (.bool (gapsB l)) ∧ Below w.heap.size w w' := by
  obtain ⟨A, cap, rfl, hcap, hmax, hcells⟩ := hv
  have HC := Lib.hid hcells
  have HS := Lib.hid (fun k h => gaps_step l k h)
  have HE := Lib.hid (fun n => show apartB n (l.drop l.length) = true from by rw [List.drop_length]; rfl)
  have HW := Lib.hid (fun k (h : k < l.length) => hw l[k] (List.getElem_mem h))
  have H0 := Lib.hid (show apartB 1 l = apartB (fromN l 0) (l.drop 0) from rfl)
  have HG := Lib.hid (show gapsB l = (apartB 1 l && decide (l.length ≤ 100)) from rfl)
  have HF0 := Lib.hid (show fromN l 0 = 1 from rfl)
  have HFS := Lib.hid (fun k (h : k < l.length) => show fromN l (k + 1) = l[k].2 + 2 from by simp only [fromN]; rw [getElem!_pos l k h])
  have hl' : (l.length : Int) ≤ 100000 := by omega
  generalize gapsB l = r at *
  generalize apartB 1 l = q at *
  clear hcells hw
  go_enter Tryz.func112, Tryz.ntmps112
  go_wp2_with fail
  go_loopw [3] (fun i wr => ∃ k : Nat, k ≤ l.length ∧ i = .int .i64 k ∧ Hid (q = apartB (fromN l k) (l.drop k)) ∧ Below w.heap.size w wr)
    (fun i _ => l.length - (intOf i).toNat)
  case atStart => exact ⟨0, Nat.zero_le _, rfl, H0, Below.refl _ _⟩
  case round =>
    obtain ⟨k, hk, rfl, HQ, hbr⟩ := hrel
    by_cases hlt : k < l.length
    · obtain ⟨b, off, rfl, hb, hc⟩ := HC.out (by omega)
      obtain ⟨hc0, hc1⟩ := hc k hlt
      have hx := HW.out k hlt
      have HQ1 := Lib.hid (HQ.out.trans (HS.out k hlt))
      have hd0 := (hbr.cell (p := ⟨b, off + k * 2, none⟩) hb).trans hc0
      have hd1 := (hbr.cell (p := ⟨b, off + k * 2 + 1, none⟩) hb).trans hc1
      have hbs := hbr.size
      have hblt := Nat.lt_of_lt_of_le hb hbr.size
      have HB := Lib.hid hbr
      have HN1 := Lib.hid (HFS.out k hlt)
      have q4 : (0 : Int) ≤ (k : Int) := by omega
      have q5 : (k : Int) < (l.length : Int) := by omega
      generalize hxe : l[k] = x at *
      obtain ⟨x, y⟩ := x
      dsimp only at hd0 hd1 hx HQ1 HN1
      obtain ⟨hx1, hx2⟩ := hx
      clear hc0 hc1 HQ hxe
      by_cases h1 : 1 ≤ x
      case neg =>
        have hfr : ¬ (fromN l k ≤ x ∧ x ≤ y) := by
          intro hh
          cases k with
          | zero => have := HF0.out; omega
          | succ j => have := HFS.out j (by omega); omega
        rw [decide_eq_false hfr, Bool.false_and] at HQ1
        obtain rfl := HQ1.out
        rw [Bool.false_and] at HG
        obtain rfl := HG.out
        have i1 : decide ((x : Int) < 1) = true := decide_eq_true (by omega)
        have i1' : decide (x < 1) = true := decide_eq_true (by omega)
        clear hc hbr h1 hfr
        go_wp2_with fail
        refine wp_region_noPanic ?_
        refine wp_region_held_drew (S := (fun w' => w'.cell? ⟨b, off + k * 2, none⟩ = some (.int .u16 (x : Int)) ∧ w'.cell? ⟨b, off + k * 2 + 1, none⟩ = some (.int .u16 (y : Int)))) (by kernel_rfl) ?_ (fun hHeld => ?_)
        · exact ⟨hd0, hd1⟩
        refine k9 0 ?_ (y := ?_) (h := ?_)
        rotate_left 1
        · (intro w' hSw; (try dsimp only at hSw); go_simp; try with_reducible rfl)
        try simp only [Act.put, p9a, p9z, p9s]
        refine k9 1 ?_ (y := ?_) (h := ?_)
        rotate_left 1
        · (intro w' hSw; (try dsimp only at hSw); go_simp; try with_reducible rfl)
        try simp only [Act.put, p9a, p9z, p9s]
        refine k9 2 ?_ (y := ?_) (h := ?_)
        rotate_left 1
        · (intro w' hSw; (try dsimp only at hSw); go_simp; try with_reducible rfl)
        try simp only [Act.put, p9a, p9z, p9s]
        refine k9 3 ?_ (y := ?_) (h := ?_)
        rotate_left 1
        · (intro w' hSw; (try dsimp only at hSw); go_simp; try with_reducible rfl)
        try simp only [Act.put, p9a, p9z, p9s]
        refine k9 4 ?_ (y := ?_) (h := ?_)
        rotate_left 1
        · (intro w' hSw; (try dsimp only at hSw); go_simp; try with_reducible rfl)
        try simp only [Act.put, p9a, p9z, p9s]
        refine k9 5 ?_ (y := ?_) (h := ?_)
        rotate_left 1
        · (intro w' hSw; (try dsimp only at hSw); go_simp; try with_reducible rfl)
        try simp only [Act.put, p9a, p9z, p9s]
        refine k9 6 ?_ (y := ?_) (h := ?_)
        rotate_left 1
        · (intro w' hSw; (try dsimp only at hSw); go_simp; try with_reducible rfl)
        try simp only [Act.put, p9a, p9z, p9s]
        refine k8 7 (h := ?_)
        try simp only [Act.put, p9a, p9z, p9s]
        refine k8 8 (h := ?_)
        try simp only [Act.put, p9a, p9z, p9s]
        refine k8 9 (h := ?_)
        try simp only [Act.put, p9a, p9z, p9s]
        refine k8 10 (h := ?_)
        try simp only [Act.put, p9a, p9z, p9s]
        refine k8 11 (h := ?_)
        try simp only [Act.put, p9a, p9z, p9s]
        refine k8 12 (h := ?_)
        try simp only [Act.put, p9a, p9z, p9s]
        refine k8 13 (h := ?_)
        try simp only [Act.put, p9a, p9z, p9s]
        refine k8 14 (h := ?_)
        try simp only [Act.put, p9a, p9z, p9s]
        refine k8 15 (h := ?_)
        try simp only [Act.put, p9a, p9z, p9s]
        refine k8 16 (h := ?_)
        try simp only [Act.put, p9a, p9z, p9s]
        refine k8 17 (h := ?_)
        try simp only [Act.put, p9a, p9z, p9s]
        refine k9 18 ?_ (y := ?_) (h := ?_)
        rotate_left 1
        · (intro w' hSw; (try dsimp only at hSw); go_simp; try with_reducible rfl)
        try simp only [Act.put, p9a, p9z, p9s]
        refine k9 19 ?_ (y := ?_) (h := ?_)
        rotate_left 1
        · (intro w' hSw; (try dsimp only at hSw); go_simp; try with_reducible rfl)
        try simp only [Act.put, p9a, p9z, p9s]
        refine k8 20 (h := ?_)
        try simp only [Act.put, p9a, p9z, p9s]
        refine k8 21 (h := ?_)
        try simp only [Act.put, p9a, p9z, p9s]
        refine k8 22 (h := ?_)
        try simp only [Act.put, p9a, p9z, p9s]
        refine k8 23 (h := ?_)
        try simp only [Act.put, p9a, p9z, p9s]
        refine k8 24 (h := ?_)
        try simp only [Act.put, p9a, p9z, p9s]
        refine k8 25 (h := ?_)
        try simp only [Act.put, p9a, p9z, p9s]
        refine k8 26 (h := ?_)
        try simp only [Act.put, p9a, p9z, p9s]
        refine k8 27 (h := ?_)
        try simp only [Act.put, p9a, p9z, p9s]
        refine k8 28 (h := ?_)
        try simp only [Act.put, p9a, p9z, p9s]
        refine k8 29 (h := ?_)
        try simp only [Act.put, p9a, p9z, p9s]
        refine k8 30 (h := ?_)
        try simp only [Act.put, p9a, p9z, p9s]
        refine k8 31 (h := ?_)
        try simp only [Act.put, p9a, p9z, p9s]
        refine k8 32 (h := ?_)
        try simp only [Act.put, p9a, p9z, p9s]
        refine k8 33 (h := ?_)
        try simp only [Act.put, p9a, p9z, p9s]
        refine k8 34 (h := ?_)
        try simp only [Act.put, p9a, p9z, p9s]
        refine k8 35 (h := ?_)
        try simp only [Act.put, p9a, p9z, p9s]
        refine k8 36 (h := ?_)
        try simp only [Act.put, p9a, p9z, p9s]
        refine k8 37 (h := ?_)
        try simp only [Act.put, p9a, p9z, p9s]
        refine k8 38 (h := ?_)
        try simp only [Act.put, p9a, p9z, p9s]
        refine k9 39 ?_ (y := ?_) (h := ?_)
        rotate_left 1
        · (intro w' hSw; (try dsimp only at hSw); go_simp; try with_reducible rfl)
        try simp only [Act.put, p9a, p9z, p9s]
        refine wpAnyH_done (by kernel_rfl) ?_ _
        refine NoPanic.normal ?_
        clear hHeld
        
        
        go_wp2_with fail
        go_ret
        exact ⟨rfl, HB.out.drew⟩
      have i1 : decide ((x : Int) < 1) = false := decide_eq_false (by omega)
      have i1' : decide (x < 1) = false := decide_eq_false (by omega)
      by_cases h2 : x ≤ y
      case neg =>
        rw [decide_eq_false (fun hh => h2 hh.2), Bool.false_and] at HQ1
        obtain rfl := HQ1.out
        rw [Bool.false_and] at HG
        obtain rfl := HG.out
        have i2 : decide ((y : Int) < (x : Int)) = true := decide_eq_true (by omega)
        have i2' : decide (y < x) = true := decide_eq_true (by omega)
        clear hc hbr h1 h2
        go_wp2_with fail
        refine wp_region_noPanic ?_
        refine wp_region_held_drew (S := (fun w' => w'.cell? ⟨b, off + k * 2, none⟩ = some (.int .u16 (x : Int)) ∧ w'.cell? ⟨b, off + k * 2 + 1, none⟩ = some (.int .u16 (y : Int)))) (by kernel_rfl) ?_ (fun hHeld => ?_)
        · exact ⟨hd0, hd1⟩
        refine k9 0 ?_ (y := ?_) (h := ?_)
        rotate_left 1
        · (intro w' hSw; (try dsimp only at hSw); go_simp; try with_reducible rfl)
        try simp only [Act.put, p9a, p9z, p9s]
        refine k9 1 ?_ (y := ?_) (h := ?_)
        rotate_left 1
        · (intro w' hSw; (try dsimp only at hSw); go_simp; try with_reducible rfl)
        try simp only [Act.put, p9a, p9z, p9s]
        refine k9 2 ?_ (y := ?_) (h := ?_)
        rotate_left 1
        · (intro w' hSw; (try dsimp only at hSw); go_simp; try with_reducible rfl)
        try simp only [Act.put, p9a, p9z, p9s]
        refine k9 3 ?_ (y := ?_) (h := ?_)
        rotate_left 1
        · (intro w' hSw; (try dsimp only at hSw); go_simp; try with_reducible rfl)
        try simp only [Act.put, p9a, p9z, p9s]
        refine k9 4 ?_ (y := ?_) (h := ?_)
        rotate_left 1
        · (intro w' hSw; (try dsimp only at hSw); go_simp; try with_reducible rfl)
        try simp only [Act.put, p9a, p9z, p9s]
        refine k9 5 ?_ (y := ?_) (h := ?_)
        rotate_left 1
        · (intro w' hSw; (try dsimp only at hSw); go_simp; try with_reducible rfl)
        try simp only [Act.put, p9a, p9z, p9s]
        refine k9 6 ?_ (y := ?_) (h := ?_)
        rotate_left 1
        · (intro w' hSw; (try dsimp only at hSw); go_simp; try with_reducible rfl)
        try simp only [Act.put, p9a, p9z, p9s]
        refine k9 7 ?_ (y := ?_) (h := ?_)
        rotate_left 1
        · (intro w' hSw; (try dsimp only at hSw); go_simp; try with_reducible rfl)
        try simp only [Act.put, p9a, p9z, p9s]
        refine k9 8 ?_ (y := ?_) (h := ?_)
        rotate_left 1
        · (intro w' hSw; (try dsimp only at hSw); go_simp; try with_reducible rfl)
        try simp only [Act.put, p9a, p9z, p9s]
        refine k9 9 ?_ (y := ?_) (h := ?_)
        rotate_left 1
        · (intro w' hSw; (try dsimp only at hSw); go_simp; try with_reducible rfl)
        try simp only [Act.put, p9a, p9z, p9s]
        refine k9 10 ?_ (y := ?_) (h := ?_)
        rotate_left 1
        · (intro w' hSw; (try dsimp only at hSw); go_simp; try with_reducible rfl)
        try simp only [Act.put, p9a, p9z, p9s]
        refine k9 11 ?_ (y := ?_) (h := ?_)
        rotate_left 1
        · (intro w' hSw; (try dsimp only at hSw); go_simp; try with_reducible rfl)
        try simp only [Act.put, p9a, p9z, p9s]
        refine k9 12 ?_ (y := ?_) (h := ?_)
        rotate_left 1
        · (intro w' hSw; (try dsimp only at hSw); go_simp; try with_reducible rfl)
        try simp only [Act.put, p9a, p9z, p9s]
        refine k9 13 ?_ (y := ?_) (h := ?_)
        rotate_left 1
        · (intro w' hSw; (try dsimp only at hSw); go_simp; try with_reducible rfl)
        try simp only [Act.put, p9a, p9z, p9s]
        refine k9 14 ?_ (y := ?_) (h := ?_)
        rotate_left 1
        · (intro w' hSw; (try dsimp only at hSw); go_simp; try with_reducible rfl)
        try simp only [Act.put, p9a, p9z, p9s]
        refine k9 15 ?_ (y := ?_) (h := ?_)
        rotate_left 1
        · (intro w' hSw; (try dsimp only at hSw); go_simp; try with_reducible rfl)
        try simp only [Act.put, p9a, p9z, p9s]
        refine k9 16 ?_ (y := ?_) (h := ?_)
        rotate_left 1
        · (intro w' hSw; (try dsimp only at hSw); go_simp; try with_reducible rfl)
        try simp only [Act.put, p9a, p9z, p9s]
        refine k9 17 ?_ (y := ?_) (h := ?_)
        rotate_left 1
        · (intro w' hSw; (try dsimp only at hSw); go_simp; try with_reducible rfl)
        try simp only [Act.put, p9a, p9z, p9s]
        refine k9 18 ?_ (y := ?_) (h := ?_)
        rotate_left 1
        · (intro w' hSw; (try dsimp only at hSw); go_simp; try with_reducible rfl)
        try simp only [Act.put, p9a, p9z, p9s]
        refine k9 19 ?_ (y := ?_) (h := ?_)
        rotate_left 1
        · (intro w' hSw; (try dsimp only at hSw); go_simp; try with_reducible rfl)
        try simp only [Act.put, p9a, p9z, p9s]
        refine k8 20 (h := ?_)
        try simp only [Act.put, p9a, p9z, p9s]
        refine k8 21 (h := ?_)
        try simp only [Act.put, p9a, p9z, p9s]
        refine k8 22 (h := ?_)
        try simp only [Act.put, p9a, p9z, p9s]
        refine k8 23 (h := ?_)
        try simp only [Act.put, p9a, p9z, p9s]
        refine k8 24 (h := ?_)
        try simp only [Act.put, p9a, p9z, p9s]
        refine k8 25 (h := ?_)
        try simp only [Act.put, p9a, p9z, p9s]
        refine k8 26 (h := ?_)
        try simp only [Act.put, p9a, p9z, p9s]
        refine k8 27 (h := ?_)
        try simp only [Act.put, p9a, p9z, p9s]
        refine k8 28 (h := ?_)
        try simp only [Act.put, p9a, p9z, p9s]
        refine k8 29 (h := ?_)
        try simp only [Act.put, p9a, p9z, p9s]
        refine k8 30 (h := ?_)
        try simp only [Act.put, p9a, p9z, p9s]
        refine k8 31 (h := ?_)
        try simp only [Act.put, p9a, p9z, p9s]
        refine k8 32 (h := ?_)
        try simp only [Act.put, p9a, p9z, p9s]
        refine k8 33 (h := ?_)
        try simp only [Act.put, p9a, p9z, p9s]
        refine k8 34 (h := ?_)
        try simp only [Act.put, p9a, p9z, p9s]
        refine k8 35 (h := ?_)
        try simp only [Act.put, p9a, p9z, p9s]
        refine k8 36 (h := ?_)
        try simp only [Act.put, p9a, p9z, p9s]
        refine k8 37 (h := ?_)
        try simp only [Act.put, p9a, p9z, p9s]
        refine k8 38 (h := ?_)
        try simp only [Act.put, p9a, p9z, p9s]
        refine k9 39 ?_ (y := ?_) (h := ?_)
        rotate_left 1
        · (intro w' hSw; (try dsimp only at hSw); go_simp; try with_reducible rfl)
        try simp only [Act.put, p9a, p9z, p9s]
        refine wpAnyH_done (by kernel_rfl) ?_ _
        refine NoPanic.normal ?_
        clear hHeld
        
        
        go_wp2_with fail
        go_ret
        exact ⟨rfl, HB.out.drew⟩
      have i2 : decide ((y : Int) < (x : Int)) = false := decide_eq_false (by omega)
      have i2' : decide (y < x) = false := decide_eq_false (by omega)
      by_cases hk0 : k = 0
      case pos =>
        rw [decide_eq_true ⟨by rw [hk0, HF0.out]; exact h1, h2⟩, Bool.true_and] at HQ1
        have i3 : decide ((0 : Int) < (k : Int)) = false := decide_eq_false (by omega)
        have i3' : decide (0 < k) = false := decide_eq_false (by omega)
        clear hc hbr h1 h2 hk0
        go_wp2_with fail
        refine wp_region_noPanic ?_
        refine wp_region_held_drew (S := (fun w' => w'.cell? ⟨b, off + k * 2, none⟩ = some (.int .u16 (x : Int)) ∧ w'.cell? ⟨b, off + k * 2 + 1, none⟩ = some (.int .u16 (y : Int)))) (by kernel_rfl) ?_ (fun hHeld => ?_)
        · exact ⟨hd0, hd1⟩
        refine k9 0 ?_ (y := ?_) (h := ?_)
        rotate_left 1
        · (intro w' hSw; (try dsimp only at hSw); go_simp; try with_reducible rfl)
        try simp only [Act.put, p9a, p9z, p9s]
        refine k9 1 ?_ (y := ?_) (h := ?_)
        rotate_left 1
        · (intro w' hSw; (try dsimp only at hSw); go_simp; try with_reducible rfl)
        try simp only [Act.put, p9a, p9z, p9s]
        refine k9 2 ?_ (y := ?_) (h := ?_)
        rotate_left 1
        · (intro w' hSw; (try dsimp only at hSw); go_simp; try with_reducible rfl)
        try simp only [Act.put, p9a, p9z, p9s]
        refine k9 3 ?_ (y := ?_) (h := ?_)
        rotate_left 1
        · (intro w' hSw; (try dsimp only at hSw); go_simp; try with_reducible rfl)
        try simp only [Act.put, p9a, p9z, p9s]
        refine k9 4 ?_ (y := ?_) (h := ?_)
        rotate_left 1
        · (intro w' hSw; (try dsimp only at hSw); go_simp; try with_reducible rfl)
        try simp only [Act.put, p9a, p9z, p9s]
        refine k9 5 ?_ (y := ?_) (h := ?_)
        rotate_left 1
        · (intro w' hSw; (try dsimp only at hSw); go_simp; try with_reducible rfl)
        try simp only [Act.put, p9a, p9z, p9s]
        refine k9 6 ?_ (y := ?_) (h := ?_)
        rotate_left 1
        · (intro w' hSw; (try dsimp only at hSw); go_simp; try with_reducible rfl)
        try simp only [Act.put, p9a, p9z, p9s]
        refine k9 7 ?_ (y := ?_) (h := ?_)
        rotate_left 1
        · (intro w' hSw; (try dsimp only at hSw); go_simp; try with_reducible rfl)
        try simp only [Act.put, p9a, p9z, p9s]
        refine k9 8 ?_ (y := ?_) (h := ?_)
        rotate_left 1
        · (intro w' hSw; (try dsimp only at hSw); go_simp; try with_reducible rfl)
        try simp only [Act.put, p9a, p9z, p9s]
        refine k9 9 ?_ (y := ?_) (h := ?_)
        rotate_left 1
        · (intro w' hSw; (try dsimp only at hSw); go_simp; try with_reducible rfl)
        try simp only [Act.put, p9a, p9z, p9s]
        refine k9 10 ?_ (y := ?_) (h := ?_)
        rotate_left 1
        · (intro w' hSw; (try dsimp only at hSw); go_simp; try with_reducible rfl)
        try simp only [Act.put, p9a, p9z, p9s]
        refine k9 11 ?_ (y := ?_) (h := ?_)
        rotate_left 1
        · (intro w' hSw; (try dsimp only at hSw); go_simp; try with_reducible rfl)
        try simp only [Act.put, p9a, p9z, p9s]
        refine k9 12 ?_ (y := ?_) (h := ?_)
        rotate_left 1
        · (intro w' hSw; (try dsimp only at hSw); go_simp; try with_reducible rfl)
        try simp only [Act.put, p9a, p9z, p9s]
        refine k9 13 ?_ (y := ?_) (h := ?_)
        rotate_left 1
        · (intro w' hSw; (try dsimp only at hSw); go_simp; try with_reducible rfl)
        try simp only [Act.put, p9a, p9z, p9s]
        refine k9 14 ?_ (y := ?_) (h := ?_)
        rotate_left 1
        · (intro w' hSw; (try dsimp only at hSw); go_simp; try with_reducible rfl)
        try simp only [Act.put, p9a, p9z, p9s]
        refine k9 15 ?_ (y := ?_) (h := ?_)
        rotate_left 1
        · (intro w' hSw; (try dsimp only at hSw); go_simp; try with_reducible rfl)
        try simp only [Act.put, p9a, p9z, p9s]
        refine k9 16 ?_ (y := ?_) (h := ?_)
        rotate_left 1
        · (intro w' hSw; (try dsimp only at hSw); go_simp; try with_reducible rfl)
        try simp only [Act.put, p9a, p9z, p9s]
        refine k9 17 ?_ (y := ?_) (h := ?_)
        rotate_left 1
        · (intro w' hSw; (try dsimp only at hSw); go_simp; try with_reducible rfl)
        try simp only [Act.put, p9a, p9z, p9s]
        refine k9 18 ?_ (y := ?_) (h := ?_)
        rotate_left 1
        · (intro w' hSw; (try dsimp only at hSw); go_simp; try with_reducible rfl)
        try simp only [Act.put, p9a, p9z, p9s]
        refine k9 19 ?_ (y := ?_) (h := ?_)
        rotate_left 1
        · (intro w' hSw; (try dsimp only at hSw); go_simp; try with_reducible rfl)
        try simp only [Act.put, p9a, p9z, p9s]
        refine k9 20 ?_ (y := ?_) (h := ?_)
        rotate_left 1
        · (intro w' hSw; (try dsimp only at hSw); go_simp; try with_reducible rfl)
        try simp only [Act.put, p9a, p9z, p9s]
        refine k9 21 ?_ (y := ?_) (h := ?_)
        rotate_left 1
        · (intro w' hSw; (try dsimp only at hSw); go_simp; try with_reducible rfl)
        try simp only [Act.put, p9a, p9z, p9s]
        refine k9 22 ?_ (y := ?_) (h := ?_)
        rotate_left 1
        · (intro w' hSw; (try dsimp only at hSw); go_simp; try with_reducible rfl)
        try simp only [Act.put, p9a, p9z, p9s]
        refine k8 23 (h := ?_)
        try simp only [Act.put, p9a, p9z, p9s]
        refine k8 24 (h := ?_)
        try simp only [Act.put, p9a, p9z, p9s]
        refine k8 25 (h := ?_)
        try simp only [Act.put, p9a, p9z, p9s]
        refine k8 26 (h := ?_)
        try simp only [Act.put, p9a, p9z, p9s]
        refine k8 27 (h := ?_)
        try simp only [Act.put, p9a, p9z, p9s]
        refine k8 28 (h := ?_)
        try simp only [Act.put, p9a, p9z, p9s]
        refine k8 29 (h := ?_)
        try simp only [Act.put, p9a, p9z, p9s]
        refine k8 30 (h := ?_)
        try simp only [Act.put, p9a, p9z, p9s]
        refine k8 31 (h := ?_)
        try simp only [Act.put, p9a, p9z, p9s]
        refine k8 32 (h := ?_)
        try simp only [Act.put, p9a, p9z, p9s]
        refine k8 33 (h := ?_)
        try simp only [Act.put, p9a, p9z, p9s]
        refine k8 34 (h := ?_)
        try simp only [Act.put, p9a, p9z, p9s]
        refine k8 35 (h := ?_)
        try simp only [Act.put, p9a, p9z, p9s]
        refine k8 36 (h := ?_)
        try simp only [Act.put, p9a, p9z, p9s]
        refine k8 37 (h := ?_)
        try simp only [Act.put, p9a, p9z, p9s]
        refine k9 38 ?_ (y := ?_) (h := ?_)
        rotate_left 1
        · (intro w' hSw; (try dsimp only at hSw); go_simp; try with_reducible rfl)
        try simp only [Act.put, p9a, p9z, p9s]
        refine k9 39 ?_ (y := ?_) (h := ?_)
        rotate_left 1
        · (intro w' hSw; (try dsimp only at hSw); go_simp; try with_reducible rfl)
        try simp only [Act.put, p9a, p9z, p9s]
        refine wpAnyH_done (by kernel_rfl) ?_ _
        refine NoPanic.normal ?_
        clear hHeld
        
        
        go_wp2_with fail
        go_roundw
        case rel => exact ⟨k + 1, by omega, by go_num, HQ1, HB.out.drew⟩
        case measure => simp [intOf]; omega
      case neg =>
        obtain ⟨j, hj⟩ : ∃ j, k = j + 1 := ⟨k - 1, by omega⟩
        have HFK := Lib.hid (show fromN l k = fromN l (j + 1) from by rw [hj])
        obtain ⟨hc0, hc1⟩ := hc j (by omega)
        have hd3 := (hbr.cell (p := ⟨b, off + j * 2 + 1, none⟩) hb).trans hc1
        have hp := HW.out j (by omega)
        have HN0 := Lib.hid (HFS.out j (by omega))
        generalize l[j] = z at *
        obtain ⟨z0, z⟩ := z
        dsimp only at hd3 hp HN0
        have hz := hp.2
        have i3 : decide ((0 : Int) < (k : Int)) = true := decide_eq_true (by omega)
        have i3' : decide (0 < k) = true := decide_eq_true (by omega)
        have q6 : (0 : Int) ≤ (j : Int) := by omega
        have q7 : (j : Int) < (l.length : Int) := by omega
        have i4 : IntKind.i64.wrap ((k : Int) - 1) = (j : Int) := by rw [IntKind.wrap_i64]; omega
        have i7 : IntKind.i64.wrap (z : Int) = (z : Int) := by rw [IntKind.wrap_i64]; omega
        have i8 : IntKind.i64.wrap (x : Int) = (x : Int) := by rw [IntKind.wrap_i64]; omega
        have i5 : IntKind.i64.wrap ((z : Int) + 2) = ((z + 2 : Nat) : Int) := by rw [IntKind.wrap_i64]; omega
        clear hc hbr h1 hc0 hc1 hp hk0 hj
        by_cases h3 : z + 2 ≤ x
        case neg =>
          rw [decide_eq_false (fun hh => h3 (by have := hh.1; rw [HFK.out, HN0.out] at this; exact this)), Bool.false_and] at HQ1
          obtain rfl := HQ1.out
          rw [Bool.false_and] at HG
          obtain rfl := HG.out
          have i6 : decide ((x : Int) < ((z + 2 : Nat) : Int)) = true := decide_eq_true (by omega)
          have i6' : decide (x < z + 2) = true := decide_eq_true (by omega)
          go_wp2_with fail
          refine wp_region_noPanic ?_
          refine wp_region_held_drew (S := (fun w' => w'.cell? ⟨b, off + k * 2, none⟩ = some (.int .u16 (x : Int)) ∧ w'.cell? ⟨b, off + k * 2 + 1, none⟩ = some (.int .u16 (y : Int)) ∧ w'.cell? ⟨b, off + j * 2 + 1, none⟩ = some (.int .u16 (z : Int)))) (by kernel_rfl) ?_ (fun hHeld => ?_)
          · exact ⟨hd0, hd1, hd3⟩
          refine k9 0 ?_ (y := ?_) (h := ?_)
          rotate_left 1
          · (intro w' hSw; (try dsimp only at hSw); go_simp; try with_reducible rfl)
          try simp only [Act.put, p9a, p9z, p9s]
          refine k9 1 ?_ (y := ?_) (h := ?_)
          rotate_left 1
          · (intro w' hSw; (try dsimp only at hSw); go_simp; try with_reducible rfl)
          try simp only [Act.put, p9a, p9z, p9s]
          refine k9 2 ?_ (y := ?_) (h := ?_)
          rotate_left 1
          · (intro w' hSw; (try dsimp only at hSw); go_simp; try with_reducible rfl)
          try simp only [Act.put, p9a, p9z, p9s]
          refine k9 3 ?_ (y := ?_) (h := ?_)
          rotate_left 1
          · (intro w' hSw; (try dsimp only at hSw); go_simp; try with_reducible rfl)
          try simp only [Act.put, p9a, p9z, p9s]
          refine k9 4 ?_ (y := ?_) (h := ?_)
          rotate_left 1
          · (intro w' hSw; (try dsimp only at hSw); go_simp; try with_reducible rfl)
          try simp only [Act.put, p9a, p9z, p9s]
          refine k9 5 ?_ (y := ?_) (h := ?_)
          rotate_left 1
          · (intro w' hSw; (try dsimp only at hSw); go_simp; try with_reducible rfl)
          try simp only [Act.put, p9a, p9z, p9s]
          refine k9 6 ?_ (y := ?_) (h := ?_)
          rotate_left 1
          · (intro w' hSw; (try dsimp only at hSw); go_simp; try with_reducible rfl)
          try simp only [Act.put, p9a, p9z, p9s]
          refine k9 7 ?_ (y := ?_) (h := ?_)
          rotate_left 1
          · (intro w' hSw; (try dsimp only at hSw); go_simp; try with_reducible rfl)
          try simp only [Act.put, p9a, p9z, p9s]
          refine k9 8 ?_ (y := ?_) (h := ?_)
          rotate_left 1
          · (intro w' hSw; (try dsimp only at hSw); go_simp; try with_reducible rfl)
          try simp only [Act.put, p9a, p9z, p9s]
          refine k9 9 ?_ (y := ?_) (h := ?_)
          rotate_left 1
          · (intro w' hSw; (try dsimp only at hSw); go_simp; try with_reducible rfl)
          try simp only [Act.put, p9a, p9z, p9s]
          refine k9 10 ?_ (y := ?_) (h := ?_)
          rotate_left 1
          · (intro w' hSw; (try dsimp only at hSw); go_simp; try with_reducible rfl)
          try simp only [Act.put, p9a, p9z, p9s]
          refine k9 11 ?_ (y := ?_) (h := ?_)
          rotate_left 1
          · (intro w' hSw; (try dsimp only at hSw); go_simp; try with_reducible rfl)
          try simp only [Act.put, p9a, p9z, p9s]
          refine k9 12 ?_ (y := ?_) (h := ?_)
          rotate_left 1
          · (intro w' hSw; (try dsimp only at hSw); go_simp; try with_reducible rfl)
          try simp only [Act.put, p9a, p9z, p9s]
          refine k9 13 ?_ (y := ?_) (h := ?_)
          rotate_left 1
          · (intro w' hSw; (try dsimp only at hSw); go_simp; try with_reducible rfl)
          try simp only [Act.put, p9a, p9z, p9s]
          refine k9 14 ?_ (y := ?_) (h := ?_)
          rotate_left 1
          · (intro w' hSw; (try dsimp only at hSw); go_simp; try with_reducible rfl)
          try simp only [Act.put, p9a, p9z, p9s]
          refine k9 15 ?_ (y := ?_) (h := ?_)
          rotate_left 1
          · (intro w' hSw; (try dsimp only at hSw); go_simp; try with_reducible rfl)
          try simp only [Act.put, p9a, p9z, p9s]
          refine k9 16 ?_ (y := ?_) (h := ?_)
          rotate_left 1
          · (intro w' hSw; (try dsimp only at hSw); go_simp; try with_reducible rfl)
          try simp only [Act.put, p9a, p9z, p9s]
          refine k9 17 ?_ (y := ?_) (h := ?_)
          rotate_left 1
          · (intro w' hSw; (try dsimp only at hSw); go_simp; try with_reducible rfl)
          try simp only [Act.put, p9a, p9z, p9s]
          refine k9 18 ?_ (y := ?_) (h := ?_)
          rotate_left 1
          · (intro w' hSw; (try dsimp only at hSw); go_simp; try with_reducible rfl)
          try simp only [Act.put, p9a, p9z, p9s]
          refine k9 19 ?_ (y := ?_) (h := ?_)
          rotate_left 1
          · (intro w' hSw; (try dsimp only at hSw); go_simp; try with_reducible rfl)
          try simp only [Act.put, p9a, p9z, p9s]
          refine k9 20 ?_ (y := ?_) (h := ?_)
          rotate_left 1
          · (intro w' hSw; (try dsimp only at hSw); go_simp; try with_reducible rfl)
          try simp only [Act.put, p9a, p9z, p9s]
          refine k9 21 ?_ (y := ?_) (h := ?_)
          rotate_left 1
          · (intro w' hSw; (try dsimp only at hSw); go_simp; try with_reducible rfl)
          try simp only [Act.put, p9a, p9z, p9s]
          refine k9 22 ?_ (y := ?_) (h := ?_)
          rotate_left 1
          · (intro w' hSw; (try dsimp only at hSw); go_simp; try with_reducible rfl)
          try simp only [Act.put, p9a, p9z, p9s]
          refine k9 23 ?_ (y := ?_) (h := ?_)
          rotate_left 1
          · (intro w' hSw; (try dsimp only at hSw); go_simp; try with_reducible rfl)
          try simp only [Act.put, p9a, p9z, p9s]
          refine k9 24 ?_ (y := ?_) (h := ?_)
          rotate_left 1
          · (intro w' hSw; (try dsimp only at hSw); go_simp; try with_reducible rfl)
          try simp only [Act.put, p9a, p9z, p9s]
          refine k9 25 ?_ (y := ?_) (h := ?_)
          rotate_left 1
          · (intro w' hSw; (try dsimp only at hSw); go_simp; try with_reducible rfl)
          try simp only [Act.put, p9a, p9z, p9s]
          refine k9 26 ?_ (y := ?_) (h := ?_)
          rotate_left 1
          · (intro w' hSw; (try dsimp only at hSw); go_simp; try with_reducible rfl)
          try simp only [Act.put, p9a, p9z, p9s]
          refine k9 27 ?_ (y := ?_) (h := ?_)
          rotate_left 1
          · (intro w' hSw; (try dsimp only at hSw); go_simp; try with_reducible rfl)
          try simp only [Act.put, p9a, p9z, p9s]
          refine k9 28 ?_ (y := ?_) (h := ?_)
          rotate_left 1
          · (intro w' hSw; (try dsimp only at hSw); go_simp; try with_reducible rfl)
          try simp only [Act.put, p9a, p9z, p9s]
          refine k9 29 ?_ (y := ?_) (h := ?_)
          rotate_left 1
          · (intro w' hSw; (try dsimp only at hSw); go_simp; try with_reducible rfl)
          try simp only [Act.put, p9a, p9z, p9s]
          refine k9 30 ?_ (y := ?_) (h := ?_)
          rotate_left 1
          · (intro w' hSw; (try dsimp only at hSw); go_simp; try with_reducible rfl)
          try simp only [Act.put, p9a, p9z, p9s]
          refine k9 31 ?_ (y := ?_) (h := ?_)
          rotate_left 1
          · (intro w' hSw; (try dsimp only at hSw); go_simp; try with_reducible rfl)
          try simp only [Act.put, p9a, p9z, p9s]
          refine k9 32 ?_ (y := ?_) (h := ?_)
          rotate_left 1
          · (intro w' hSw; (try dsimp only at hSw); go_simp; try with_reducible rfl)
          try simp only [Act.put, p9a, p9z, p9s]
          refine k9 33 ?_ (y := ?_) (h := ?_)
          rotate_left 1
          · (intro w' hSw; (try dsimp only at hSw); go_simp; try with_reducible rfl)
          try simp only [Act.put, p9a, p9z, p9s]
          refine k9 34 ?_ (y := ?_) (h := ?_)
          rotate_left 1
          · (intro w' hSw; (try dsimp only at hSw); go_simp; try with_reducible rfl)
          try simp only [Act.put, p9a, p9z, p9s]
          refine k9 35 ?_ (y := ?_) (h := ?_)
          rotate_left 1
          · (intro w' hSw; (try dsimp only at hSw); go_simp; try with_reducible rfl)
          try simp only [Act.put, p9a, p9z, p9s]
          refine k9 36 ?_ (y := ?_) (h := ?_)
          rotate_left 1
          · (intro w' hSw; (try dsimp only at hSw); go_simp; try with_reducible rfl)
          try simp only [Act.put, p9a, p9z, p9s]
          refine k9 37 ?_ (y := ?_) (h := ?_)
          rotate_left 1
          · (intro w' hSw; (try dsimp only at hSw); go_simp; try with_reducible rfl)
          try simp only [Act.put, p9a, p9z, p9s]
          refine k9 38 ?_ (y := ?_) (h := ?_)
          rotate_left 1
          · (intro w' hSw; (try dsimp only at hSw); go_simp; try with_reducible rfl)
          try simp only [Act.put, p9a, p9z, p9s]
          refine k9 39 ?_ (y := ?_) (h := ?_)
          rotate_left 1
          · (intro w' hSw; (try dsimp only at hSw); go_simp; try with_reducible rfl)
          try simp only [Act.put, p9a, p9z, p9s]
          refine wpAnyH_done (by kernel_rfl) ?_ _
          refine NoPanic.normal ?_
          clear hHeld
          
          
          go_wp2_with fail
          go_ret
          exact ⟨rfl, HB.out.drew⟩
        rw [decide_eq_true ⟨by rw [HFK.out, HN0.out]; exact h3, h2⟩, Bool.true_and] at HQ1
        have i6 : decide ((x : Int) < ((z + 2 : Nat) : Int)) = false := decide_eq_false (by omega)
        have i6' : decide (x < z + 2) = false := decide_eq_false (by omega)
        go_wp2_with fail
        refine wp_region_noPanic ?_
        refine wp_region_held_drew (S := (fun w' => w'.cell? ⟨b, off + k * 2, none⟩ = some (.int .u16 (x : Int)) ∧ w'.cell? ⟨b, off + k * 2 + 1, none⟩ = some (.int .u16 (y : Int)) ∧ w'.cell? ⟨b, off + j * 2 + 1, none⟩ = some (.int .u16 (z : Int)))) (by kernel_rfl) ?_ (fun hHeld => ?_)
        · exact ⟨hd0, hd1, hd3⟩
        refine k9 0 ?_ (y := ?_) (h := ?_)
        rotate_left 1
        · (intro w' hSw; (try dsimp only at hSw); go_simp; try with_reducible rfl)
        try simp only [Act.put, p9a, p9z, p9s]
        refine k9 1 ?_ (y := ?_) (h := ?_)
        rotate_left 1
        · (intro w' hSw; (try dsimp only at hSw); go_simp; try with_reducible rfl)
        try simp only [Act.put, p9a, p9z, p9s]
        refine k9 2 ?_ (y := ?_) (h := ?_)
        rotate_left 1
        · (intro w' hSw; (try dsimp only at hSw); go_simp; try with_reducible rfl)
        try simp only [Act.put, p9a, p9z, p9s]
        refine k9 3 ?_ (y := ?_) (h := ?_)
        rotate_left 1
        · (intro w' hSw; (try dsimp only at hSw); go_simp; try with_reducible rfl)
        try simp only [Act.put, p9a, p9z, p9s]
        refine k9 4 ?_ (y := ?_) (h := ?_)
        rotate_left 1
        · (intro w' hSw; (try dsimp only at hSw); go_simp; try with_reducible rfl)
        try simp only [Act.put, p9a, p9z, p9s]
        refine k9 5 ?_ (y := ?_) (h := ?_)
        rotate_left 1
        · (intro w' hSw; (try dsimp only at hSw); go_simp; try with_reducible rfl)
        try simp only [Act.put, p9a, p9z, p9s]
        refine k9 6 ?_ (y := ?_) (h := ?_)
        rotate_left 1
        · (intro w' hSw; (try dsimp only at hSw); go_simp; try with_reducible rfl)
        try simp only [Act.put, p9a, p9z, p9s]
        refine k9 7 ?_ (y := ?_) (h := ?_)
        rotate_left 1
        · (intro w' hSw; (try dsimp only at hSw); go_simp; try with_reducible rfl)
        try simp only [Act.put, p9a, p9z, p9s]
        refine k9 8 ?_ (y := ?_) (h := ?_)
        rotate_left 1
        · (intro w' hSw; (try dsimp only at hSw); go_simp; try with_reducible rfl)
        try simp only [Act.put, p9a, p9z, p9s]
        refine k9 9 ?_ (y := ?_) (h := ?_)
        rotate_left 1
        · (intro w' hSw; (try dsimp only at hSw); go_simp; try with_reducible rfl)
        try simp only [Act.put, p9a, p9z, p9s]
        refine k9 10 ?_ (y := ?_) (h := ?_)
        rotate_left 1
        · (intro w' hSw; (try dsimp only at hSw); go_simp; try with_reducible rfl)
        try simp only [Act.put, p9a, p9z, p9s]
        refine k9 11 ?_ (y := ?_) (h := ?_)
        rotate_left 1
        · (intro w' hSw; (try dsimp only at hSw); go_simp; try with_reducible rfl)
        try simp only [Act.put, p9a, p9z, p9s]
        refine k9 12 ?_ (y := ?_) (h := ?_)
        rotate_left 1
        · (intro w' hSw; (try dsimp only at hSw); go_simp; try with_reducible rfl)
        try simp only [Act.put, p9a, p9z, p9s]
        refine k9 13 ?_ (y := ?_) (h := ?_)
        rotate_left 1
        · (intro w' hSw; (try dsimp only at hSw); go_simp; try with_reducible rfl)
        try simp only [Act.put, p9a, p9z, p9s]
        refine k9 14 ?_ (y := ?_) (h := ?_)
        rotate_left 1
        · (intro w' hSw; (try dsimp only at hSw); go_simp; try with_reducible rfl)
        try simp only [Act.put, p9a, p9z, p9s]
        refine k9 15 ?_ (y := ?_) (h := ?_)
        rotate_left 1
        · (intro w' hSw; (try dsimp only at hSw); go_simp; try with_reducible rfl)
        try simp only [Act.put, p9a, p9z, p9s]
        refine k9 16 ?_ (y := ?_) (h := ?_)
        rotate_left 1
        · (intro w' hSw; (try dsimp only at hSw); go_simp; try with_reducible rfl)
        try simp only [Act.put, p9a, p9z, p9s]
        refine k9 17 ?_ (y := ?_) (h := ?_)
        rotate_left 1
        · (intro w' hSw; (try dsimp only at hSw); go_simp; try with_reducible rfl)
        try simp only [Act.put, p9a, p9z, p9s]
        refine k9 18 ?_ (y := ?_) (h := ?_)
        rotate_left 1
        · (intro w' hSw; (try dsimp only at hSw); go_simp; try with_reducible rfl)
        try simp only [Act.put, p9a, p9z, p9s]
        refine k9 19 ?_ (y := ?_) (h := ?_)
        rotate_left 1
        · (intro w' hSw; (try dsimp only at hSw); go_simp; try with_reducible rfl)
        try simp only [Act.put, p9a, p9z, p9s]
        refine k9 20 ?_ (y := ?_) (h := ?_)
        rotate_left 1
        · (intro w' hSw; (try dsimp only at hSw); go_simp; try with_reducible rfl)
        try simp only [Act.put, p9a, p9z, p9s]
        refine k9 21 ?_ (y := ?_) (h := ?_)
        rotate_left 1
        · (intro w' hSw; (try dsimp only at hSw); go_simp; try with_reducible rfl)
        try simp only [Act.put, p9a, p9z, p9s]
        refine k9 22 ?_ (y := ?_) (h := ?_)
        rotate_left 1
        · (intro w' hSw; (try dsimp only at hSw); go_simp; try with_reducible rfl)
        try simp only [Act.put, p9a, p9z, p9s]
        refine k9 23 ?_ (y := ?_) (h := ?_)
        rotate_left 1
        · (intro w' hSw; (try dsimp only at hSw); go_simp; try with_reducible rfl)
        try simp only [Act.put, p9a, p9z, p9s]
        refine k9 24 ?_ (y := ?_) (h := ?_)
        rotate_left 1
        · (intro w' hSw; (try dsimp only at hSw); go_simp; try with_reducible rfl)
        try simp only [Act.put, p9a, p9z, p9s]
        refine k9 25 ?_ (y := ?_) (h := ?_)
        rotate_left 1
        · (intro w' hSw; (try dsimp only at hSw); go_simp; try with_reducible rfl)
        try simp only [Act.put, p9a, p9z, p9s]
        refine k9 26 ?_ (y := ?_) (h := ?_)
        rotate_left 1
        · (intro w' hSw; (try dsimp only at hSw); go_simp; try with_reducible rfl)
        try simp only [Act.put, p9a, p9z, p9s]
        refine k9 27 ?_ (y := ?_) (h := ?_)
        rotate_left 1
        · (intro w' hSw; (try dsimp only at hSw); go_simp; try with_reducible rfl)
        try simp only [Act.put, p9a, p9z, p9s]
        refine k9 28 ?_ (y := ?_) (h := ?_)
        rotate_left 1
        · (intro w' hSw; (try dsimp only at hSw); go_simp; try with_reducible rfl)
        try simp only [Act.put, p9a, p9z, p9s]
        refine k9 29 ?_ (y := ?_) (h := ?_)
        rotate_left 1
        · (intro w' hSw; (try dsimp only at hSw); go_simp; try with_reducible rfl)
        try simp only [Act.put, p9a, p9z, p9s]
        refine k9 30 ?_ (y := ?_) (h := ?_)
        rotate_left 1
        · (intro w' hSw; (try dsimp only at hSw); go_simp; try with_reducible rfl)
        try simp only [Act.put, p9a, p9z, p9s]
        refine k9 31 ?_ (y := ?_) (h := ?_)
        rotate_left 1
        · (intro w' hSw; (try dsimp only at hSw); go_simp; try with_reducible rfl)
        try simp only [Act.put, p9a, p9z, p9s]
        refine k9 32 ?_ (y := ?_) (h := ?_)
        rotate_left 1
        · (intro w' hSw; (try dsimp only at hSw); go_simp; try with_reducible rfl)
        try simp only [Act.put, p9a, p9z, p9s]
        refine k9 33 ?_ (y := ?_) (h := ?_)
        rotate_left 1
        · (intro w' hSw; (try dsimp only at hSw); go_simp; try with_reducible rfl)
        try simp only [Act.put, p9a, p9z, p9s]
        refine k9 34 ?_ (y := ?_) (h := ?_)
        rotate_left 1
        · (intro w' hSw; (try dsimp only at hSw); go_simp; try with_reducible rfl)
        try simp only [Act.put, p9a, p9z, p9s]
        refine k9 35 ?_ (y := ?_) (h := ?_)
        rotate_left 1
        · (intro w' hSw; (try dsimp only at hSw); go_simp; try with_reducible rfl)
        try simp only [Act.put, p9a, p9z, p9s]
        refine k9 36 ?_ (y := ?_) (h := ?_)
        rotate_left 1
        · (intro w' hSw; (try dsimp only at hSw); go_simp; try with_reducible rfl)
        try simp only [Act.put, p9a, p9z, p9s]
        refine k9 37 ?_ (y := ?_) (h := ?_)
        rotate_left 1
        · (intro w' hSw; (try dsimp only at hSw); go_simp; try with_reducible rfl)
        try simp only [Act.put, p9a, p9z, p9s]
        refine k9 38 ?_ (y := ?_) (h := ?_)
        rotate_left 1
        · (intro w' hSw; (try dsimp only at hSw); go_simp; try with_reducible rfl)
        try simp only [Act.put, p9a, p9z, p9s]
        refine k9 39 ?_ (y := ?_) (h := ?_)
        rotate_left 1
        · (intro w' hSw; (try dsimp only at hSw); go_simp; try with_reducible rfl)
        try simp only [Act.put, p9a, p9z, p9s]
        refine wpAnyH_done (by kernel_rfl) ?_ _
        refine NoPanic.normal ?_
        clear hHeld
        
        
        go_wp2_with fail
        go_roundw
        case rel => exact ⟨k + 1, by omega, by go_num, HQ1, HB.out.drew⟩
        case measure => simp [intOf]; omega
    · obtain rfl : k = l.length := by omega
      rw [HE.out] at HQ
      obtain rfl := HQ.out
      rw [Bool.true_and] at HG
      by_cases h100 : l.length ≤ 100
      · rw [decide_eq_true h100] at HG
        obtain rfl := HG.out
        have i1 : (l.length : Int) ≤ 100 := by omega
        go_wp2_with fail
        go_ret
        exact ⟨rfl, hbr⟩
      · rw [decide_eq_false h100] at HG
        obtain rfl := HG.out
        have i1 : ¬ (l.length : Int) ≤ 100 := by omega
        go_wp2_with fail
        go_ret
        exact ⟨rfl, hbr⟩
end Go.Proofs.YtlbaockipeojhaaGreat
end
section
namespace Go.Proofs.YtlbaockipeojhaaGreat
open Go.RowKit
set_option linter.unusedVariables false
set_option linter.unusedSimpArgs false
set_option maxRecDepth 100000

set_option maxHeartbeats 8000000 in
theorem rfits_any (c : Ck) (hw : WfC c) (hl : c.gaps.length ≤ 100000) (g d it : Value) (w : World) (hp : Parts w c g d it) :
    Calls Tryz.prog 86 #[.agg (cellsC c g d it)] w fun e w' => e = .returned (.bool (fitsB c)) ∧ Below w.heap.size w w' := by
  have HB := Lib.hid ((Below.refl w.heap.size w).alloc (Nat.le_refl _) (.cells (cellsC c g d it) 74))
  have HG := Lib.hid (rgaps_any c.gaps hl hw.gaps g _ (hp.gaps.below HB.out))
  obtain ⟨⟨A1, k1, rfl⟩, ⟨A2, k2, rfl⟩, ⟨A3, k3, rfl⟩⟩ := hp.slices
  obtain ⟨A, k, he, hcap, hmax, hcells⟩ := hp.items
  cases he
  have HI := Lib.hid hcells
  obtain ⟨ty, fl, tsn, tag, win, ppid, st, ssn, outs, ins, gaps, dups, items, text⟩ := c
  dsimp only [cellsC] at *
  clear hp hw hl hcells
  by_cases t0 : ty = 0
  · subst t0
    clear HG HI
    rw [show fitsB ⟨0, fl, tsn, tag, win, ppid, st, ssn, outs, ins, gaps, dups, items, text⟩ = (decide (0 ≤ fl) && decide (fl ≤ 7) && decide (1 ≤ text.size) && decide (text.size ≤ 1000)) from rfl]
    by_cases h0 : 0 ≤ fl
    case neg =>
      have i0 : ¬ 0 ≤ fl := by omega
      rw [decide_eq_false h0]
      try simp only [Bool.false_and, Bool.and_false]
      clear h0
      go_enter Tryz.func86, Tryz.ntmps86
      go_wp2_with fail
      go_ret
      exact ⟨rfl, HB.out⟩
    have i0 : 0 ≤ fl := by omega
    by_cases h1 : fl ≤ 7
    case neg =>
      have i1 : ¬ fl ≤ 7 := by omega
      rw [decide_eq_false h1]
      try simp only [Bool.false_and, Bool.and_false]
      clear h0 h1
      go_enter Tryz.func86, Tryz.ntmps86
      go_wp2_with fail
      go_ret
      exact ⟨rfl, HB.out⟩
    have i1 : fl ≤ 7 := by omega
    by_cases h2 : 1 ≤ text.size
    case neg =>
      have i2 : ¬ (1 : Int) ≤ (text.size : Int) := by omega
      rw [decide_eq_false h2]
      try simp only [Bool.false_and, Bool.and_false]
      clear h0 h1 h2
      go_enter Tryz.func86, Tryz.ntmps86
      go_wp2_with fail
      go_ret
      exact ⟨rfl, HB.out⟩
    have i2 : (1 : Int) ≤ (text.size : Int) := by omega
    by_cases h3 : text.size ≤ 1000
    case neg =>
      have i3 : ¬ (text.size : Int) ≤ 1000 := by omega
      rw [decide_eq_false h3]
      try simp only [Bool.false_and, Bool.and_false]
      clear h0 h1 h2 h3
      go_enter Tryz.func86, Tryz.ntmps86
      go_wp2_with fail
      go_ret
      exact ⟨rfl, HB.out⟩
    have i3 : (text.size : Int) ≤ 1000 := by omega
    rw [decide_eq_true h0, decide_eq_true h1, decide_eq_true h2, decide_eq_true h3]
    clear h0 h1 h2 h3
    go_enter Tryz.func86, Tryz.ntmps86
    go_wp2_with fail
    go_ret
    exact ⟨rfl, HB.out⟩
  by_cases t1 : ty = 1
  · subst t1
    clear HG HI
    rw [show fitsB ⟨1, fl, tsn, tag, win, ppid, st, ssn, outs, ins, gaps, dups, items, text⟩ = (decide (tag ≠ 0) && decide (outs ≠ 0) && decide (ins ≠ 0)) from rfl]
    by_cases h0 : tag = 0
    · subst h0
      simp only [ne_eq, not_true_eq_false, decide_false, Bool.false_and, Bool.and_false]
      go_enter Tryz.func86, Tryz.ntmps86
      go_wp2_with fail
      go_ret
      exact ⟨rfl, HB.out⟩
    have j0 : ((tag : Int) != 0) = true := bne_iff_ne.2 (by omega)
    by_cases h1 : outs = 0
    · subst h1
      simp only [ne_eq, not_true_eq_false, decide_false, Bool.false_and, Bool.and_false]
      go_enter Tryz.func86, Tryz.ntmps86
      go_wp2_with fail
      go_ret
      exact ⟨rfl, HB.out⟩
    have j1 : ((outs : Int) != 0) = true := bne_iff_ne.2 (by omega)
    by_cases h2 : ins = 0
    · subst h2
      simp only [ne_eq, not_true_eq_false, decide_false, Bool.false_and, Bool.and_false]
      go_enter Tryz.func86, Tryz.ntmps86
      go_wp2_with fail
      go_ret
      exact ⟨rfl, HB.out⟩
    have j2 : ((ins : Int) != 0) = true := bne_iff_ne.2 (by omega)
    rw [decide_eq_true h0, decide_eq_true h1, decide_eq_true h2]
    clear h0 h1 h2
    go_enter Tryz.func86, Tryz.ntmps86
    go_wp2_with fail
    go_ret
    exact ⟨rfl, HB.out⟩
  by_cases t2 : ty = 2
  · subst t2
    clear HG HI
    rw [show fitsB ⟨2, fl, tsn, tag, win, ppid, st, ssn, outs, ins, gaps, dups, items, text⟩ = (decide (tag ≠ 0) && decide (outs ≠ 0) && decide (ins ≠ 0)) from rfl]
    by_cases h0 : tag = 0
    · subst h0
      simp only [ne_eq, not_true_eq_false, decide_false, Bool.false_and, Bool.and_false]
      go_enter Tryz.func86, Tryz.ntmps86
      go_wp2_with fail
      go_ret
      exact ⟨rfl, HB.out⟩
    have j0 : ((tag : Int) != 0) = true := bne_iff_ne.2 (by omega)
    by_cases h1 : outs = 0
    · subst h1
      simp only [ne_eq, not_true_eq_false, decide_false, Bool.false_and, Bool.and_false]
      go_enter Tryz.func86, Tryz.ntmps86
      go_wp2_with fail
      go_ret
      exact ⟨rfl, HB.out⟩
    have j1 : ((outs : Int) != 0) = true := bne_iff_ne.2 (by omega)
    by_cases h2 : ins = 0
    · subst h2
      simp only [ne_eq, not_true_eq_false, decide_false, Bool.false_and, Bool.and_false]
      go_enter Tryz.func86, Tryz.ntmps86
      go_wp2_with fail
      go_ret
      exact ⟨rfl, HB.out⟩
    have j2 : ((ins : Int) != 0) = true := bne_iff_ne.2 (by omega)
    rw [decide_eq_true h0, decide_eq_true h1, decide_eq_true h2]
    clear h0 h1 h2
    go_enter Tryz.func86, Tryz.ntmps86
    go_wp2_with fail
    go_ret
    exact ⟨rfl, HB.out⟩
  by_cases t3 : ty = 3
  · subst t3
    clear HI
    rw [show fitsB ⟨3, fl, tsn, tag, win, ppid, st, ssn, outs, ins, gaps, dups, items, text⟩ = (gapsB gaps && decide (dups.length ≤ 100)) from rfl]
    generalize gapsB gaps = q at *
    have call : ∀ r, (q = true → decide ((dups.length : Int) ≤ 100) = r) → (q = false → r = false) → (q && decide (dups.length ≤ 100)) = r → Calls Tryz.prog 86 #[.agg #[.int .i64 3, .int .i64 fl, .int .u32 (tsn : Int), .int .u32 (tag : Int), .int .u32 (win : Int), .int .u32 (ppid : Int), .int .u16 (st : Int), .int .u16 (ssn : Int), .int .u16 (outs : Int), .int .u16 (ins : Int), .slice A1 gaps.length k1, .slice A2 dups.length k2, .slice A3 items.length k3, .string text]] w fun e w' => e = .returned (.bool r) ∧ Below w.heap.size w w' := by
      intro r hq1 hq2 hr
      clear hr
      cases q with
      | true =>
        have i0 := hq1 rfl
        clear hq1 hq2
        subst i0
        go_enter Tryz.func86, Tryz.ntmps86
        go_wp2_with fail
        refine HG.out.mono ?_
        rintro e w1 ⟨rfl, hb1⟩
        have HX := Lib.hid ((hb1.block _ (by rw [World.size_alloc]; omega)).trans (heap_alloc_new w (.cells #[.int .i64 3, .int .i64 fl, .int .u32 (tsn : Int), .int .u32 (tag : Int), .int .u32 (win : Int), .int .u32 (ppid : Int), .int .u16 (st : Int), .int .u16 (ssn : Int), .int .u16 (outs : Int), .int .u16 (ins : Int), .slice A1 gaps.length k1, .slice A2 dups.length k2, .slice A3 items.length k3, .string text] 74)))
        have hx11 : w1.cell? ⟨w.heap.size, 11, none⟩ = some (.slice A2 dups.length k2) := by rw [cell_in HX.out]; rfl
        replace HB := Lib.hid (HB.out.trans (hb1.mono HB.out.size))
        clear hb1
        go_wp2_with fail
        go_ret
        exact ⟨rfl, HB.out⟩
      | false =>
        obtain rfl := hq2 rfl
        clear hq1 hq2
        go_enter Tryz.func86, Tryz.ntmps86
        go_wp2_with fail
        refine HG.out.mono ?_
        rintro e w1 ⟨rfl, hb1⟩
        replace HB := Lib.hid (HB.out.trans (hb1.mono HB.out.size))
        clear hb1
        go_wp2_with fail
        go_ret
        exact ⟨rfl, HB.out⟩
    refine call _ (fun hq => ?_) (fun hq => by rw [hq]; rfl) rfl
    rw [hq, Bool.true_and]
    by_cases h : dups.length ≤ 100
    · rw [decide_eq_true h, decide_eq_true (by omega)]
    · rw [decide_eq_false h, decide_eq_false (by omega)]
  by_cases t4 : ty = 4
  · subst t4
    clear HG
    rw [show fitsB ⟨4, fl, tsn, tag, win, ppid, st, ssn, outs, ins, gaps, dups, items, text⟩ = (decide (items.length = 1) && decide (firstType items = 1)) from rfl]
    by_cases h0 : items.length = 1
    case neg =>
      have i0 : ¬ (items.length : Int) = 1 := by omega
      rw [decide_eq_false h0]
      simp only [Bool.false_and]
      clear h0 HI
      go_enter Tryz.func86, Tryz.ntmps86
      go_wp2_with fail
      go_ret
      exact ⟨rfl, HB.out⟩
    obtain ⟨b, off, rfl, hb, hc⟩ := HI.out (by omega)
    have hc0 := (hc 0 (by omega)).1
    have e1 : items[0].1 = firstType items := by
      cases items with
      | nil => cases h0
      | cons x l => rfl
    rw [e1] at hc0
    have i0 : (items.length : Int) = 1 := by omega
    have hd0 := (HB.out.cell (p := ⟨b, off + 0 * 2, none⟩) hb).trans hc0
    rw [Nat.zero_mul, Nat.add_zero] at hd0
    rw [decide_eq_true h0]
    generalize firstType items = y at *
    clear HI hc hc0 e1 h0
    by_cases h1 : y = 1
    · subst h1
      rw [decide_eq_true rfl]
      go_enter Tryz.func86, Tryz.ntmps86
      go_wp2_with fail
      go_ret
      exact ⟨rfl, HB.out⟩
    · rw [decide_eq_false h1]
      have j1 : (y == 1) = false := beq_eq_false_iff_ne.2 h1
      go_enter Tryz.func86, Tryz.ntmps86
      go_wp2_with fail
      go_ret
      exact ⟨rfl, HB.out⟩
  by_cases t5 : ty = 5
  · subst t5
    clear HG
    rw [show fitsB ⟨5, fl, tsn, tag, win, ppid, st, ssn, outs, ins, gaps, dups, items, text⟩ = (decide (items.length = 1) && decide (firstType items = 1)) from rfl]
    by_cases h0 : items.length = 1
    case neg =>
      have i0 : ¬ (items.length : Int) = 1 := by omega
      rw [decide_eq_false h0]
      simp only [Bool.false_and]
      clear h0 HI
      go_enter Tryz.func86, Tryz.ntmps86
      go_wp2_with fail
      go_ret
      exact ⟨rfl, HB.out⟩
    obtain ⟨b, off, rfl, hb, hc⟩ := HI.out (by omega)
    have hc0 := (hc 0 (by omega)).1
    have e1 : items[0].1 = firstType items := by
      cases items with
      | nil => cases h0
      | cons x l => rfl
    rw [e1] at hc0
    have i0 : (items.length : Int) = 1 := by omega
    have hd0 := (HB.out.cell (p := ⟨b, off + 0 * 2, none⟩) hb).trans hc0
    rw [Nat.zero_mul, Nat.add_zero] at hd0
    rw [decide_eq_true h0]
    generalize firstType items = y at *
    clear HI hc hc0 e1 h0
    by_cases h1 : y = 1
    · subst h1
      rw [decide_eq_true rfl]
      go_enter Tryz.func86, Tryz.ntmps86
      go_wp2_with fail
      go_ret
      exact ⟨rfl, HB.out⟩
    · rw [decide_eq_false h1]
      have j1 : (y == 1) = false := beq_eq_false_iff_ne.2 h1
      go_enter Tryz.func86, Tryz.ntmps86
      go_wp2_with fail
      go_ret
      exact ⟨rfl, HB.out⟩
  by_cases t9 : ty = 9
  · subst t9
    clear HG HI
    rw [show fitsB ⟨9, fl, tsn, tag, win, ppid, st, ssn, outs, ins, gaps, dups, items, text⟩ = (decide (1 ≤ items.length)) from rfl]
    by_cases h0 : 1 ≤ items.length
    case neg =>
      have i0 : ¬ (1 : Int) ≤ (items.length : Int) := by omega
      rw [decide_eq_false h0]
      try simp only [Bool.false_and, Bool.and_false]
      clear h0
      go_enter Tryz.func86, Tryz.ntmps86
      go_wp2_with fail
      go_ret
      exact ⟨rfl, HB.out⟩
    have i0 : (1 : Int) ≤ (items.length : Int) := by omega
    rw [decide_eq_true h0]
    clear h0
    go_enter Tryz.func86, Tryz.ntmps86
    go_wp2_with fail
    go_ret
    exact ⟨rfl, HB.out⟩
  by_cases t6 : ty = 6
  · subst t6
    clear HG HI
    rw [show fitsB ⟨6, fl, tsn, tag, win, ppid, st, ssn, outs, ins, gaps, dups, items, text⟩ = (decide (fl = 0) || decide (fl = 1)) from rfl]
    by_cases h0 : fl = 0
    · subst h0
      simp only [decide_true, Bool.true_or]
      go_enter Tryz.func86, Tryz.ntmps86
      go_wp2_with fail
      go_ret
      exact ⟨rfl, HB.out⟩
    rw [decide_eq_false h0, Bool.false_or]
    by_cases h1 : fl = 1
    · subst h1
      rw [decide_eq_true rfl]
      go_enter Tryz.func86, Tryz.ntmps86
      go_wp2_with fail
      go_ret
      exact ⟨rfl, HB.out⟩
    · rw [decide_eq_false h1]
      have j0 : (fl == 0) = false := beq_eq_false_iff_ne.2 h0
      have j1 : (fl == 1) = false := beq_eq_false_iff_ne.2 h1
      go_enter Tryz.func86, Tryz.ntmps86
      go_wp2_with fail
      go_ret
      exact ⟨rfl, HB.out⟩
  by_cases t7 : ty = 7
  · subst t7
    clear HG HI
    rw [show fitsB ⟨7, fl, tsn, tag, win, ppid, st, ssn, outs, ins, gaps, dups, items, text⟩ = true from rfl]
    go_enter Tryz.func86, Tryz.ntmps86
    go_wp2_with fail
    go_ret
    exact ⟨rfl, HB.out⟩
  by_cases t8 : ty = 8
  · subst t8
    clear HG HI
    rw [show fitsB ⟨8, fl, tsn, tag, win, ppid, st, ssn, outs, ins, gaps, dups, items, text⟩ = true from rfl]
    go_enter Tryz.func86, Tryz.ntmps86
    go_wp2_with fail
    go_ret
    exact ⟨rfl, HB.out⟩
  by_cases t11 : ty = 11
  · subst t11
    clear HG HI
    rw [show fitsB ⟨11, fl, tsn, tag, win, ppid, st, ssn, outs, ins, gaps, dups, items, text⟩ = true from rfl]
    go_enter Tryz.func86, Tryz.ntmps86
    go_wp2_with fail
    go_ret
    exact ⟨rfl, HB.out⟩
  by_cases t10 : ty = 10
  · subst t10
    clear HG HI
    rw [show fitsB ⟨10, fl, tsn, tag, win, ppid, st, ssn, outs, ins, gaps, dups, items, text⟩ = (decide (1 ≤ text.size) && decide (text.size ≤ 1000)) from rfl]
    by_cases h0 : 1 ≤ text.size
    case neg =>
      have i0 : ¬ (1 : Int) ≤ (text.size : Int) := by omega
      rw [decide_eq_false h0]
      try simp only [Bool.false_and, Bool.and_false]
      clear h0
      go_enter Tryz.func86, Tryz.ntmps86
      go_wp2_with fail
      go_ret
      exact ⟨rfl, HB.out⟩
    have i0 : (1 : Int) ≤ (text.size : Int) := by omega
    by_cases h1 : text.size ≤ 1000
    case neg =>
      have i1 : ¬ (text.size : Int) ≤ 1000 := by omega
      rw [decide_eq_false h1]
      try simp only [Bool.false_and, Bool.and_false]
      clear h0 h1
      go_enter Tryz.func86, Tryz.ntmps86
      go_wp2_with fail
      go_ret
      exact ⟨rfl, HB.out⟩
    have i1 : (text.size : Int) ≤ 1000 := by omega
    rw [decide_eq_true h0, decide_eq_true h1]
    clear h0 h1
    go_enter Tryz.func86, Tryz.ntmps86
    go_wp2_with fail
    go_ret
    exact ⟨rfl, HB.out⟩
  by_cases t14 : ty = 14
  · subst t14
    clear HG HI
    rw [show fitsB ⟨14, fl, tsn, tag, win, ppid, st, ssn, outs, ins, gaps, dups, items, text⟩ = (decide (fl = 0) || decide (fl = 1)) from rfl]
    by_cases h0 : fl = 0
    · subst h0
      simp only [decide_true, Bool.true_or]
      go_enter Tryz.func86, Tryz.ntmps86
      go_wp2_with fail
      go_ret
      exact ⟨rfl, HB.out⟩
    rw [decide_eq_false h0, Bool.false_or]
    by_cases h1 : fl = 1
    · subst h1
      rw [decide_eq_true rfl]
      go_enter Tryz.func86, Tryz.ntmps86
      go_wp2_with fail
      go_ret
      exact ⟨rfl, HB.out⟩
    · rw [decide_eq_false h1]
      have j0 : (fl == 0) = false := beq_eq_false_iff_ne.2 h0
      have j1 : (fl == 1) = false := beq_eq_false_iff_ne.2 h1
      go_enter Tryz.func86, Tryz.ntmps86
      go_wp2_with fail
      go_ret
      exact ⟨rfl, HB.out⟩
  clear HG HI
  rw [show fitsB ⟨ty, fl, tsn, tag, win, ppid, st, ssn, outs, ins, gaps, dups, items, text⟩ = (decide (0 ≤ ty) && decide (ty ≤ 255) && decide (0 ≤ fl) && decide (fl ≤ 255) && decide (text.size ≤ 1000)) from by simp only [fitsB, t0, t1, t2, t3, t4, t5, t9, t6, t7, t8, t11, t10, t14, if_false, or_self]]
  by_cases h0 : 0 ≤ ty
  case neg =>
    have i0 : ¬ 0 ≤ ty := by omega
    rw [decide_eq_false h0]
    try simp only [Bool.false_and, Bool.and_false]
    clear h0
    go_enter Tryz.func86, Tryz.ntmps86
    go_wp2_with fail
    go_ret
    exact ⟨rfl, HB.out⟩
  have i0 : 0 ≤ ty := by omega
  by_cases h1 : ty ≤ 255
  case neg =>
    have i1 : ¬ ty ≤ 255 := by omega
    rw [decide_eq_false h1]
    try simp only [Bool.false_and, Bool.and_false]
    clear h0 h1
    go_enter Tryz.func86, Tryz.ntmps86
    go_wp2_with fail
    go_ret
    exact ⟨rfl, HB.out⟩
  have i1 : ty ≤ 255 := by omega
  by_cases h2 : 0 ≤ fl
  case neg =>
    have i2 : ¬ 0 ≤ fl := by omega
    rw [decide_eq_false h2]
    try simp only [Bool.false_and, Bool.and_false]
    clear h0 h1 h2
    go_enter Tryz.func86, Tryz.ntmps86
    go_wp2_with fail
    go_ret
    exact ⟨rfl, HB.out⟩
  have i2 : 0 ≤ fl := by omega
  by_cases h3 : fl ≤ 255
  case neg =>
    have i3 : ¬ fl ≤ 255 := by omega
    rw [decide_eq_false h3]
    try simp only [Bool.false_and, Bool.and_false]
    clear h0 h1 h2 h3
    go_enter Tryz.func86, Tryz.ntmps86
    go_wp2_with fail
    go_ret
    exact ⟨rfl, HB.out⟩
  have i3 : fl ≤ 255 := by omega
  by_cases h4 : text.size ≤ 1000
  case neg =>
    have i4 : ¬ (text.size : Int) ≤ 1000 := by omega
    rw [decide_eq_false h4]
    try simp only [Bool.false_and, Bool.and_false]
    clear h0 h1 h2 h3 h4
    go_enter Tryz.func86, Tryz.ntmps86
    go_wp2_with fail
    go_ret
    exact ⟨rfl, HB.out⟩
  have i4 : (text.size : Int) ≤ 1000 := by omega
  rw [decide_eq_true h0, decide_eq_true h1, decide_eq_true h2, decide_eq_true h3, decide_eq_true h4]
  clear h0 h1 h2 h3 h4
  go_enter Tryz.func86, Tryz.ntmps86
  go_wp2_with fail
  go_ret
  exact ⟨rfl, HB.out⟩
end Go.Proofs.YtlbaockipeojhaaGreat
end
