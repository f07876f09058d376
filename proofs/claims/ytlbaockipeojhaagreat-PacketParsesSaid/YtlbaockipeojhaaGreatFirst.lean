/-
  Package tlv: the item that stands ahead of all else: its contract, whatever text. The places at which a row's items begin, one behind the other, and what is told of them: plain facts. Package tlv: a row gone over item by item, by a function: its contract, for whatever loop.
-/
import Derived.Test.YtlbaockipeojhaaGreatRow
import Derived.Laws.ResultCell
import Derived.Laws.Rows
import Derived.RangeFuncNested
import Derived.RangeFuncBound
import Derived.RangeFuncCalls
import Derived.RangeFuncLeaves
import Derived.RangeFuncBox
import Derived.Shelf.Abstract
import Derived.Shelf.RegionOpen
import Derived.WalkKit
import Derived.OwnWalkIn
import Derived.TacticsInMore
import Derived.LoopNIn
import Derived.LoopIn
import Derived.Maps.AppendAt
section
namespace Go.Proofs.YtlbaockipeojhaaGreat
open Go.RowKit
set_option linter.unusedVariables false

/-- What stands for noughts behind so many bytes. -/
def tailB (s : ByteArray) (n : Nat) : ByteArray := s.extract n (min (n + padN n) s.size)
theorem tailB_list (s : ByteArray) (n : Nat) : (tailB s n).data.toList = (s.data.toList.drop n).take (padN n) := by
  unfold tailB
  rw [cut_list, List.take_eq_take_iff, List.length_drop, ← size_list]
  omega
set_option maxHeartbeats 1000000 in
theorem behind_any (s : ByteArray) (n : Nat) (h : n ≤ s.size) (hn : n < 65536) (hs : s.size ≤ maxLen) (w : World) : Calls Tryz.prog 129 #[.string s, .int .i64 (n : Int)] w fun e w' => e = .returned (.string (tailB s n)) ∧ w' = w := by
  have H := Lib.hid (show ∀ W, Calls Tryz.prog 48 #[.int .i64 (n : Int)] W fun e w' => e = .returned (.int .i64 (padN n : Nat)) ∧ w' = W from fun W => by rw [← padI_nat]; exact pad_any _ (by omega) (by omega) W)
  have hp := padN_lt n
  have HT := Lib.hid (show tailB s n = s.extract n (min (n + padN n) s.size) from rfl)
  generalize tailB s n = r at *
  generalize padN n = p at *
  unfold maxLen at hs
  have HM := Lib.hid (show min ((n : Int) + (p : Int)) (s.size : Int) = ((min (n + p) s.size : Nat) : Int) by omega)
  have hm1 := HM.out
  have q1 : n ≤ min (n + p) s.size := by omega
  have q2 : min (n + p) s.size ≤ s.size := by omega
  generalize min (n + p) s.size = m at *
  have q3 : (n : Int) ≤ (m : Int) := by omega
  have q4 : (m : Int) ≤ (s.size : Int) := by omega
  go_enter Tryz.func129, Tryz.ntmps129
  go_wp2_with (go_at_call 48; ((with_reducible refine (H.out _).mono ?_); rintro e w1 ⟨rfl, rfl⟩))
  go_ret
  exact ⟨by rw [HT.out]; rfl, rfl⟩

theorem isz2 : (Tryz.prog.info? 86).map (·.size) = some 2 := by kernel_rfl
set_option maxRecDepth 10000 in
theorem results_row1 {P : Program} {fn : Func} {p u : Tmp} {ty : TypeId} (h : fn.results = #[.cell p ty, .tmp u]) (tmps : Array Value) (w : World) (g : Nat) (t : TypeId) (cs : Array Value) (fr : Nat × Nat) (d : TypeDesc)
    (hp : tmps.getD p undef = .pointer (some ⟨g, 0, none⟩)) (hg : w.heap[g]? = some (.cells cs t fr))
    (hu : P.underlying ty = some d) (hd : (match d with | .struct _ | .array _ _ => true | _ => false) = true) (hi : (P.info? ty).map (·.size) = some cs.size) :
    (results fn tmps).run P w = .ok (.tuple #[.agg cs, tmps.getD u undef]) w := by
  have hp' : tmps[p]?.getD undef = .pointer (some ⟨g, 0, none⟩) := by simpa using hp
  simp [results, h, hp', asAddr, run_loadVar_row w g t ty cs fr d hg hu hd hi]
theorem two_sets (w : World) (g : Nat) (ty : TypeId) (o0 o1 a b : Value) (h : w.heap[g]? = some (.cells #[o0, o1] ty (0, 0))) :
    ∃ R1 : World, w.setCell ⟨g, 0, none⟩ a = R1 ∧ R1.setCell ⟨g, 1, none⟩ b = w.setRow g #[a, b] ∧
      w.cell? ⟨g, 0, none⟩ = some o0 ∧ R1.cell? ⟨g, 1, none⟩ = some o1 ∧ w.frozen? ⟨g, 0, none⟩ = false ∧ R1.frozen? ⟨g, 1, none⟩ = false := by
  have h1 := setRow_heap w g _ #[a, o1] _ _ h
  refine ⟨w.setRow g #[a, o1], ?_, ?_, ?_, ?_, frozen_of_row h 0, frozen_of_row h1 1⟩
  · rw [setCell_eq_setRow w g 0 _ _ _ _ h]; rfl
  · rw [setCell_eq_setRow _ g 1 _ _ _ _ h1, setRow_setRow]; rfl
  · rw [cell_of_row _ g 0 _ _ _ h]; rfl
  · rw [cell_of_row _ g 1 _ _ _ h1]; rfl
theorem num_drop (L : List UInt8) (k : Nat) : num (L.drop k) 0 = num L k := by
  unfold num byteAt
  rw [List.getD_eq_getElem?_getD, List.getD_eq_getElem?_getD, List.getElem?_drop, List.getElem?_drop, List.getD_eq_getElem?_getD, List.getD_eq_getElem?_getD]
  rfl
theorem pref_zeros (t : List UInt8) (h : t.length ≤ 3) : Lib.hasPrefix [0, 0, 0] t = decide (t = zerosL t.length) := by
  unfold Lib.hasPrefix
  rw [Bool.eq_iff_iff, List.isPrefixOf_iff_prefix, decide_eq_true_eq, List.prefix_iff_eq_take]
  rw [show ([0, 0, 0] : List UInt8) = List.replicate 3 0 from rfl, List.take_replicate, Nat.min_eq_left h]
  rfl
/-- What is told of the first item, or nothing. -/
def firstI (L : List UInt8) : Item := if errL L = 0 then itemL L else (0, ⟨#[]⟩)
theorem first_short {L : List UInt8} (h : L.length < 4) : firstI L = (0, ⟨#[]⟩) ∧ errL L = 3 := by
  have e : errL L = 3 := by unfold errL; rw [if_pos h]
  exact ⟨by unfold firstI; rw [e]; rfl, e⟩
theorem first_cut {L : List UInt8} (h : 4 ≤ L.length) (h1 : L.length < num L 2) : firstI L = (0, ⟨#[]⟩) ∧ errL L = 3 := by
  have e : errL L = 3 := by unfold errL; rw [if_neg (by omega), if_pos h1]
  exact ⟨by unfold firstI; rw [e]; rfl, e⟩
theorem first_low {L : List UInt8} (h : 4 ≤ L.length) (h1 : num L 2 ≤ L.length) (h2 : num L 2 < 4) : firstI L = (0, ⟨#[]⟩) ∧ errL L = 2 := by
  have e : errL L = 2 := by unfold errL; rw [if_neg (by omega), if_neg (by omega), if_pos h2]
  exact ⟨by unfold firstI; rw [e]; rfl, e⟩
theorem first_long {L : List UInt8} (h : 4 ≤ L.length) (h1 : num L 2 ≤ L.length) (h2 : 4 ≤ num L 2) (h3 : 1404 < num L 2) : firstI L = (0, ⟨#[]⟩) ∧ errL L = 4 := by
  have e : errL L = 4 := by unfold errL; rw [if_neg (by omega), if_neg (by omega), if_neg (by omega), if_pos (by omega)]
  exact ⟨by unfold firstI; rw [e]; rfl, e⟩
theorem first_tail {L : List UInt8} (h : 4 ≤ L.length) (h1 : num L 2 ≤ L.length) (h2 : 4 ≤ num L 2) (h3 : num L 2 ≤ 1404) (h4 : decide (tailL L = zerosL (tailL L).length) = false) : firstI L = (0, ⟨#[]⟩) ∧ errL L = 2 := by
  have e : errL L = 2 := by unfold errL; rw [if_neg (by omega), if_neg (by omega), if_neg (by omega), if_neg (by omega), if_neg (of_decide_eq_false h4)]
  exact ⟨by unfold firstI; rw [e]; rfl, e⟩
theorem first_good {L : List UInt8} (h : 4 ≤ L.length) (h1 : num L 2 ≤ L.length) (h2 : 4 ≤ num L 2) (h3 : num L 2 ≤ 1404) (h4 : decide (tailL L = zerosL (tailL L).length) = true) : firstI L = itemL L ∧ errL L = 0 := by
  have e : errL L = 0 := errL_of h h1 h2 h3 (of_decide_eq_true h4)
  exact ⟨by unfold firstI; rw [e]; rfl, e⟩
def noI : Array Value := #[.int .i64 0, .string ⟨#[]⟩]
/-- The block of the item that will be told, and that nothing else has turned. -/
def FS (w : World) (W : World) : Prop := ∃ o0 o1, W.heap[w.heap.size]? = some (.cells #[o0, o1] 86 (0, 0)) ∧ Below w.heap.size w W
theorem FS.later {w W W' : World} (h : FS w W) (hb : Below W.heap.size W W') : FS w W' := by
  obtain ⟨o0, o1, h1, h2⟩ := h
  exact ⟨o0, o1, (hb.block _ (Array.getElem?_eq_some_iff.1 h1).1).trans h1, h2.trans (hb.mono h2.size)⟩
theorem FS.start (w : World) : FS w (w.alloc (.cells noI 86)) := ⟨_, _, heap_alloc_new w _, (Below.refl _ _).alloc (Nat.le_refl _) _⟩
theorem FS.drew {w W : World} (h : FS w W) : FS w W.drew := h.later (Below.refl _ _).drew
/-- Behind the store of an item. -/
theorem FS.laid {w W : World} (h : FS w W) (cs : Array Value) : (W.setRow w.heap.size cs).heap[w.heap.size]? = some (.cells cs 86 (0, 0)) ∧ Below w.heap.size w (W.setRow w.heap.size cs) := by
  obtain ⟨o0, o1, h1, h2⟩ := h
  refine ⟨setRow_heap W _ _ cs _ _ h1, ⟨h2.os, h2.tape, h2.output, by have := h2.size; simpa [World.setRow] using this, fun k hk => ?_⟩⟩
  exact (setRow_other W _ k _ (by omega)).trans (h2.block k hk)
theorem FS.set {w W : World} (h : FS w W) (a b : Value) : FS w (W.setRow w.heap.size #[a, b]) := ⟨a, b, (h.laid #[a, b]).1, (h.laid #[a, b]).2⟩
theorem item_one (a : Int) (s : ByteArray) : (#[.int .i64 a, .string s] : Array Value).all (·.oneCell') = true := by kernel_rfl

set_option maxHeartbeats 4000000 in
set_option maxRecDepth 10000 in
theorem first_any (s : ByteArray) (hs : s.size ≤ 1000000) (w : World) :
    Calls Tryz.prog 127 #[.string s] w fun e w' => e = .returned (.tuple #[.agg #[.int .i64 (firstI s.data.toList).1, .string (firstI s.data.toList).2], .int .i64 (errL s.data.toList : Nat)]) ∧ Below w.heap.size w w' := by
  have HX0 := Lib.hid (FS.start w)
  have HI : Hid ((Tryz.prog.info? 86).map (·.size) = some noI.size) := Lib.hid isz2
  have hL := size_list s
  by_cases c0 : s.size < 4
  · obtain ⟨e1, e2⟩ := first_short (L := s.data.toList) (by omega)
    rw [e1, e2]
    have h0 : (s.size : Int) < 4 := by omega
    clear e1 e2 hL c0
    go_enter Tryz.func127, Tryz.ntmps127
    go_wp2_with fail
    refine bodyPost_ret (results_row1 (P := Tryz.prog) rfl _ _ w.heap.size 86 noI (0, 0) _ rfl (heap_alloc_new w _) Tryz.underlying86 rfl isz2) rfl ⟨rfl, (Below.refl _ _).alloc (Nat.le_refl _) _⟩
  have h0 : (4 : Int) ≤ (s.size : Int) := by omega
  have hn := num_lt s.data.toList 2
  have hN := fun W => number_any (s.extract 2 s.size) (by rw [ByteArray.size_extract]; omega) (by rw [ByteArray.size_extract]; unfold maxLen; omega) W
  have hN2 : num (s.extract 2 s.size).data.toList 0 = num s.data.toList 2 := by
    rw [cut_list, List.take_of_length_le (by rw [List.length_drop, ← hL]; exact Nat.le_refl _), num_drop]
  rw [hN2] at hN
  have HN := Lib.hid (show ∀ W, Calls Tryz.prog 128 #[.string (s.extract 2 s.size)] W fun e w' => e = .returned (.int .i64 (num s.data.toList 2 : Nat)) ∧ Below W.heap.size W w' from fun W => (hN W).mono fun e w' ⟨he, m, hm⟩ => ⟨he, by subst hm; exact ⟨rfl, rfl, rfl, Nat.le_refl _, fun _ _ => rfl⟩⟩)
  clear hN hN2
  have HBH := Lib.hid (fun (h : num s.data.toList 2 ≤ s.size) W => behind_any s (num s.data.toList 2) h hn (by unfold maxLen; omega) W)
  have hT : num s.data.toList 2 ≤ s.size → Lib.hasPrefix [0, 0, 0] (tailB s (num s.data.toList 2)).data.toList = decide (tailL s.data.toList = zerosL (tailL s.data.toList).length) := fun h => by
    have e : (tailB s (num s.data.toList 2)).data.toList = tailL s.data.toList := tailB_list _ _
    rw [e]
    refine pref_zeros _ ?_
    unfold tailL
    rw [List.length_take]
    have := padN_lt (num s.data.toList 2)
    omega
  have HP := Lib.hid (fun (h : num s.data.toList 2 ≤ s.size) W => show Calls Tryz.prog 92 #[.string ⟨#[0, 0, 0]⟩, .string (tailB s (num s.data.toList 2))] W fun e w' => e = .returned (.bool (decide (tailL s.data.toList = zerosL (tailL s.data.toList).length))) ∧ w' = W from by
    rw [← hT h]
    exact Tryz.strings_HasPrefix ⟨#[0, 0, 0]⟩ (tailB s (num s.data.toList 2)) W)
  clear hT
  have HR1 := Lib.hid (fun h1 => first_cut (L := s.data.toList) (by omega) h1)
  have HR2 := Lib.hid (fun h1 h2 => first_low (L := s.data.toList) (by omega) h1 h2)
  have HR3 := Lib.hid (fun h1 h2 h3 => first_long (L := s.data.toList) (by omega) h1 h2 h3)
  have HR4 := Lib.hid (fun h1 h2 h3 h4 => first_tail (L := s.data.toList) (by omega) h1 h2 h3 h4)
  have HR5 := Lib.hid (fun h1 h2 h3 h4 => first_good (L := s.data.toList) (by omega) h1 h2 h3 h4)
  have HIT := Lib.hid (show itemL s.data.toList = (((num s.data.toList 0 : Nat) : Int), s.extract 4 (num s.data.toList 2)) by
    unfold itemL valL
    congr 1
    apply bytes_ext
    rw [cut_list])
  have HN0 := Lib.hid (show ∀ W, Calls Tryz.prog 128 #[.string s] W fun e w' => e = .returned (.int .i64 (num s.data.toList 0 : Nat)) ∧ Below W.heap.size W w' from fun W => (number_any s (by omega) (by unfold maxLen; omega) W).mono fun e w' ⟨he, m, hm⟩ => ⟨he, by subst hm; exact ⟨rfl, rfl, rfl, Nat.le_refl _, fun _ _ => rfl⟩⟩)
  have HCL := Lib.hid (fun W => clone_any (s.extract 4 (num s.data.toList 2)) W (by rw [ByteArray.size_extract]; omega))
  rw [← hL] at HR1 HR2 HR3 HR4 HR5
  generalize firstI s.data.toList = fi at *
  generalize errL s.data.toList = er at *
  generalize itemL s.data.toList = it at *
  generalize decide (tailL s.data.toList = zerosL (tailL s.data.toList).length) = zz at *
  generalize num s.data.toList 0 = n0 at *
  generalize num s.data.toList 2 = n at *
  generalize tailB s n = tb at *
  have q2 : (2 : Int) ≤ (s.size : Int) := by omega
  clear hL c0
  have HE : Hid (noI.all (·.oneCell') = true) := Lib.hid (item_one 0 ⟨#[]⟩)
  by_cases c1 : s.size < n
  · obtain ⟨rfl, rfl⟩ := HR1.out c1
    have c1' : (s.size : Int) < (n : Int) := by omega
    clear HR1 HR2 HR3 HR4 HR5 HIT HP HBH HCL c1
    go_enter Tryz.func127, Tryz.ntmps127
    go_wp2_with (first
    | (go_at_call 128; ((with_reducible refine (HN.out _).mono ?_); rintro e w1 ⟨rfl, hb1⟩); obtain ⟨o0, o1, hx1, hbx1⟩ := FS.later HX0.out hb1; have HX1 := Lib.hid hx1; have HB1 := Lib.hid hbx1; clear hx1 hbx1 hb1)
    | (refine wpList_store_row rfl 86 (.tmp 2) (.tmp 17) rfl w.heap.size noI rfl rfl 86 #[o0, o1] HX1.out HI.out rfl HE.out ?_; have hl := FS.laid ⟨o0, o1, HX1.out, HB1.out⟩ noI))
    refine bodyPost_ret (results_row1 (P := Tryz.prog) rfl _ _ w.heap.size 86 noI (0, 0) _ rfl hl.1 Tryz.underlying86 rfl isz2) rfl ⟨rfl, hl.2⟩
  have c1' : ¬ (s.size : Int) < (n : Int) := by omega
  by_cases c2 : n < 4
  · obtain ⟨rfl, rfl⟩ := HR2.out (by omega) c2
    have c2' : (n : Int) < 4 := by omega
    clear HR1 HR2 HR3 HR4 HR5 HIT HP HBH HCL c1 c2
    go_enter Tryz.func127, Tryz.ntmps127
    go_wp2_with (first
    | (go_at_call 128; ((with_reducible refine (HN.out _).mono ?_); rintro e w1 ⟨rfl, hb1⟩); obtain ⟨o0, o1, hx1, hbx1⟩ := FS.later HX0.out hb1; have HX1 := Lib.hid hx1; have HB1 := Lib.hid hbx1; clear hx1 hbx1 hb1)
    | (refine wpList_store_row rfl 86 (.tmp 2) (.tmp 21) rfl w.heap.size noI rfl rfl 86 #[o0, o1] HX1.out HI.out rfl HE.out ?_; have hl := FS.laid ⟨o0, o1, HX1.out, HB1.out⟩ noI))
    refine bodyPost_ret (results_row1 (P := Tryz.prog) rfl _ _ w.heap.size 86 noI (0, 0) _ rfl hl.1 Tryz.underlying86 rfl isz2) rfl ⟨rfl, hl.2⟩
  have c2' : ¬ (n : Int) < 4 := by omega
  have hw : IntKind.i64.wrap ((n : Int) - 4) = (n : Int) - 4 := by rw [IntKind.wrap_i64]; omega
  by_cases c3 : 1404 < n
  · obtain ⟨rfl, rfl⟩ := HR3.out (by omega) (by omega) c3
    have c3' : (1400 : Int) < (n : Int) - 4 := by omega
    clear HR1 HR2 HR3 HR4 HR5 HIT HP HBH HCL c1 c2 c3
    go_enter Tryz.func127, Tryz.ntmps127
    go_wp2_with (first
    | (go_at_call 128; ((with_reducible refine (HN.out _).mono ?_); rintro e w1 ⟨rfl, hb1⟩); obtain ⟨o0, o1, hx1, hbx1⟩ := FS.later HX0.out hb1; have HX1 := Lib.hid hx1; have HB1 := Lib.hid hbx1; clear hx1 hbx1 hb1)
    | (refine wpList_store_row rfl 86 (.tmp 2) (.tmp 26) rfl w.heap.size noI rfl rfl 86 #[o0, o1] HX1.out HI.out rfl HE.out ?_; have hl := FS.laid ⟨o0, o1, HX1.out, HB1.out⟩ noI))
    refine bodyPost_ret (results_row1 (P := Tryz.prog) rfl _ _ w.heap.size 86 noI (0, 0) _ rfl hl.1 Tryz.underlying86 rfl isz2) rfl ⟨rfl, hl.2⟩
  have c3' : ¬ (1400 : Int) < (n : Int) - 4 := by omega
  have HBH2 := Lib.hid (HBH.out (by omega))
  have HP2 := Lib.hid (HP.out (by omega))
  cases zz with
  | false =>
    obtain ⟨rfl, rfl⟩ := HR4.out (by omega) (by omega) (by omega) rfl
    clear HR1 HR2 HR3 HR4 HR5 HIT HP HBH HCL c1 c2 c3
    go_enter Tryz.func127, Tryz.ntmps127
    go_wp2_with (first
    | (go_at_call 128; ((with_reducible refine (HN.out _).mono ?_); rintro e w1 ⟨rfl, hb1⟩); obtain ⟨o0, o1, hx1, hbx1⟩ := FS.later HX0.out hb1; have HX1 := Lib.hid hx1; have HB1 := Lib.hid hbx1; clear hx1 hbx1 hb1)
    | (go_at_call 129; ((with_reducible refine (HBH2.out _).mono ?_); rintro e w2 ⟨rfl, rfl⟩))
    | (go_at_call 92; ((with_reducible refine (HP2.out _).mono ?_); rintro e w2 ⟨rfl, rfl⟩))
    | (refine wpList_store_row rfl 86 (.tmp 2) (.tmp 33) rfl w.heap.size noI rfl rfl 86 #[o0, o1] HX1.out HI.out rfl HE.out ?_; have hl := FS.laid ⟨o0, o1, HX1.out, HB1.out⟩ noI))
    refine bodyPost_ret (results_row1 (P := Tryz.prog) rfl _ _ w.heap.size 86 noI (0, 0) _ rfl hl.1 Tryz.underlying86 rfl isz2) rfl ⟨rfl, hl.2⟩
  | true =>
    obtain ⟨hfi, rfl⟩ := HR5.out (by omega) (by omega) (by omega) rfl
    rw [HIT.out] at hfi
    subst hfi
    have k1 : (4 : Int) ≤ (n : Int) := by omega
    have k2 : (n : Int) ≤ (s.size : Int) := by omega
    have k3 : 4 ≤ n := by omega
    have k4 : n ≤ s.size := by omega
    clear HR1 HR2 HR3 HR4 HR5 HIT HP HBH c1 c2 c3
    have HN1 := Lib.hid (show ∀ W, FS w W → Calls Tryz.prog 128 #[.string s] W fun e w' => e = .returned (.int .i64 (n0 : Int)) ∧ FS w w' from fun W h => (HN0.out W).mono fun e w' ⟨he, hb⟩ => ⟨he, h.later hb⟩)
    have HCL1 := Lib.hid (show ∀ W, FS w W → Calls Tryz.prog 98 #[.string (s.extract 4 n)] W fun e w' => e = .returned (.string (s.extract 4 n)) ∧ FS w w' from fun W h => (HCL.out W).mono fun e w' ⟨he, hb⟩ => ⟨he, h.later hb⟩)
    go_enter Tryz.func127, Tryz.ntmps127
    go_wp2_with (first
    | (go_at_call 128; ((with_reducible refine (HN.out _).mono ?_); rintro e w1 ⟨rfl, hb1⟩); obtain ⟨o0, o1, hx1, hbx1⟩ := FS.later HX0.out hb1; have HX1 := Lib.hid hx1; have HB1 := Lib.hid hbx1; clear hx1 hbx1 hb1)
    | (go_at_call 129; ((with_reducible refine (HBH2.out _).mono ?_); rintro e w2 ⟨rfl, rfl⟩))
    | (go_at_call 92; ((with_reducible refine (HP2.out _).mono ?_); rintro e w2 ⟨rfl, rfl⟩)))
    go_region_held3 (fun w' => Hid (FS w w'))
      (first | exact Lib.hid (FS.drew ⟨o0, o1, HX1.out, HB1.out⟩) | assumption | exact Lib.hid (FS.set hs3.out _ _))
      (first
        | (go_at_call 128; (with_reducible refine (HN1.out _ (Hid.out ?_)).mono ?_); assumption; rintro e w3 ⟨rfl, hs3⟩; obtain ⟨p0, p1, hp1, hp2⟩ := id hs3; obtain ⟨R1, r1, r2, r3, r4, r5, r6⟩ := two_sets w3 w.heap.size _ p0 p1 (.int .i64 (n0 : Int)) (.string (s.extract 4 n)) hp1; have hl3 := Lib.hid (FS.laid hs3 #[.int .i64 (n0 : Int), .string (s.extract 4 n)]); replace hs3 := Lib.hid hs3; clear hp1 hp2)
        | (go_at_call 98; (with_reducible refine (HCL1.out _ (Hid.out ?_)).mono ?_); assumption; rintro e w3 ⟨rfl, hs3⟩; obtain ⟨p0, p1, hp1, hp2⟩ := id hs3; obtain ⟨R1, r1, r2, r3, r4, r5, r6⟩ := two_sets w3 w.heap.size _ p0 p1 (.int .i64 (n0 : Int)) (.string (s.extract 4 n)) hp1; have hl3 := Lib.hid (FS.laid hs3 #[.int .i64 (n0 : Int), .string (s.extract 4 n)]); replace hs3 := Lib.hid hs3; clear hp1 hp2))
    have HL3 := Lib.hid hl3.out
    clear r1 r2 r3 r4 r5 r6 hl3 hs3
    go_wp2_with fail
    refine bodyPost_ret (results_row1 (P := Tryz.prog) rfl _ _ w.heap.size 86 #[.int .i64 (n0 : Int), .string (s.extract 4 n)] (0, 0) _ rfl HL3.out.1 Tryz.underlying86 rfl isz2) rfl ⟨rfl, HL3.out.2⟩
end Go.Proofs.YtlbaockipeojhaaGreat
end
section
namespace Go.Proofs.YtlbaockipeojhaaGreat
set_option linter.unusedVariables false

/-- Where the k-th item begins. -/
def placeAt (L : List UInt8) : Nat → Nat
  | 0 => 0
  | k + 1 => placeAt L k + sizeL (L.drop (placeAt L k))
def placesL (L : List UInt8) (k : Nat) : List Nat := (List.range k).map (placeAt L)
theorem placesL_succ (L : List UInt8) (k : Nat) : placesL L (k + 1) = placesL L k ++ [placeAt L k] := by simp [placesL, List.range_succ]
theorem placesL_length (L : List UInt8) (k : Nat) : (placesL L k).length = k := by simp [placesL]
/-- The first k items are right. -/
def Good (L : List UInt8) (k : Nat) : Prop := ∀ j, j < k → placeAt L j < L.length ∧ errL (L.drop (placeAt L j)) = 0
theorem Good.zero (L : List UInt8) : Good L 0 := fun j h => absurd h (Nat.not_lt_zero _)
theorem Good.succ {L : List UInt8} {k : Nat} (h : Good L k) (h1 : placeAt L k < L.length) (h2 : errL (L.drop (placeAt L k)) = 0) : Good L (k + 1) := fun j hj => by
  by_cases e : j = k
  · subst e; exact ⟨h1, h2⟩
  · exact h j (by omega)
theorem Good.le {L : List UInt8} {k : Nat} (h : Good L k) : 4 * k ≤ placeAt L k := by
  induction k with
  | zero => exact Nat.zero_le _
  | succ k ih =>
    have h1 := ih fun j hj => h j (by omega)
    have h2 := sizeL_pos (h k (by omega)).2
    show 4 * (k + 1) ≤ placeAt L k + sizeL (L.drop (placeAt L k))
    omega
def itemsAt (L : List UInt8) (ps : List Nat) : List Item := ps.map fun p => itemL (L.drop p)
theorem itemsAt_snoc (L : List UInt8) (ps : List Nat) (p : Nat) : itemsAt L (ps ++ [p]) = itemsAt L ps ++ [itemL (L.drop p)] := by simp [itemsAt]
theorem good_glue {L : List UInt8} {k : Nat} (h : Good L k) : parseL L = glue (placeAt L k) (itemsAt L (placesL L k)) (parseL (L.drop (placeAt L k))) := by
  induction k with
  | zero => exact (glue_zero L).symm
  | succ k ih =>
    obtain ⟨h1, h2⟩ := h k (by omega)
    rw [ih fun j hj => h j (by omega), glue_step L _ _ h1 h2, placesL_succ, itemsAt_snoc]
    rfl
theorem good_end {L : List UInt8} {k : Nat} (h : Good L k) (he : L.length ≤ placeAt L k) : parseL L = (itemsAt L (placesL L k), 0, 0) := by
  rw [good_glue h, glue_end L _ _ he]
theorem good_err {L : List UInt8} {k : Nat} (h : Good L k) (h1 : placeAt L k < L.length) (he : errL (L.drop (placeAt L k)) ≠ 0) : parseL L = ([], placeAt L k, errL (L.drop (placeAt L k))) := by
  rw [good_glue h, glue_err L _ _ h1 he]
theorem firstI_ok {L : List UInt8} (h : errL L = 0) : firstI L = itemL L := by unfold firstI; rw [if_pos h]
theorem sizeV_item {L : List UInt8} (h : errL L = 0) : sizeV (itemL L).2.size = sizeL L := by
  obtain ⟨h0, h1, h2, h3, _⟩ := errL_ok h
  have hv : (itemL L).2.size = num L 2 - 4 := by show (valL L).size = _; simp [valL, ByteArray.size]; omega
  unfold sizeV sizeL
  rw [hv, show 4 + (num L 2 - 4) = num L 2 by omega]
theorem item_small {L : List UInt8} (h : errL L = 0) : (itemL L).2.size ≤ 1400 := by
  obtain ⟨h0, h1, h2, h3, _⟩ := errL_ok h
  have hv : (itemL L).2.size = num L 2 - 4 := by show (valL L).size = _; simp [valL, ByteArray.size]; omega
  omega
/-- What is told at the end: all items, or the wrong one's place. -/
def Ends (L : List UInt8) (ys : List Nat) : Prop := ∃ k, Good L k ∧ ((ys = placesL L k ∧ L.length ≤ placeAt L k) ∨ (ys = placesL L (k + 1) ∧ placeAt L k < L.length ∧ errL (L.drop (placeAt L k)) ≠ 0))
/-- What was told till it was enough. -/
def Begins (L : List UInt8) (ys : List Nat) : Prop := ∃ k, Good L k ∧ ys = placesL L (k + 1) ∧ placeAt L k < L.length
theorem ends_all {L : List UInt8} {ys : List Nat} (h : Ends L ys) (hg : ∀ p ∈ ys, errL (L.drop p) = 0) : parseL L = (itemsAt L ys, 0, 0) := by
  obtain ⟨k, hk, ⟨rfl, he⟩ | ⟨rfl, h1, he⟩⟩ := h
  · exact good_end hk he
  · rw [placesL_succ] at hg
    exact absurd (hg _ (by simp)) he
theorem begins_err {L : List UInt8} {ys : List Nat} {p : Nat} (h : Begins L (ys ++ [p])) (he : errL (L.drop p) ≠ 0) : parseL L = ([], p, errL (L.drop p)) := by
  obtain ⟨k, hk, e, h1⟩ := h
  rw [placesL_succ] at e
  have e1 := (List.append_inj' e rfl).2
  obtain rfl : p = placeAt L k := by simpa using e1
  exact good_err hk h1 he
end Go.Proofs.YtlbaockipeojhaaGreat
end
section
namespace Go.Proofs.YtlbaockipeojhaaGreat
open Go.RowKit Go.Shelf
set_option linter.unusedVariables false

attribute [local go_sem] Oper.semAt_some

/-- What a round is handed: a place, what stands there, and what is wrong with it. -/
def handed (L : List UInt8) (p : Nat) : Array Value := #[.agg #[.int .i64 (p : Int), .int .i64 (firstI (L.drop p)).1, .string (firstI (L.drop p)).2, .int .i64 (errL (L.drop p) : Nat)]]
/-- The text's block lies as it lay, and each block that holds one item. -/
def Kp (Bs : Nat) (W W' : World) : Prop := W'.heap[Bs]? = W.heap[Bs]? ∧ ∀ (b : Nat) (x y : Value), W.heap[b]? = some (Obj.cells #[x, y] 86 (0, 0)) → W'.heap[b]? = W.heap[b]?
theorem Kp.trans {Bs : Nat} {A B C : World} (h : Kp Bs A B) (k : Kp Bs B C) : Kp Bs A C :=
  ⟨k.1.trans h.1, fun b x y hb => (k.2 b x y ((h.2 b x y hb).trans hb)).trans (h.2 b x y hb)⟩
theorem Kp.b {Bs : Nat} {w : World} (hB : Bs < w.heap.size) (W : World) (l : Nat) (o o' : Obj) (hl : w.heap.size ≤ l) (h : W.heap[l]? = some o) (h1 : o.isCells = false) (_ : o.isWalk = false) : Kp Bs W (W.putObj l o') :=
  ⟨World.putObj_heap_other (by omega), fun b x y hb => World.putObj_heap_other (by rintro rfl; rw [h] at hb; cases hb; cases h1)⟩
theorem Kp.refl (Bs : Nat) (W : World) : Kp Bs W W := ⟨rfl, fun _ _ _ _ => rfl⟩
theorem abides_below {β : Type} {B : Nat} {J : β → World → Prop} (h : AbidesFrom B J) {s : β} {A C : World} (hs : J s A) (hb : Below A.heap.size A C) : J s C :=
  h s A C none hs ⟨hb.os, hb.tape, hb.output, hb.size, fun k hk _ => hb.block k hk⟩ (fun r e => by cases e)

set_option maxRecDepth 100000 in
set_option maxHeartbeats 4000000 in
theorem iter_goes (n : Nat) (hn : 1 ≤ n) (l Bs : Nat) (s : ByteArray) (hs : s.size ≤ 1000000) (J Jx : List Nat → World → Prop) (W : World) (hJ : AbidesFrom W.heap.size J)
    (hY : ∀ pre x W, J pre W → pre.length < s.size → YieldAt Fence.wide (n - 1) Tryz.prog l (handed s.data.toList x) W fun e W' =>
      (e = .returned (.bool true) ∧ J (pre ++ [x]) W' ∧ Kp Bs W W') ∨ (e = .returned (.bool false) ∧ Jx (pre ++ [x]) W'))
    (hc : Boxed W Bs 9 (.string s)) (h0 : J [] W) :
    CallsIn Fence.wide n Tryz.prog 126 #[.func (.yield l) #[] #[], .pointer (some ⟨Bs, 0, none⟩)] W fun e W' => (∃ v, e = .returned v) ∧
      ((∃ ys, Ends s.data.toList ys ∧ J ys W') ∨ (∃ pre, Begins s.data.toList pre ∧ Jx pre W')) := by
  have hc0 := hc.cell
  have hL := size_list s
  have HF := Lib.hid (show ∀ p, p < s.size → ∀ X, Calls Tryz.prog 127 #[.string (s.extract p s.size)] X fun e w' => e = .returned (.tuple #[.agg #[.int .i64 (firstI (s.data.toList.drop p)).1, .string (firstI (s.data.toList.drop p)).2], .int .i64 (errL (s.data.toList.drop p) : Nat)]) ∧ Below X.heap.size X w' from fun p hp X => by
    have h := first_any (s.extract p s.size) (by rw [ByteArray.size_extract]; omega) X
    rw [cut_list, List.take_of_length_le (by rw [List.length_drop, ← hL]; exact Nat.le_refl _)] at h
    exact h)
  generalize hLL : s.data.toList = L at *
  have HL := Lib.hid hL
  clear hL hLL
  refine callsIn_of_wp Tryz.func126 rfl trivial ?_ rfl
  simp only [Tryz.ntmps126, List.size_toArray, List.length_cons, List.length_nil, Nat.reduceAdd, Nat.reduceSub, Array.replicate_succ, Array.replicate_zero, List.push_toArray, List.append_toArray, List.nil_append, List.cons_append]
  gi_wp2
  gi_loopw [3] (fun i wr => ∃ k : Nat, i = .int .i64 (placeAt L k : Nat) ∧ Hid (Good L k) ∧ Hid (J (placesL L k) wr) ∧ Boxed wr Bs 9 (.string s)) (fun i _ => s.size + 3 - (intOf i).toNat)
  case atStart => exact ⟨0, rfl, Lib.hid (Good.zero L), Lib.hid h0, hc⟩
  case round =>
    obtain ⟨k, rfl, HG, HJ, hbx⟩ := hrel
    have hcx := hbx.cell
    by_cases hlt : placeAt L k < s.size
    · have hk4 := HG.out.le
      have HY := Lib.hid (fun X hX => hY (placesL L k) (placeAt L k) X hX (by rw [placesL_length]; omega))
      have HF1 := Lib.hid (HF.out _ hlt)
      have HS := Lib.hid (fun h : errL (L.drop (placeAt L k)) = 0 => Good.succ HG.out (by rw [← HL.out]; exact hlt) h)
      have HS2 := Lib.hid (show placesL L (k + 1) = placesL L k ++ [placeAt L k] from placesL_succ L k)
      have HS3 := Lib.hid (show placeAt L (k + 1) = placeAt L k + sizeL (L.drop (placeAt L k)) from rfl)
      have HS4 := Lib.hid (show errL (L.drop (placeAt L k)) = 0 → (firstI (L.drop (placeAt L k))).2.size ≤ 1400 ∧ sizeV (firstI (L.drop (placeAt L k))).2.size = sizeL (L.drop (placeAt L k)) ∧ 4 ≤ sizeL (L.drop (placeAt L k)) from fun h => by
        rw [firstI_ok h]
        exact ⟨item_small h, sizeV_item h, sizeL_pos h⟩)
      have HEN := Lib.hid (fun h : errL (L.drop (placeAt L k)) ≠ 0 => (⟨k, HG.out, .inr ⟨rfl, by rw [← HL.out]; exact hlt, h⟩⟩ : Ends L (placesL L (k + 1))))
      have HBE := Lib.hid (⟨k, HG.out, rfl, by rw [← HL.out]; exact hlt⟩ : Begins L (placesL L (k + 1)))
      unfold handed at HY
      try dsimp only at HY
      generalize placeAt L k = p at *
      generalize hfi : firstI (L.drop p) = fi at *
      obtain ⟨a, t⟩ := fi
      dsimp only at HY HF1 HS4
      generalize errL (L.drop p) = er at *
      generalize sizeL (L.drop p) = sz at *
      have q0 : (0 : Int) ≤ (p : Int) := by omega
      have q1 : (p : Int) ≤ (s.size : Int) := by omega
      have q2 : p ≤ s.size := by omega
      clear hfi hk4 hc0 hc h0
      gi_wp2_with (refine ⟨trivial, ?_⟩; gi_at_call 127; refine (callsIn_wide.2 (HF1.out _)).mono ?_; rintro e w1 ⟨rfl, hb1⟩; obtain ⟨fn, tmps, assign, body, hy, hR⟩ := HY.out (w1.alloc (.cells #[.int .i64 a, .string t] 86)) (abides_below hJ (abides_below hJ HJ.out hb1) ((Below.refl _ _).alloc (Nat.le_refl _) _)))
      have hbx2 : Boxed (w1.alloc (.cells #[.int .i64 a, .string t] 86)) Bs 9 (.string s) := (Below.heap_alloc w1 _ Bs (Nat.lt_of_lt_of_le hbx.lt hb1.size)).trans ((hb1.block Bs hbx.lt).trans hbx)
      have HBX := Lib.hid hbx2
      clear hbx2 hb1 hy hbx hcx
      refine hR.mono ?_
      rintro e W3 (⟨rfl, hJ3, hk3⟩ | ⟨rfl, hJx3⟩)
      · have hi4 : ItAt W3 w1.heap.size 86 a t := (hk3.2 _ _ _ (World.alloc_heap_new w1 _)).trans (World.alloc_heap_new w1 _)
        have c0 := hi4.c0
        have c1 := hi4.c1
        have HB3 := Lib.hid (show Boxed W3 Bs 9 (.string s) from hk3.1.trans HBX.out)
        have HJ3 := Lib.hid hJ3
        clear hi4 hk3 hJ3 hR
        by_cases her : er = 0
        · subst her
          obtain ⟨h1, h2, h3⟩ := HS4.out rfl
          have hsz := fun X => size_any a t (by omega) X
          rw [h2] at hsz
          have HSZ := Lib.hid hsz
          have HS5 := Lib.hid (HS.out rfl)
          have hszl : sz ≤ 1407 := by have := sizeV_le t.size; omega
          clear hsz h2 HS HEN HBE HS4 HY HF1
          gi_wp2_with (refine ⟨trivial, ?_⟩; gi_at_call 101; refine (callsIn_wide.2 (HSZ.out _)).mono ?_; rintro e w4 ⟨rfl, hb4⟩)
          go_roundw
          case rel => exact ⟨k + 1, by rw [HS3.out]; go_num, HS5, Lib.hid (by rw [HS2.out]; exact abides_below hJ HJ3.out hb4), (hb4.block Bs (Boxed.lt HB3.out)).trans HB3.out⟩
          case measure => simp [intOf]; omega
        · have HE5 := Lib.hid (HEN.out her)
          have hne : ((er : Int) != 0) = true := by simp; omega
          clear HS HEN HBE HS4 HY HF1 her
          gi_wp2
          refine bodyPost_ret (results_none rfl _ _ _) rfl ?_
          exact ⟨⟨_, rfl⟩, .inl ⟨_, HE5.out, by rw [HS2.out]; exact HJ3.out⟩⟩
      · clear HS HEN HS4 HY HF1 hR
        gi_wp2
        refine bodyPost_ret (results_none rfl _ _ _) rfl ?_
        exact ⟨⟨_, rfl⟩, .inr ⟨_, HBE.out, by rw [HS2.out]; exact hJx3⟩⟩
    · have HE5 := Lib.hid (⟨k, HG.out, .inl ⟨rfl, by rw [← HL.out]; omega⟩⟩ : Ends L (placesL L k))
      generalize placeAt L k = p at *
      have q1 : ¬ (p : Int) < (s.size : Int) := by omega
      gi_wp2
      go_end0
      exact ⟨⟨_, rfl⟩, .inl ⟨_, HE5.out, HJ.out⟩⟩
end Go.Proofs.YtlbaockipeojhaaGreat
end
