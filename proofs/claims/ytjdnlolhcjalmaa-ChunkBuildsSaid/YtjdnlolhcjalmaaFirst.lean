/-
  Package tlv: the item that stands ahead of all else: its contract, whatever text.
-/
import Derived.Test.YtjdnlolhcjalmaaOne
import Derived.Test.YtjdnlolhcjalmaaBuilder
import Derived.Laws.ResultCell
import Derived.Laws.Rows
namespace Go.Proofs.Ytjdnlolhcjalmaa
open Go.RowKit
set_option linter.unusedVariables false

/-- What stands for noughts behind so many bytes. -/
def tailB (s : ByteArray) (n : Nat) : ByteArray := s.extract n (min (n + padN n) s.size)
theorem tailB_list (s : ByteArray) (n : Nat) : (tailB s n).data.toList = (s.data.toList.drop n).take (padN n) := by
  unfold tailB
  rw [cut_list, List.take_eq_take_iff, List.length_drop, ← size_list]
  omega
theorem tailB_size (s : ByteArray) (n : Nat) (h : n ≤ s.size) : (tailB s n).size = min (padN n) (s.size - n) := by
  rw [size_list, tailB_list, List.length_take, List.length_drop, ← size_list]
set_option maxHeartbeats 1000000 in
theorem behind_any (s : ByteArray) (n : Nat) (h : n ≤ s.size) (hn : n < 65536) (hs : s.size ≤ maxLen) (w : World) : Calls Try.prog 87 #[.string s, .int .i64 (n : Int)] w fun e w' => e = .returned (.string (tailB s n)) ∧ w' = w := by
  have H := Lib.hid (show ∀ W, Calls Try.prog 25 #[.int .i64 (n : Int)] W fun e w' => e = .returned (.int .i64 (padN n : Nat)) ∧ w' = W from fun W => by rw [← padI_nat]; exact pad_any _ (by omega) (by omega) W)
  have hp := padN_lt n
  have HT := Lib.hid (show tailB s n = s.extract n (min (n + padN n) s.size) from rfl)
  generalize tailB s n = r at *
  generalize padN n = p at *
  unfold maxLen at hs
  have HM := Lib.hid (show min ((n : Int) + (p : Int)) (s.size : Int) = ((min (n + p) s.size : Nat) : Int) by omega)
  have hm1 := HM.out
  have q1 : n ≤ min (n + p) s.size := by omega
  have q2 : min (n + p) s.size ≤ s.size := by omega
  generalize min (n + p) s.size = m at *
  have q3 : (n : Int) ≤ (m : Int) := by omega
  have q4 : (m : Int) ≤ (s.size : Int) := by omega
  go_enter Try.func87, Try.ntmps87
  go_wp2_with (go_at_call 25; ((with_reducible refine (H.out _).mono ?_); rintro e w1 ⟨rfl, rfl⟩))
  go_ret
  exact ⟨by rw [HT.out]; rfl, rfl⟩

theorem isz2 : (Try.prog.info? 50).map (·.size) = some 2 := by kernel_rfl
set_option maxRecDepth 10000 in
theorem results_row1 {P : Program} {fn : Func} {p u : Tmp} {ty : TypeId} (h : fn.results = #[.cell p ty, .tmp u]) (tmps : Array Value) (w : World) (g : Nat) (t : TypeId) (cs : Array Value) (fr : Nat × Nat) (d : TypeDesc)
    (hp : tmps.getD p undef = .pointer (some ⟨g, 0, none⟩)) (hg : w.heap[g]? = some (.cells cs t fr))
    (hu : P.underlying ty = some d) (hd : (match d with | .struct _ | .array _ _ => true | _ => false) = true) (hi : (P.info? ty).map (·.size) = some cs.size) :
    (results fn tmps).run P w = .ok (.tuple #[.agg cs, tmps.getD u undef]) w := by
  have hp' : tmps[p]?.getD undef = .pointer (some ⟨g, 0, none⟩) := by simpa using hp
  simp [results, h, hp', asAddr, run_loadVar_row w g t ty cs fr d hg hu hd hi]
theorem two_sets (w : World) (g : Nat) (ty : TypeId) (o0 o1 a b : Value) (h : w.heap[g]? = some (.cells #[o0, o1] ty (0, 0))) :
    ∃ R1 : World, w.setCell ⟨g, 0, none⟩ a = R1 ∧ R1.setCell ⟨g, 1, none⟩ b = w.setRow g #[a, b] ∧
      w.cell? ⟨g, 0, none⟩ = some o0 ∧ R1.cell? ⟨g, 1, none⟩ = some o1 ∧ w.frozen? ⟨g, 0, none⟩ = false ∧ R1.frozen? ⟨g, 1, none⟩ = false := by
  have h1 := setRow_heap w g _ #[a, o1] _ _ h
  refine ⟨w.setRow g #[a, o1], ?_, ?_, ?_, ?_, frozen_of_row h 0, frozen_of_row h1 1⟩
  · rw [setCell_eq_setRow w g 0 _ _ _ _ h]; rfl
  · rw [setCell_eq_setRow _ g 1 _ _ _ _ h1, setRow_setRow]; rfl
  · rw [cell_of_row _ g 0 _ _ _ h]; rfl
  · rw [cell_of_row _ g 1 _ _ _ h1]; rfl
theorem num_drop (L : List UInt8) (k : Nat) : num (L.drop k) 0 = num L k := by
  unfold num byteAt
  rw [List.getD_eq_getElem?_getD, List.getD_eq_getElem?_getD, List.getElem?_drop, List.getElem?_drop, List.getD_eq_getElem?_getD, List.getD_eq_getElem?_getD]
  rfl
theorem pref_zeros (t : List UInt8) (h : t.length ≤ 3) : Lib.hasPrefix [0, 0, 0] t = decide (t = zerosL t.length) := by
  unfold Lib.hasPrefix
  rw [Bool.eq_iff_iff, List.isPrefixOf_iff_prefix, decide_eq_true_eq, List.prefix_iff_eq_take]
  rw [show ([0, 0, 0] : List UInt8) = List.replicate 3 0 from rfl, List.take_replicate, Nat.min_eq_left h]
  rfl
/-- What is told of the first item, or nothing. -/
def firstI (L : List UInt8) : Item := if errL L = 0 then itemL L else (0, ⟨#[]⟩)
theorem first_short {L : List UInt8} (h : L.length < 4) : firstI L = (0, ⟨#[]⟩) ∧ errL L = 3 := by
  have e : errL L = 3 := by unfold errL; rw [if_pos h]
  exact ⟨by unfold firstI; rw [e]; rfl, e⟩
theorem first_cut {L : List UInt8} (h : 4 ≤ L.length) (h1 : L.length < num L 2) : firstI L = (0, ⟨#[]⟩) ∧ errL L = 3 := by
  have e : errL L = 3 := by unfold errL; rw [if_neg (by omega), if_pos h1]
  exact ⟨by unfold firstI; rw [e]; rfl, e⟩
theorem first_low {L : List UInt8} (h : 4 ≤ L.length) (h1 : num L 2 ≤ L.length) (h2 : num L 2 < 4) : firstI L = (0, ⟨#[]⟩) ∧ errL L = 2 := by
  have e : errL L = 2 := by unfold errL; rw [if_neg (by omega), if_neg (by omega), if_pos h2]
  exact ⟨by unfold firstI; rw [e]; rfl, e⟩
theorem first_long {L : List UInt8} (h : 4 ≤ L.length) (h1 : num L 2 ≤ L.length) (h2 : 4 ≤ num L 2) (h3 : 1404 < num L 2) : firstI L = (0, ⟨#[]⟩) ∧ errL L = 4 := by
  have e : errL L = 4 := by unfold errL; rw [if_neg (by omega), if_neg (by omega), if_neg (by omega), if_pos (by omega)]
  exact ⟨by unfold firstI; rw [e]; rfl, e⟩
theorem first_tail {L : List UInt8} (h : 4 ≤ L.length) (h1 : num L 2 ≤ L.length) (h2 : 4 ≤ num L 2) (h3 : num L 2 ≤ 1404) (h4 : decide (tailL L = zerosL (tailL L).length) = false) : firstI L = (0, ⟨#[]⟩) ∧ errL L = 2 := by
  have e : errL L = 2 := by unfold errL; rw [if_neg (by omega), if_neg (by omega), if_neg (by omega), if_neg (by omega), if_neg (of_decide_eq_false h4)]
  exact ⟨by unfold firstI; rw [e]; rfl, e⟩
theorem first_good {L : List UInt8} (h : 4 ≤ L.length) (h1 : num L 2 ≤ L.length) (h2 : 4 ≤ num L 2) (h3 : num L 2 ≤ 1404) (h4 : decide (tailL L = zerosL (tailL L).length) = true) : firstI L = itemL L ∧ errL L = 0 := by
  have e : errL L = 0 := errL_of h h1 h2 h3 (of_decide_eq_true h4)
  exact ⟨by unfold firstI; rw [e]; rfl, e⟩
def noI : Array Value := #[.int .i64 0, .string ⟨#[]⟩]
/-- The block of the item that will be told, and that nothing else has turned. -/
def FS (w : World) (W : World) : Prop := ∃ o0 o1, W.heap[w.heap.size]? = some (.cells #[o0, o1] 50 (0, 0)) ∧ Below w.heap.size w W
theorem FS.later {w W W' : World} (h : FS w W) (hb : Below W.heap.size W W') : FS w W' := by
  obtain ⟨o0, o1, h1, h2⟩ := h
  exact ⟨o0, o1, (hb.block _ (Array.getElem?_eq_some_iff.1 h1).1).trans h1, h2.trans (hb.mono h2.size)⟩
theorem FS.start (w : World) : FS w (w.alloc (.cells noI 50)) := ⟨_, _, heap_alloc_new w _, (Below.refl _ _).alloc (Nat.le_refl _) _⟩
theorem FS.drew {w W : World} (h : FS w W) : FS w W.drew := h.later (Below.refl _ _).drew
/-- Behind the store of an item. -/
theorem FS.laid {w W : World} (h : FS w W) (cs : Array Value) : (W.setRow w.heap.size cs).heap[w.heap.size]? = some (.cells cs 50 (0, 0)) ∧ Below w.heap.size w (W.setRow w.heap.size cs) := by
  obtain ⟨o0, o1, h1, h2⟩ := h
  refine ⟨setRow_heap W _ _ cs _ _ h1, ⟨h2.os, h2.tape, h2.output, by have := h2.size; simpa [World.setRow] using this, fun k hk => ?_⟩⟩
  exact (setRow_other W _ k _ (by omega)).trans (h2.block k hk)
theorem FS.set {w W : World} (h : FS w W) (a b : Value) : FS w (W.setRow w.heap.size #[a, b]) := ⟨a, b, (h.laid #[a, b]).1, (h.laid #[a, b]).2⟩
theorem item_one (a : Int) (s : ByteArray) : (#[.int .i64 a, .string s] : Array Value).all (·.oneCell') = true := by kernel_rfl

set_option maxHeartbeats 4000000 in
set_option maxRecDepth 10000 in
theorem first_any (s : ByteArray) (hs : s.size ≤ 1000000) (w : World) :
    Calls Try.prog 85 #[.string s] w fun e w' => e = .returned (.tuple #[.agg #[.int .i64 (firstI s.data.toList).1, .string (firstI s.data.toList).2], .int .i64 (errL s.data.toList : Nat)]) ∧ Below w.heap.size w w' := by
  have HX0 := Lib.hid (FS.start w)
  have HI : Hid ((Try.prog.info? 50).map (·.size) = some noI.size) := Lib.hid isz2
  have hL := size_list s
  by_cases c0 : s.size < 4
  · obtain ⟨e1, e2⟩ := first_short (L := s.data.toList) (by omega)
    rw [e1, e2]
    have h0 : (s.size : Int) < 4 := by omega
    clear e1 e2 hL c0
    go_enter Try.func85, Try.ntmps85
    go_wp2_with fail
    refine bodyPost_ret (results_row1 (P := Try.prog) rfl _ _ w.heap.size 50 noI (0, 0) _ rfl (heap_alloc_new w _) Try.underlying50 rfl isz2) rfl ⟨rfl, (Below.refl _ _).alloc (Nat.le_refl _) _⟩
  have h0 : (4 : Int) ≤ (s.size : Int) := by omega
  have hn := num_lt s.data.toList 2
  have hN := fun W => number_any (s.extract 2 s.size) (by rw [ByteArray.size_extract]; omega) (by rw [ByteArray.size_extract]; unfold maxLen; omega) W
  have hN2 : num (s.extract 2 s.size).data.toList 0 = num s.data.toList 2 := by
    rw [cut_list, List.take_of_length_le (by rw [List.length_drop, ← hL]; exact Nat.le_refl _), num_drop]
  rw [hN2] at hN
  have HN := Lib.hid (show ∀ W, Calls Try.prog 86 #[.string (s.extract 2 s.size)] W fun e w' => e = .returned (.int .i64 (num s.data.toList 2 : Nat)) ∧ Below W.heap.size W w' from fun W => (hN W).mono fun e w' ⟨he, m, hm⟩ => ⟨he, by subst hm; exact ⟨rfl, rfl, rfl, Nat.le_refl _, fun _ _ => rfl⟩⟩)
  clear hN hN2
  have HBH := Lib.hid (fun (h : num s.data.toList 2 ≤ s.size) W => behind_any s (num s.data.toList 2) h hn (by unfold maxLen; omega) W)
  have hT : num s.data.toList 2 ≤ s.size → Lib.hasPrefix [0, 0, 0] (tailB s (num s.data.toList 2)).data.toList = decide (tailL s.data.toList = zerosL (tailL s.data.toList).length) := fun h => by
    have e : (tailB s (num s.data.toList 2)).data.toList = tailL s.data.toList := tailB_list _ _
    rw [e]
    refine pref_zeros _ ?_
    unfold tailL
    rw [List.length_take]
    have := padN_lt (num s.data.toList 2)
    omega
  have HP := Lib.hid (fun (h : num s.data.toList 2 ≤ s.size) W => show Calls Try.prog 34 #[.string ⟨#[0, 0, 0]⟩, .string (tailB s (num s.data.toList 2))] W fun e w' => e = .returned (.bool (decide (tailL s.data.toList = zerosL (tailL s.data.toList).length))) ∧ w' = W from by
    rw [← hT h]
    exact Try.strings_HasPrefix ⟨#[0, 0, 0]⟩ (tailB s (num s.data.toList 2)) W)
  clear hT
  have HR1 := Lib.hid (fun h1 => first_cut (L := s.data.toList) (by omega) h1)
  have HR2 := Lib.hid (fun h1 h2 => first_low (L := s.data.toList) (by omega) h1 h2)
  have HR3 := Lib.hid (fun h1 h2 h3 => first_long (L := s.data.toList) (by omega) h1 h2 h3)
  have HR4 := Lib.hid (fun h1 h2 h3 h4 => first_tail (L := s.data.toList) (by omega) h1 h2 h3 h4)
  have HR5 := Lib.hid (fun h1 h2 h3 h4 => first_good (L := s.data.toList) (by omega) h1 h2 h3 h4)
  have HIT := Lib.hid (show itemL s.data.toList = (((num s.data.toList 0 : Nat) : Int), s.extract 4 (num s.data.toList 2)) by
    unfold itemL valL
    congr 1
    apply bytes_ext
    rw [cut_list])
  have HN0 := Lib.hid (show ∀ W, Calls Try.prog 86 #[.string s] W fun e w' => e = .returned (.int .i64 (num s.data.toList 0 : Nat)) ∧ Below W.heap.size W w' from fun W => (number_any s (by omega) (by unfold maxLen; omega) W).mono fun e w' ⟨he, m, hm⟩ => ⟨he, by subst hm; exact ⟨rfl, rfl, rfl, Nat.le_refl _, fun _ _ => rfl⟩⟩)
  have HCL := Lib.hid (fun W => clone_any (s.extract 4 (num s.data.toList 2)) W (by rw [ByteArray.size_extract]; omega))
  rw [← hL] at HR1 HR2 HR3 HR4 HR5
  generalize firstI s.data.toList = fi at *
  generalize errL s.data.toList = er at *
  generalize itemL s.data.toList = it at *
  generalize decide (tailL s.data.toList = zerosL (tailL s.data.toList).length) = zz at *
  generalize num s.data.toList 0 = n0 at *
  generalize num s.data.toList 2 = n at *
  generalize tailB s n = tb at *
  have q2 : (2 : Int) ≤ (s.size : Int) := by omega
  clear hL c0
  have HE : Hid (noI.all (·.oneCell') = true) := Lib.hid (item_one 0 ⟨#[]⟩)
  by_cases c1 : s.size < n
  · obtain ⟨rfl, rfl⟩ := HR1.out c1
    have c1' : (s.size : Int) < (n : Int) := by omega
    clear HR1 HR2 HR3 HR4 HR5 HIT HP HBH HCL c1
    go_enter Try.func85, Try.ntmps85
    go_wp2_with (first
    | (go_at_call 86; ((with_reducible refine (HN.out _).mono ?_); rintro e w1 ⟨rfl, hb1⟩); obtain ⟨o0, o1, hx1, hbx1⟩ := FS.later HX0.out hb1; have HX1 := Lib.hid hx1; have HB1 := Lib.hid hbx1; clear hx1 hbx1 hb1)
    | (refine wpList_store_row rfl 50 (.tmp 2) (.tmp 17) rfl w.heap.size noI rfl rfl 50 #[o0, o1] HX1.out HI.out rfl HE.out ?_; have hl := FS.laid ⟨o0, o1, HX1.out, HB1.out⟩ noI))
    refine bodyPost_ret (results_row1 (P := Try.prog) rfl _ _ w.heap.size 50 noI (0, 0) _ rfl hl.1 Try.underlying50 rfl isz2) rfl ⟨rfl, hl.2⟩
  have c1' : ¬ (s.size : Int) < (n : Int) := by omega
  by_cases c2 : n < 4
  · obtain ⟨rfl, rfl⟩ := HR2.out (by omega) c2
    have c2' : (n : Int) < 4 := by omega
    clear HR1 HR2 HR3 HR4 HR5 HIT HP HBH HCL c1 c2
    go_enter Try.func85, Try.ntmps85
    go_wp2_with (first
    | (go_at_call 86; ((with_reducible refine (HN.out _).mono ?_); rintro e w1 ⟨rfl, hb1⟩); obtain ⟨o0, o1, hx1, hbx1⟩ := FS.later HX0.out hb1; have HX1 := Lib.hid hx1; have HB1 := Lib.hid hbx1; clear hx1 hbx1 hb1)
    | (refine wpList_store_row rfl 50 (.tmp 2) (.tmp 21) rfl w.heap.size noI rfl rfl 50 #[o0, o1] HX1.out HI.out rfl HE.out ?_; have hl := FS.laid ⟨o0, o1, HX1.out, HB1.out⟩ noI))
    refine bodyPost_ret (results_row1 (P := Try.prog) rfl _ _ w.heap.size 50 noI (0, 0) _ rfl hl.1 Try.underlying50 rfl isz2) rfl ⟨rfl, hl.2⟩
  have c2' : ¬ (n : Int) < 4 := by omega
  have hw : IntKind.i64.wrap ((n : Int) - 4) = (n : Int) - 4 := by rw [IntKind.wrap_i64]; omega
  by_cases c3 : 1404 < n
  · obtain ⟨rfl, rfl⟩ := HR3.out (by omega) (by omega) c3
    have c3' : (1400 : Int) < (n : Int) - 4 := by omega
    clear HR1 HR2 HR3 HR4 HR5 HIT HP HBH HCL c1 c2 c3
    go_enter Try.func85, Try.ntmps85
    go_wp2_with (first
    | (go_at_call 86; ((with_reducible refine (HN.out _).mono ?_); rintro e w1 ⟨rfl, hb1⟩); obtain ⟨o0, o1, hx1, hbx1⟩ := FS.later HX0.out hb1; have HX1 := Lib.hid hx1; have HB1 := Lib.hid hbx1; clear hx1 hbx1 hb1)
    | (refine wpList_store_row rfl 50 (.tmp 2) (.tmp 26) rfl w.heap.size noI rfl rfl 50 #[o0, o1] HX1.out HI.out rfl HE.out ?_; have hl := FS.laid ⟨o0, o1, HX1.out, HB1.out⟩ noI))
    refine bodyPost_ret (results_row1 (P := Try.prog) rfl _ _ w.heap.size 50 noI (0, 0) _ rfl hl.1 Try.underlying50 rfl isz2) rfl ⟨rfl, hl.2⟩
  have c3' : ¬ (1400 : Int) < (n : Int) - 4 := by omega
  have HBH2 := Lib.hid (HBH.out (by omega))
  have HP2 := Lib.hid (HP.out (by omega))
  cases zz with
  | false =>
    obtain ⟨rfl, rfl⟩ := HR4.out (by omega) (by omega) (by omega) rfl
    clear HR1 HR2 HR3 HR4 HR5 HIT HP HBH HCL c1 c2 c3
    go_enter Try.func85, Try.ntmps85
    go_wp2_with (first
    | (go_at_call 86; ((with_reducible refine (HN.out _).mono ?_); rintro e w1 ⟨rfl, hb1⟩); obtain ⟨o0, o1, hx1, hbx1⟩ := FS.later HX0.out hb1; have HX1 := Lib.hid hx1; have HB1 := Lib.hid hbx1; clear hx1 hbx1 hb1)
    | (go_at_call 87; ((with_reducible refine (HBH2.out _).mono ?_); rintro e w2 ⟨rfl, rfl⟩))
    | (go_at_call 34; ((with_reducible refine (HP2.out _).mono ?_); rintro e w2 ⟨rfl, rfl⟩))
    | (refine wpList_store_row rfl 50 (.tmp 2) (.tmp 33) rfl w.heap.size noI rfl rfl 50 #[o0, o1] HX1.out HI.out rfl HE.out ?_; have hl := FS.laid ⟨o0, o1, HX1.out, HB1.out⟩ noI))
    refine bodyPost_ret (results_row1 (P := Try.prog) rfl _ _ w.heap.size 50 noI (0, 0) _ rfl hl.1 Try.underlying50 rfl isz2) rfl ⟨rfl, hl.2⟩
  | true =>
    obtain ⟨hfi, rfl⟩ := HR5.out (by omega) (by omega) (by omega) rfl
    rw [HIT.out] at hfi
    subst hfi
    have k1 : (4 : Int) ≤ (n : Int) := by omega
    have k2 : (n : Int) ≤ (s.size : Int) := by omega
    have k3 : 4 ≤ n := by omega
    have k4 : n ≤ s.size := by omega
    clear HR1 HR2 HR3 HR4 HR5 HIT HP HBH c1 c2 c3
    have HN1 := Lib.hid (show ∀ W, FS w W → Calls Try.prog 86 #[.string s] W fun e w' => e = .returned (.int .i64 (n0 : Int)) ∧ FS w w' from fun W h => (HN0.out W).mono fun e w' ⟨he, hb⟩ => ⟨he, h.later hb⟩)
    have HCL1 := Lib.hid (show ∀ W, FS w W → Calls Try.prog 62 #[.string (s.extract 4 n)] W fun e w' => e = .returned (.string (s.extract 4 n)) ∧ FS w w' from fun W h => (HCL.out W).mono fun e w' ⟨he, hb⟩ => ⟨he, h.later hb⟩)
    go_enter Try.func85, Try.ntmps85
    go_wp2_with (first
    | (go_at_call 86; ((with_reducible refine (HN.out _).mono ?_); rintro e w1 ⟨rfl, hb1⟩); obtain ⟨o0, o1, hx1, hbx1⟩ := FS.later HX0.out hb1; have HX1 := Lib.hid hx1; have HB1 := Lib.hid hbx1; clear hx1 hbx1 hb1)
    | (go_at_call 87; ((with_reducible refine (HBH2.out _).mono ?_); rintro e w2 ⟨rfl, rfl⟩))
    | (go_at_call 34; ((with_reducible refine (HP2.out _).mono ?_); rintro e w2 ⟨rfl, rfl⟩)))
    go_region_held3 (fun w' => Hid (FS w w'))
      (first | exact Lib.hid (FS.drew ⟨o0, o1, HX1.out, HB1.out⟩) | assumption | exact Lib.hid (FS.set hs3.out _ _))
      (first
        | (go_at_call 86; (with_reducible refine (HN1.out _ (Hid.out ?_)).mono ?_); assumption; rintro e w3 ⟨rfl, hs3⟩; obtain ⟨p0, p1, hp1, hp2⟩ := id hs3; obtain ⟨R1, r1, r2, r3, r4, r5, r6⟩ := two_sets w3 w.heap.size _ p0 p1 (.int .i64 (n0 : Int)) (.string (s.extract 4 n)) hp1; have hl3 := Lib.hid (FS.laid hs3 #[.int .i64 (n0 : Int), .string (s.extract 4 n)]); replace hs3 := Lib.hid hs3; clear hp1 hp2)
        | (go_at_call 62; (with_reducible refine (HCL1.out _ (Hid.out ?_)).mono ?_); assumption; rintro e w3 ⟨rfl, hs3⟩; obtain ⟨p0, p1, hp1, hp2⟩ := id hs3; obtain ⟨R1, r1, r2, r3, r4, r5, r6⟩ := two_sets w3 w.heap.size _ p0 p1 (.int .i64 (n0 : Int)) (.string (s.extract 4 n)) hp1; have hl3 := Lib.hid (FS.laid hs3 #[.int .i64 (n0 : Int), .string (s.extract 4 n)]); replace hs3 := Lib.hid hs3; clear hp1 hp2))
    have HL3 := Lib.hid hl3.out
    clear r1 r2 r3 r4 r5 r6 hl3 hs3
    go_wp2_with fail
    refine bodyPost_ret (results_row1 (P := Try.prog) rfl _ _ w.heap.size 50 #[.int .i64 (n0 : Int), .string (s.extract 4 n)] (0, 0) _ rfl HL3.out.1 Try.underlying50 rfl isz2) rfl ⟨rfl, HL3.out.2⟩
end Go.Proofs.Ytjdnlolhcjalmaa
