/-
  A chunk read from bytes: contracts.
-/
import Derived.Test.YtjdnlolhcjalmaaParseVal
namespace Go.Proofs.Ytjdnlolhcjalmaa
open Go.RowKit
set_option linter.unusedVariables false
set_option linter.unusedSimpArgs false
set_option maxRecDepth 100000

theorem rd8_at (s : ByteArray) (a : Nat) (q : Bool) (h : a + 1 ≤ s.size) : rd8 (cutB s a) q = (byteAt s.data.toList a, cutB s (a + 1), q) := by
  unfold rd8
  rw [if_neg (by rw [cut_size]; omega), cut_cut]
  have : (cutB s a).data.toList = s.data.toList.drop a := rfl
  rw [this, byteAt_behind, Nat.add_zero]
theorem head_size (s : ByteArray) (h : 4 ≤ s.size) : (s.extract 0 4).size = 4 := by
  rw [size_list, cut_list, List.drop_zero, List.length_take, ← size_list]
  omega
theorem byteAt_take {L : List UInt8} {i n : Nat} (h : i < n) : byteAt (L.take n) i = byteAt L i := by
  unfold byteAt
  rw [List.getD_eq_getElem?_getD, List.getD_eq_getElem?_getD, List.getElem?_take, if_pos h]
theorem head_bytes (s : ByteArray) : byteAt (s.extract 0 4).data.toList 0 = byteAt s.data.toList 0 ∧ byteAt (s.extract 0 4).data.toList 1 = byteAt s.data.toList 1 ∧ num (s.extract 0 4).data.toList 2 = lenC s := by
  rw [cut_list, List.drop_zero]
  refine ⟨byteAt_take (by omega), byteAt_take (by omega), ?_⟩
  unfold lenC num
  rw [byteAt_take (by omega), byteAt_take (by omega)]
theorem val_is (s : ByteArray) : s.extract 4 (lenC s) = valC s := by
  apply bytes_ext
  rw [cut_list]
  rfl
theorem tail_is (s : ByteArray) (h : lenC s ≤ s.size) : (s.extract (lenC s) (sizeC s)).data.toList = tailC s := by
  rw [cut_list]
  unfold tailC sizeC
  rw [List.take_eq_take_iff, List.length_drop, ← size_list]
  omega
theorem prefix_noughts (l : List UInt8) (h : l.length ≤ 3) : Lib.hasPrefix (⟨#[0, 0, 0]⟩ : ByteArray).data.toList l = decide (l = zerosL l.length) := by
  show l.isPrefixOf [0, 0, 0] = _
  match l, h with
  | [], _ => rfl
  | [a], _ => simp [zerosL, List.isPrefixOf] <;> rfl
  | [a, b], _ => simp [zerosL, List.isPrefixOf] <;> rfl
  | [a, b, c], _ => simp [zerosL, List.isPrefixOf, List.replicate_succ] <;> rfl
theorem tailC_len (s : ByteArray) : (tailC s).length ≤ 3 := by
  unfold tailC
  rw [List.length_take]
  have := padN_lt (lenC s)
  omega
/-- A chunk is handed back, how many bytes it has, and which error is told; where it lies. -/
def ReadQ (c : Ck) (n e : Nat) (w : World) (en : Ending) (w' : World) : Prop :=
  ∃ g d it, en = .returned (.tuple #[.agg (cellsC c g d it), .int .i64 (n : Int), .int .i64 (e : Int)]) ∧ Parts w' c g d it ∧ Below w.heap.size w w'
set_option maxHeartbeats 8000000 in
theorem ckparse_any (s : ByteArray) (hs : s.size ≤ 1000000) (w : World) :
    Calls Try.prog 17 #[.string s] w (ReadQ (parseC s).1 (parseC s).2.1 (parseC s).2.2 w) := by
  have HCS := Lib.hid ckSize
  have HONE : Hid ((#[.int .i64 0, .int .i64 0, .int .u32 0, .int .u32 0, .int .u32 0, .int .u32 0, .int .u16 0, .int .u16 0, .int .u16 0, .int .u16 0, .slice none 0 0, .slice none 0 0, .slice none 0 0, .string ⟨#[]⟩] : Array Value).all (·.oneCell') = true) := Lib.hid (by kernel_rfl)
  by_cases h1 : s.size < 4
  · have e : parseC s = (zeroC 0 0, 0, 3) := by unfold parseC; rw [if_pos h1]
    rw [e]
    dsimp only
    have k1 : (s.size : Int) < 4 := by omega
    clear e h1
    go_enter Try.func17, Try.ntmps17
    go_wp2_with fail
    exact bodyPost_ret (v := .tuple #[.agg #[.int .i64 0, .int .i64 0, .int .u32 0, .int .u32 0, .int .u32 0, .int .u32 0, .int .u16 0, .int .u16 0, .int .u16 0, .int .u16 0, .slice none 0 0, .slice none 0 0, .slice none 0 0, .string ⟨#[]⟩], .int .i64 0, .int .i64 3]) (results_row2 Try.results17 _ _ w.heap.size _ #[.int .i64 0, .int .i64 0, .int .u32 0, .int .u32 0, .int .u32 0, .int .u32 0, .int .u16 0, .int .u16 0, .int .u16 0, .int .u16 0, .slice none 0 0, .slice none 0 0, .slice none 0 0, .string ⟨#[]⟩] _ _ (by rfl) (heap_alloc_new w _) Try.underlying28 rfl HCS.out) rfl ⟨_, _, _, rfl, Parts.zero _ _ _, (Below.refl _ _).alloc (Nat.le_refl _) _⟩
  have k1 : (4 : Int) ≤ (s.size : Int) := by omega
  obtain ⟨hb0, hb1, hb2⟩ := head_bytes s
  have hh4 := head_size s (by omega)
  have HVI := Lib.hid (val_is s)
  have HTI := Lib.hid (tail_is s)
  have HTL := Lib.hid (tailC_len s)
  have HSC := Lib.hid (show sizeC s = min (lenC s + padN (lenC s)) s.size from rfl)
  have HV := Lib.hid (show parseC s = if s.size < 4 then (zeroC 0 0, 0, 3) else if s.size < lenC s then (zeroC 0 0, 0, 3) else if lenC s < 4 then (zeroC 0 0, 0, 2) else if 1400 < lenC s then (zeroC 0 0, 0, 4)
    else if (parseV (byteAt s.data.toList 0) (byteAt s.data.toList 1) (valC s)).2 = true ∧ tailC s = zerosL (tailC s).length then ((parseV (byteAt s.data.toList 0) (byteAt s.data.toList 1) (valC s)).1, sizeC s, 0) else (zeroC 0 0, 0, 2) from rfl)
  rw [if_neg h1] at HV
  generalize parseC s = PR at *
  have G1 := read_8 (w.heap.size + 1) (s.extract 0 4) (by omega) false ((w.alloc (.cells #[.int .i64 0, .int .i64 0, .int .u32 0, .int .u32 0, .int .u32 0, .int .u32 0, .int .u16 0, .int .u16 0, .int .u16 0, .int .u16 0, .slice none 0 0, .slice none 0 0, .slice none 0 0, .string ⟨#[]⟩] 28)).alloc (.cells #[.string (s.extract 0 4), .bool false] 70)) (by have := heap_alloc_new (w.alloc (.cells #[.int .i64 0, .int .i64 0, .int .u32 0, .int .u32 0, .int .u32 0, .int .u32 0, .int .u16 0, .int .u16 0, .int .u16 0, .int .u16 0, .slice none 0 0, .slice none 0 0, .slice none 0 0, .string ⟨#[]⟩] 28)) (.cells #[.string (s.extract 0 4), .bool false] 70); rwa [World.size_alloc] at this)
  have G2 := fun W h => read_8 (w.heap.size + 1) (cutB (s.extract 0 4) 1) (by rw [cut_size]; omega) false W h
  have G3 := fun W h => read_16 (w.heap.size + 1) (cutB (s.extract 0 4) 2) (by rw [cut_size]; omega) false W h
  have e1 := rd8_at (s.extract 0 4) 0 false (by omega)
  rw [cut_zero, hb0] at e1
  rw [e1] at G1
  rw [rd8_at (s.extract 0 4) 1 false (by omega), hb1] at G2
  rw [rd16_at (s.extract 0 4) 2 false (by omega), hb2] at G3
  have hk0 := byteAt_lt s.data.toList 0
  have hk1 := byteAt_lt s.data.toList 1
  have hn : lenC s < 65536 := num_lt _ _
  have H1 := Lib.hid G1
  have H2 := Lib.hid G2
  have H3 := Lib.hid G3
  clear G1 G2 G3 e1 hb0 hb1 hb2 hh4 h1
  have HXo := Lib.hid ((Below.heap_alloc (w.alloc (.cells #[.int .i64 0, .int .i64 0, .int .u32 0, .int .u32 0, .int .u32 0, .int .u32 0, .int .u16 0, .int .u16 0, .int .u16 0, .int .u16 0, .slice none 0 0, .slice none 0 0, .slice none 0 0, .string ⟨#[]⟩] 28)) (.cells #[.string (s.extract 0 4), .bool false] 70) w.heap.size (by simp)).trans (heap_alloc_new w _))
  have HB := Lib.hid (((Below.refl w.heap.size w).alloc (Nat.le_refl _) (.cells #[.int .i64 0, .int .i64 0, .int .u32 0, .int .u32 0, .int .u32 0, .int .u32 0, .int .u16 0, .int .u16 0, .int .u16 0, .int .u16 0, .slice none 0 0, .slice none 0 0, .slice none 0 0, .string ⟨#[]⟩] 28)).alloc (by simp) (.cells #[.string (s.extract 0 4), .bool false] 70))
  generalize hx4 : s.extract 0 4 = h4 at *
  generalize byteAt s.data.toList 0 = k at *
  generalize byteAt s.data.toList 1 = f at *
  generalize valC s = v at *
  generalize tailC s = tl at *
  generalize sizeC s = sz at *
  generalize lenC s = n at *
  have q0 : (k : Int) < 256 := by omega
  have q1 : (f : Int) < 256 := by omega
  have q3 : (s.size : Int) ≤ 1000000 := by omega
  by_cases h2 : s.size < n
  · rw [if_pos h2] at HV
    rw [HV.out]
    have k2 : (s.size : Int) < (n : Int) := by omega
    clear HV h2 HVI HTI HTL HSC
    go_enter Try.func17, Try.ntmps17
    go_wp2_with fail
    refine H1.out.mono ?_
    rintro _ w1 ⟨rfl, hr, ht⟩
    replace HXo := Lib.hid ((ht.block w.heap.size (by omega)).trans HXo.out)
    replace HB := Lib.hid (HB.out.trans (ht.below (B := w.heap.size) fun j hj => by omega))
    have HXr := Lib.hid hr
    clear hr ht H1
    go_wp2_with fail
    refine (H2.out _ HXr.out).mono ?_
    rintro _ w2 ⟨rfl, hr, ht⟩
    replace HXo := Lib.hid ((ht.block w.heap.size (by omega)).trans HXo.out)
    replace HB := Lib.hid (HB.out.trans (ht.below (B := w.heap.size) fun j hj => by omega))
    replace HXr := Lib.hid hr
    clear hr ht H2
    go_wp2_with fail
    refine (H3.out _ HXr.out).mono ?_
    rintro _ w3 ⟨rfl, hr, ht⟩
    replace HXo := Lib.hid ((ht.block w.heap.size (by omega)).trans HXo.out)
    replace HB := Lib.hid (HB.out.trans (ht.below (B := w.heap.size) fun j hj => by omega))
    clear hr ht H3 HXr
    go_wp2_with (refine wpList_store_row rfl 28 (.tmp 2) (.tmp 32) rfl w.heap.size #[.int .i64 0, .int .i64 0, .int .u32 0, .int .u32 0, .int .u32 0, .int .u32 0, .int .u16 0, .int .u16 0, .int .u16 0, .int .u16 0, .slice none 0 0, .slice none 0 0, .slice none 0 0, .string ⟨#[]⟩] rfl rfl 28 #[.int .i64 0, .int .i64 0, .int .u32 0, .int .u32 0, .int .u32 0, .int .u32 0, .int .u16 0, .int .u16 0, .int .u16 0, .int .u16 0, .slice none 0 0, .slice none 0 0, .slice none 0 0, .string ⟨#[]⟩] HXo.out HCS.out rfl HONE.out ?_)
    exact bodyPost_ret (v := .tuple #[.agg #[.int .i64 0, .int .i64 0, .int .u32 0, .int .u32 0, .int .u32 0, .int .u32 0, .int .u16 0, .int .u16 0, .int .u16 0, .int .u16 0, .slice none 0 0, .slice none 0 0, .slice none 0 0, .string ⟨#[]⟩], .int .i64 0, .int .i64 3]) (results_row2 Try.results17 _ _ w.heap.size _ #[.int .i64 0, .int .i64 0, .int .u32 0, .int .u32 0, .int .u32 0, .int .u32 0, .int .u16 0, .int .u16 0, .int .u16 0, .int .u16 0, .slice none 0 0, .slice none 0 0, .slice none 0 0, .string ⟨#[]⟩] _ _ (by rfl) (setRow_heap _ _ _ #[.int .i64 0, .int .i64 0, .int .u32 0, .int .u32 0, .int .u32 0, .int .u32 0, .int .u16 0, .int .u16 0, .int .u16 0, .int .u16 0, .slice none 0 0, .slice none 0 0, .slice none 0 0, .string ⟨#[]⟩] _ _ HXo.out) Try.underlying28 rfl HCS.out) rfl ⟨_, _, _, rfl, Parts.zero _ _ _, by rw [setRow_self _ _ _ _ _ HXo.out]; exact HB.out⟩
  rw [if_neg h2] at HV
  have k2 : (n : Int) ≤ (s.size : Int) := by omega
  by_cases h3 : n < 4
  · rw [if_pos h3] at HV
    rw [HV.out]
    have k3 : (n : Int) < 4 := by omega
    clear HV h3 HVI HTI HTL HSC h2
    go_enter Try.func17, Try.ntmps17
    go_wp2_with fail
    refine H1.out.mono ?_
    rintro _ w1 ⟨rfl, hr, ht⟩
    replace HXo := Lib.hid ((ht.block w.heap.size (by omega)).trans HXo.out)
    replace HB := Lib.hid (HB.out.trans (ht.below (B := w.heap.size) fun j hj => by omega))
    have HXr := Lib.hid hr
    clear hr ht H1
    go_wp2_with fail
    refine (H2.out _ HXr.out).mono ?_
    rintro _ w2 ⟨rfl, hr, ht⟩
    replace HXo := Lib.hid ((ht.block w.heap.size (by omega)).trans HXo.out)
    replace HB := Lib.hid (HB.out.trans (ht.below (B := w.heap.size) fun j hj => by omega))
    replace HXr := Lib.hid hr
    clear hr ht H2
    go_wp2_with fail
    refine (H3.out _ HXr.out).mono ?_
    rintro _ w3 ⟨rfl, hr, ht⟩
    replace HXo := Lib.hid ((ht.block w.heap.size (by omega)).trans HXo.out)
    replace HB := Lib.hid (HB.out.trans (ht.below (B := w.heap.size) fun j hj => by omega))
    clear hr ht H3 HXr
    go_wp2_with (refine wpList_store_row rfl 28 (.tmp 2) (.tmp 36) rfl w.heap.size #[.int .i64 0, .int .i64 0, .int .u32 0, .int .u32 0, .int .u32 0, .int .u32 0, .int .u16 0, .int .u16 0, .int .u16 0, .int .u16 0, .slice none 0 0, .slice none 0 0, .slice none 0 0, .string ⟨#[]⟩] rfl rfl 28 #[.int .i64 0, .int .i64 0, .int .u32 0, .int .u32 0, .int .u32 0, .int .u32 0, .int .u16 0, .int .u16 0, .int .u16 0, .int .u16 0, .slice none 0 0, .slice none 0 0, .slice none 0 0, .string ⟨#[]⟩] HXo.out HCS.out rfl HONE.out ?_)
    exact bodyPost_ret (v := .tuple #[.agg #[.int .i64 0, .int .i64 0, .int .u32 0, .int .u32 0, .int .u32 0, .int .u32 0, .int .u16 0, .int .u16 0, .int .u16 0, .int .u16 0, .slice none 0 0, .slice none 0 0, .slice none 0 0, .string ⟨#[]⟩], .int .i64 0, .int .i64 2]) (results_row2 Try.results17 _ _ w.heap.size _ #[.int .i64 0, .int .i64 0, .int .u32 0, .int .u32 0, .int .u32 0, .int .u32 0, .int .u16 0, .int .u16 0, .int .u16 0, .int .u16 0, .slice none 0 0, .slice none 0 0, .slice none 0 0, .string ⟨#[]⟩] _ _ (by rfl) (setRow_heap _ _ _ #[.int .i64 0, .int .i64 0, .int .u32 0, .int .u32 0, .int .u32 0, .int .u32 0, .int .u16 0, .int .u16 0, .int .u16 0, .int .u16 0, .slice none 0 0, .slice none 0 0, .slice none 0 0, .string ⟨#[]⟩] _ _ HXo.out) Try.underlying28 rfl HCS.out) rfl ⟨_, _, _, rfl, Parts.zero _ _ _, by rw [setRow_self _ _ _ _ _ HXo.out]; exact HB.out⟩
  rw [if_neg h3] at HV
  have k3 : (4 : Int) ≤ (n : Int) := by omega
  by_cases h4' : 1400 < n
  · rw [if_pos h4'] at HV
    rw [HV.out]
    have k4 : (1400 : Int) < (n : Int) := by omega
    clear HV h3 HVI HTI HTL HSC h2 h4'
    go_enter Try.func17, Try.ntmps17
    go_wp2_with fail
    refine H1.out.mono ?_
    rintro _ w1 ⟨rfl, hr, ht⟩
    replace HXo := Lib.hid ((ht.block w.heap.size (by omega)).trans HXo.out)
    replace HB := Lib.hid (HB.out.trans (ht.below (B := w.heap.size) fun j hj => by omega))
    have HXr := Lib.hid hr
    clear hr ht H1
    go_wp2_with fail
    refine (H2.out _ HXr.out).mono ?_
    rintro _ w2 ⟨rfl, hr, ht⟩
    replace HXo := Lib.hid ((ht.block w.heap.size (by omega)).trans HXo.out)
    replace HB := Lib.hid (HB.out.trans (ht.below (B := w.heap.size) fun j hj => by omega))
    replace HXr := Lib.hid hr
    clear hr ht H2
    go_wp2_with fail
    refine (H3.out _ HXr.out).mono ?_
    rintro _ w3 ⟨rfl, hr, ht⟩
    replace HXo := Lib.hid ((ht.block w.heap.size (by omega)).trans HXo.out)
    replace HB := Lib.hid (HB.out.trans (ht.below (B := w.heap.size) fun j hj => by omega))
    clear hr ht H3 HXr
    go_wp2_with (refine wpList_store_row rfl 28 (.tmp 2) (.tmp 40) rfl w.heap.size #[.int .i64 0, .int .i64 0, .int .u32 0, .int .u32 0, .int .u32 0, .int .u32 0, .int .u16 0, .int .u16 0, .int .u16 0, .int .u16 0, .slice none 0 0, .slice none 0 0, .slice none 0 0, .string ⟨#[]⟩] rfl rfl 28 #[.int .i64 0, .int .i64 0, .int .u32 0, .int .u32 0, .int .u32 0, .int .u32 0, .int .u16 0, .int .u16 0, .int .u16 0, .int .u16 0, .slice none 0 0, .slice none 0 0, .slice none 0 0, .string ⟨#[]⟩] HXo.out HCS.out rfl HONE.out ?_)
    exact bodyPost_ret (v := .tuple #[.agg #[.int .i64 0, .int .i64 0, .int .u32 0, .int .u32 0, .int .u32 0, .int .u32 0, .int .u16 0, .int .u16 0, .int .u16 0, .int .u16 0, .slice none 0 0, .slice none 0 0, .slice none 0 0, .string ⟨#[]⟩], .int .i64 0, .int .i64 4]) (results_row2 Try.results17 _ _ w.heap.size _ #[.int .i64 0, .int .i64 0, .int .u32 0, .int .u32 0, .int .u32 0, .int .u32 0, .int .u16 0, .int .u16 0, .int .u16 0, .int .u16 0, .slice none 0 0, .slice none 0 0, .slice none 0 0, .string ⟨#[]⟩] _ _ (by rfl) (setRow_heap _ _ _ #[.int .i64 0, .int .i64 0, .int .u32 0, .int .u32 0, .int .u32 0, .int .u32 0, .int .u16 0, .int .u16 0, .int .u16 0, .int .u16 0, .slice none 0 0, .slice none 0 0, .slice none 0 0, .string ⟨#[]⟩] _ _ HXo.out) Try.underlying28 rfl HCS.out) rfl ⟨_, _, _, rfl, Parts.zero _ _ _, by rw [setRow_self _ _ _ _ _ HXo.out]; exact HB.out⟩
  rw [if_neg h4'] at HV
  have k4 : (n : Int) ≤ 1400 := by omega
  have hvi := HVI.out
  have hvs : v.size ≤ 4000 := by
    rw [← hvi, size_list, cut_list, List.length_take]
    omega
  have HPV := Lib.hid (fun W => parseVal_any (k : Int) (f : Int) v hvs W)
  generalize parseV (k : Int) (f : Int) v = PV at *
  obtain ⟨c0, ok⟩ := PV
  dsimp only at HV HPV
  have HPD := Lib.hid (fun W => pad_any (n : Int) (by omega) (by omega) W)
  rw [padI_nat] at HPD
  have hpd := padN_lt n
  generalize padN n = p at *
  have hsz := HSC.out
  have hmin : (min ((n : Int) + (p : Int)) (s.size : Int)) = (sz : Int) := by rw [hsz]; omega
  have r1 : (n : Int) ≤ (sz : Int) := by omega
  have r2 : (sz : Int) ≤ (s.size : Int) := by omega
  have r3 : (p : Int) < 4 := by omega
  have HTI1 := Lib.hid (HTI.out (by omega))
  clear HVI HTI HSC h2 h3 h4' hvs hsz hpd
  have hhp := Try.strings_HasPrefix ⟨#[0, 0, 0]⟩ (s.extract n sz)
  rw [HTI1.out, prefix_noughts tl HTL.out] at hhp
  have HHP := Lib.hid hhp
  have HVZ := Lib.hid (fun (h : tl = zerosL tl.length) => decide_eq_true h)
  have HVN := Lib.hid (fun (h : ¬ tl = zerosL tl.length) => decide_eq_false h)
  clear hhp HTI1 HTL
  obtain ⟨ty, fl, tsn, tag, win, ppid, st, ssn, outs, ins, gaps, dups, items, text⟩ := c0
  cases ok with
  | false =>
    rw [if_neg (by simp)] at HV
    rw [HV.out]
    clear HVZ HVN HHP
    go_enter Try.func17, Try.ntmps17
    go_wp2_with fail
    refine H1.out.mono ?_
    rintro _ w1 ⟨rfl, hr, ht⟩
    replace HXo := Lib.hid ((ht.block w.heap.size (by omega)).trans HXo.out)
    replace HB := Lib.hid (HB.out.trans (ht.below (B := w.heap.size) fun j hj => by omega))
    have HXr := Lib.hid hr
    clear hr ht H1
    go_wp2_with fail
    refine (H2.out _ HXr.out).mono ?_
    rintro _ w2 ⟨rfl, hr, ht⟩
    replace HXo := Lib.hid ((ht.block w.heap.size (by omega)).trans HXo.out)
    replace HB := Lib.hid (HB.out.trans (ht.below (B := w.heap.size) fun j hj => by omega))
    replace HXr := Lib.hid hr
    clear hr ht H2
    go_wp2_with fail
    refine (H3.out _ HXr.out).mono ?_
    rintro _ w3 ⟨rfl, hr, ht⟩
    replace HXo := Lib.hid ((ht.block w.heap.size (by omega)).trans HXo.out)
    replace HB := Lib.hid (HB.out.trans (ht.below (B := w.heap.size) fun j hj => by omega))
    clear hr ht H3 HXr
    have hnw : w.heap.size < w3.heap.size := (Array.getElem?_eq_some_iff.1 HXo.out).1
    go_wp2_with fail
    refine (HPV.out _).mono ?_
    rintro _ w5 ⟨g, d, it, rfl, hp, ha, hb⟩
    obtain ⟨⟨A1, k1', rfl⟩, ⟨A2, k2', rfl⟩, ⟨A3, k3', rfl⟩⟩ := hp.slices
    have HONEC := Lib.hid hp.one
    have HXo5 := Lib.hid ((Below.heap_alloc w5 (.cells #[.int .i64 ty, .int .i64 fl, .int .u32 (tsn : Int), .int .u32 (tag : Int), .int .u32 (win : Int), .int .u32 (ppid : Int), .int .u16 (st : Int), .int .u16 (ssn : Int), .int .u16 (outs : Int), .int .u16 (ins : Int), .slice A1 gaps.length k1', .slice A2 dups.length k2', .slice A3 items.length k3', .string text] 28) _ (by have := hb.size; omega)).trans ((hb.block _ hnw).trans HXo.out))
    have HB5 := Lib.hid ((HB.out.trans (hb.mono HB.out.size)).alloc (Nat.le_trans HB.out.size hb.size) (.cells #[.int .i64 ty, .int .i64 fl, .int .u32 (tsn : Int), .int .u32 (tag : Int), .int .u32 (win : Int), .int .u32 (ppid : Int), .int .u16 (st : Int), .int .u16 (ssn : Int), .int .u16 (outs : Int), .int .u16 (ins : Int), .slice A1 gaps.length k1', .slice A2 dups.length k2', .slice A3 items.length k3', .string text] 28))
    have HPP := Lib.hid (hp.below ((Below.refl _ _).alloc (Nat.le_refl _) (.cells #[.int .i64 ty, .int .i64 fl, .int .u32 (tsn : Int), .int .u32 (tag : Int), .int .u32 (win : Int), .int .u32 (ppid : Int), .int .u16 (st : Int), .int .u16 (ssn : Int), .int .u16 (outs : Int), .int .u16 (ins : Int), .slice A1 gaps.length k1', .slice A2 dups.length k2', .slice A3 items.length k3', .string text] 28)))
    have HA := Lib.hid (fun j hj => Nat.lt_of_lt_of_le hnw (ha j hj))
    dsimp only [cellsC] at HONEC HPP HA ⊢
    clear hp ha hb HXo HB HPV
    go_wp2_with fail
    refine (HPD.out _).mono ?_
    rintro _ w6 ⟨rfl, rfl⟩
    go_wp2_with (refine wpList_store_row rfl 28 (.tmp 2) (.tmp 69) rfl w.heap.size #[.int .i64 0, .int .i64 0, .int .u32 0, .int .u32 0, .int .u32 0, .int .u32 0, .int .u16 0, .int .u16 0, .int .u16 0, .int .u16 0, .slice none 0 0, .slice none 0 0, .slice none 0 0, .string ⟨#[]⟩] rfl rfl 28 #[.int .i64 0, .int .i64 0, .int .u32 0, .int .u32 0, .int .u32 0, .int .u32 0, .int .u16 0, .int .u16 0, .int .u16 0, .int .u16 0, .slice none 0 0, .slice none 0 0, .slice none 0 0, .string ⟨#[]⟩] HXo5.out HCS.out rfl HONE.out ?_)
    exact bodyPost_ret (v := .tuple #[.agg #[.int .i64 0, .int .i64 0, .int .u32 0, .int .u32 0, .int .u32 0, .int .u32 0, .int .u16 0, .int .u16 0, .int .u16 0, .int .u16 0, .slice none 0 0, .slice none 0 0, .slice none 0 0, .string ⟨#[]⟩], .int .i64 0, .int .i64 2]) (results_row2 Try.results17 _ _ w.heap.size _ #[.int .i64 0, .int .i64 0, .int .u32 0, .int .u32 0, .int .u32 0, .int .u32 0, .int .u16 0, .int .u16 0, .int .u16 0, .int .u16 0, .slice none 0 0, .slice none 0 0, .slice none 0 0, .string ⟨#[]⟩] _ _ (by rfl) (setRow_heap _ _ _ #[.int .i64 0, .int .i64 0, .int .u32 0, .int .u32 0, .int .u32 0, .int .u32 0, .int .u16 0, .int .u16 0, .int .u16 0, .int .u16 0, .slice none 0 0, .slice none 0 0, .slice none 0 0, .string ⟨#[]⟩] _ _ HXo5.out) Try.underlying28 rfl HCS.out) rfl ⟨_, _, _, rfl, Parts.zero _ _ _, by rw [setRow_self _ _ _ _ _ HXo5.out]; exact HB5.out⟩
  | true =>
    by_cases hz : tl = zerosL tl.length
    · rw [HVZ.out hz] at HHP
      rw [if_pos ⟨rfl, hz⟩] at HV
      rw [HV.out]
      clear HVZ HVN hz
      go_enter Try.func17, Try.ntmps17
      go_wp2_with fail
      refine H1.out.mono ?_
      rintro _ w1 ⟨rfl, hr, ht⟩
      replace HXo := Lib.hid ((ht.block w.heap.size (by omega)).trans HXo.out)
      replace HB := Lib.hid (HB.out.trans (ht.below (B := w.heap.size) fun j hj => by omega))
      have HXr := Lib.hid hr
      clear hr ht H1
      go_wp2_with fail
      refine (H2.out _ HXr.out).mono ?_
      rintro _ w2 ⟨rfl, hr, ht⟩
      replace HXo := Lib.hid ((ht.block w.heap.size (by omega)).trans HXo.out)
      replace HB := Lib.hid (HB.out.trans (ht.below (B := w.heap.size) fun j hj => by omega))
      replace HXr := Lib.hid hr
      clear hr ht H2
      go_wp2_with fail
      refine (H3.out _ HXr.out).mono ?_
      rintro _ w3 ⟨rfl, hr, ht⟩
      replace HXo := Lib.hid ((ht.block w.heap.size (by omega)).trans HXo.out)
      replace HB := Lib.hid (HB.out.trans (ht.below (B := w.heap.size) fun j hj => by omega))
      clear hr ht H3 HXr
      have hnw : w.heap.size < w3.heap.size := (Array.getElem?_eq_some_iff.1 HXo.out).1
      go_wp2_with fail
      refine (HPV.out _).mono ?_
      rintro _ w5 ⟨g, d, it, rfl, hp, ha, hb⟩
      obtain ⟨⟨A1, k1', rfl⟩, ⟨A2, k2', rfl⟩, ⟨A3, k3', rfl⟩⟩ := hp.slices
      have HONEC := Lib.hid hp.one
      have HXo5 := Lib.hid ((Below.heap_alloc w5 (.cells #[.int .i64 ty, .int .i64 fl, .int .u32 (tsn : Int), .int .u32 (tag : Int), .int .u32 (win : Int), .int .u32 (ppid : Int), .int .u16 (st : Int), .int .u16 (ssn : Int), .int .u16 (outs : Int), .int .u16 (ins : Int), .slice A1 gaps.length k1', .slice A2 dups.length k2', .slice A3 items.length k3', .string text] 28) _ (by have := hb.size; omega)).trans ((hb.block _ hnw).trans HXo.out))
      have HB5 := Lib.hid ((HB.out.trans (hb.mono HB.out.size)).alloc (Nat.le_trans HB.out.size hb.size) (.cells #[.int .i64 ty, .int .i64 fl, .int .u32 (tsn : Int), .int .u32 (tag : Int), .int .u32 (win : Int), .int .u32 (ppid : Int), .int .u16 (st : Int), .int .u16 (ssn : Int), .int .u16 (outs : Int), .int .u16 (ins : Int), .slice A1 gaps.length k1', .slice A2 dups.length k2', .slice A3 items.length k3', .string text] 28))
      have HPP := Lib.hid (hp.below ((Below.refl _ _).alloc (Nat.le_refl _) (.cells #[.int .i64 ty, .int .i64 fl, .int .u32 (tsn : Int), .int .u32 (tag : Int), .int .u32 (win : Int), .int .u32 (ppid : Int), .int .u16 (st : Int), .int .u16 (ssn : Int), .int .u16 (outs : Int), .int .u16 (ins : Int), .slice A1 gaps.length k1', .slice A2 dups.length k2', .slice A3 items.length k3', .string text] 28)))
      have HA := Lib.hid (fun j hj => Nat.lt_of_lt_of_le hnw (ha j hj))
      dsimp only [cellsC] at HONEC HPP HA ⊢
      clear hp ha hb HXo HB HPV
      go_wp2_with fail
      refine (HPD.out _).mono ?_
      rintro _ w6 ⟨rfl, rfl⟩
      go_wp2_with fail
      refine (HHP.out _).mono ?_
      rintro _ w7 ⟨rfl, rfl⟩
      go_wp2_with (refine wpList_store_row rfl 28 (.tmp 2) (.tmp 70) rfl w.heap.size #[.int .i64 ty, .int .i64 fl, .int .u32 (tsn : Int), .int .u32 (tag : Int), .int .u32 (win : Int), .int .u32 (ppid : Int), .int .u16 (st : Int), .int .u16 (ssn : Int), .int .u16 (outs : Int), .int .u16 (ins : Int), .slice A1 gaps.length k1', .slice A2 dups.length k2', .slice A3 items.length k3', .string text] rfl rfl 28 #[.int .i64 0, .int .i64 0, .int .u32 0, .int .u32 0, .int .u32 0, .int .u32 0, .int .u16 0, .int .u16 0, .int .u16 0, .int .u16 0, .slice none 0 0, .slice none 0 0, .slice none 0 0, .string ⟨#[]⟩] HXo5.out HCS.out rfl HONEC.out ?_)
      exact bodyPost_ret (v := .tuple #[.agg #[.int .i64 ty, .int .i64 fl, .int .u32 (tsn : Int), .int .u32 (tag : Int), .int .u32 (win : Int), .int .u32 (ppid : Int), .int .u16 (st : Int), .int .u16 (ssn : Int), .int .u16 (outs : Int), .int .u16 (ins : Int), .slice A1 gaps.length k1', .slice A2 dups.length k2', .slice A3 items.length k3', .string text], .int .i64 (sz : Int), .int .i64 0]) (results_row2 Try.results17 _ _ w.heap.size _ #[.int .i64 ty, .int .i64 fl, .int .u32 (tsn : Int), .int .u32 (tag : Int), .int .u32 (win : Int), .int .u32 (ppid : Int), .int .u16 (st : Int), .int .u16 (ssn : Int), .int .u16 (outs : Int), .int .u16 (ins : Int), .slice A1 gaps.length k1', .slice A2 dups.length k2', .slice A3 items.length k3', .string text] _ _ (by rfl) (setRow_heap _ _ _ #[.int .i64 ty, .int .i64 fl, .int .u32 (tsn : Int), .int .u32 (tag : Int), .int .u32 (win : Int), .int .u32 (ppid : Int), .int .u16 (st : Int), .int .u16 (ssn : Int), .int .u16 (outs : Int), .int .u16 (ins : Int), .slice A1 gaps.length k1', .slice A2 dups.length k2', .slice A3 items.length k3', .string text] _ _ HXo5.out) Try.underlying28 rfl HCS.out) rfl ⟨_, _, _, rfl, HPP.out.keep (by simp) (fun j hj => setRow_other _ _ _ _ (by have := HA.out j hj; omega)), below_setRow HB5.out (Nat.le_refl _) _⟩
    · rw [HVN.out hz] at HHP
      rw [if_neg (by rintro ⟨-, h⟩; exact hz h)] at HV
      rw [HV.out]
      clear HVZ HVN hz
      go_enter Try.func17, Try.ntmps17
      go_wp2_with fail
      refine H1.out.mono ?_
      rintro _ w1 ⟨rfl, hr, ht⟩
      replace HXo := Lib.hid ((ht.block w.heap.size (by omega)).trans HXo.out)
      replace HB := Lib.hid (HB.out.trans (ht.below (B := w.heap.size) fun j hj => by omega))
      have HXr := Lib.hid hr
      clear hr ht H1
      go_wp2_with fail
      refine (H2.out _ HXr.out).mono ?_
      rintro _ w2 ⟨rfl, hr, ht⟩
      replace HXo := Lib.hid ((ht.block w.heap.size (by omega)).trans HXo.out)
      replace HB := Lib.hid (HB.out.trans (ht.below (B := w.heap.size) fun j hj => by omega))
      replace HXr := Lib.hid hr
      clear hr ht H2
      go_wp2_with fail
      refine (H3.out _ HXr.out).mono ?_
      rintro _ w3 ⟨rfl, hr, ht⟩
      replace HXo := Lib.hid ((ht.block w.heap.size (by omega)).trans HXo.out)
      replace HB := Lib.hid (HB.out.trans (ht.below (B := w.heap.size) fun j hj => by omega))
      clear hr ht H3 HXr
      have hnw : w.heap.size < w3.heap.size := (Array.getElem?_eq_some_iff.1 HXo.out).1
      go_wp2_with fail
      refine (HPV.out _).mono ?_
      rintro _ w5 ⟨g, d, it, rfl, hp, ha, hb⟩
      obtain ⟨⟨A1, k1', rfl⟩, ⟨A2, k2', rfl⟩, ⟨A3, k3', rfl⟩⟩ := hp.slices
      have HONEC := Lib.hid hp.one
      have HXo5 := Lib.hid ((Below.heap_alloc w5 (.cells #[.int .i64 ty, .int .i64 fl, .int .u32 (tsn : Int), .int .u32 (tag : Int), .int .u32 (win : Int), .int .u32 (ppid : Int), .int .u16 (st : Int), .int .u16 (ssn : Int), .int .u16 (outs : Int), .int .u16 (ins : Int), .slice A1 gaps.length k1', .slice A2 dups.length k2', .slice A3 items.length k3', .string text] 28) _ (by have := hb.size; omega)).trans ((hb.block _ hnw).trans HXo.out))
      have HB5 := Lib.hid ((HB.out.trans (hb.mono HB.out.size)).alloc (Nat.le_trans HB.out.size hb.size) (.cells #[.int .i64 ty, .int .i64 fl, .int .u32 (tsn : Int), .int .u32 (tag : Int), .int .u32 (win : Int), .int .u32 (ppid : Int), .int .u16 (st : Int), .int .u16 (ssn : Int), .int .u16 (outs : Int), .int .u16 (ins : Int), .slice A1 gaps.length k1', .slice A2 dups.length k2', .slice A3 items.length k3', .string text] 28))
      have HPP := Lib.hid (hp.below ((Below.refl _ _).alloc (Nat.le_refl _) (.cells #[.int .i64 ty, .int .i64 fl, .int .u32 (tsn : Int), .int .u32 (tag : Int), .int .u32 (win : Int), .int .u32 (ppid : Int), .int .u16 (st : Int), .int .u16 (ssn : Int), .int .u16 (outs : Int), .int .u16 (ins : Int), .slice A1 gaps.length k1', .slice A2 dups.length k2', .slice A3 items.length k3', .string text] 28)))
      have HA := Lib.hid (fun j hj => Nat.lt_of_lt_of_le hnw (ha j hj))
      dsimp only [cellsC] at HONEC HPP HA ⊢
      clear hp ha hb HXo HB HPV
      go_wp2_with fail
      refine (HPD.out _).mono ?_
      rintro _ w6 ⟨rfl, rfl⟩
      go_wp2_with fail
      refine (HHP.out _).mono ?_
      rintro _ w7 ⟨rfl, rfl⟩
      go_wp2_with (refine wpList_store_row rfl 28 (.tmp 2) (.tmp 69) rfl w.heap.size #[.int .i64 0, .int .i64 0, .int .u32 0, .int .u32 0, .int .u32 0, .int .u32 0, .int .u16 0, .int .u16 0, .int .u16 0, .int .u16 0, .slice none 0 0, .slice none 0 0, .slice none 0 0, .string ⟨#[]⟩] rfl rfl 28 #[.int .i64 0, .int .i64 0, .int .u32 0, .int .u32 0, .int .u32 0, .int .u32 0, .int .u16 0, .int .u16 0, .int .u16 0, .int .u16 0, .slice none 0 0, .slice none 0 0, .slice none 0 0, .string ⟨#[]⟩] HXo5.out HCS.out rfl HONE.out ?_)
      exact bodyPost_ret (v := .tuple #[.agg #[.int .i64 0, .int .i64 0, .int .u32 0, .int .u32 0, .int .u32 0, .int .u32 0, .int .u16 0, .int .u16 0, .int .u16 0, .int .u16 0, .slice none 0 0, .slice none 0 0, .slice none 0 0, .string ⟨#[]⟩], .int .i64 0, .int .i64 2]) (results_row2 Try.results17 _ _ w.heap.size _ #[.int .i64 0, .int .i64 0, .int .u32 0, .int .u32 0, .int .u32 0, .int .u32 0, .int .u16 0, .int .u16 0, .int .u16 0, .int .u16 0, .slice none 0 0, .slice none 0 0, .slice none 0 0, .string ⟨#[]⟩] _ _ (by rfl) (setRow_heap _ _ _ #[.int .i64 0, .int .i64 0, .int .u32 0, .int .u32 0, .int .u32 0, .int .u32 0, .int .u16 0, .int .u16 0, .int .u16 0, .int .u16 0, .slice none 0 0, .slice none 0 0, .slice none 0 0, .string ⟨#[]⟩] _ _ HXo5.out) Try.underlying28 rfl HCS.out) rfl ⟨_, _, _, rfl, Parts.zero _ _ _, by rw [setRow_self _ _ _ _ _ HXo5.out]; exact HB5.out⟩
end Go.Proofs.Ytjdnlolhcjalmaa
