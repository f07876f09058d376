/-
  Package ip: a datagram that was built, taken apart; one with a byte of its header turned.
-/
import Derived.Test.YtgodhbliamlclaaDoorParsed
import Derived.Test.YtgodhbliamlclaaDoorDatagram
namespace Go.Proofs.YtgodhbliamlclaaDoor
open Go.RowKit
set_option linter.unusedVariables false

theorem held_same (n : Int) (h : n ≤ 1500) : heldE n n = 0 := by unfold heldE; rw [if_neg (by omega), if_neg (by omega), if_neg (by omega)]
theorem head4_size (hops mark n : Nat) (f t s : ByteArray) (hf : f.size = 4) (ht : t.size = 4) : (head4 hops mark f t n ++ s).size = 20 + s.size := by
  unfold head4 ahead4; simp only [ByteArray.size_append, twoB_size]; omega
theorem head6_size (hops n : Nat) (f t s : ByteArray) (hf : f.size = 16) (ht : t.size = 16) : (head6 hops f t n ++ s).size = 40 + s.size := by
  unfold head6; simp only [ByteArray.size_append, twoB_size]; omega
theorem one5 (a b c : Int) (f t : ByteArray) : (#[.int .i64 a, .int .i64 b, .int .i64 c, .string f, .string t] : Array Value).all (·.oneCell') = true := by kernel_rfl
theorem nib_of_num {l : List UInt8} {b c : Nat} (h : num l 0 = b * 256 + c) (hc : c < 256) : byteAt l 0 = b := by
  have := byteAt_lt l 1
  unfold num at h
  simp only [Nat.zero_add] at h
  omega

theorem parse_back4 (hops mark : Nat) (hh : hops < 256) (hm : mark < 65536) (f t s : ByteArray) (hf : f.size = 4) (ht : t.size = 4) (hl : s.size ≤ 1500) (w : World) :
    Calls Tryd.prog 16 #[.string (head4 hops mark f t s.size ++ s)] w fun e w' => e = .returned (.tuple #[.agg #[.int .i64 4, .int .i64 hops, .int .i64 mark, .string f, .string t], .string s, .int .i64 0]) ∧ Below w.heap.size w w' := by
  obtain ⟨r0, r2, r4, r6, r8, r9, r10⟩ := read4 (s := s) hh hm hf ht rfl hl
  obtain ⟨c1, c2, c3, c4, c5, _⟩ := cut4 (mark := mark) (s := s) hh hf ht rfl
  have hsz := head4_size hops mark s.size f t s hf ht
  generalize hD : head4 hops mark f t s.size ++ s = D at *
  have h := parse_good D (by omega) 4 hops mark 20 s.size (by omega) f t (fun Bs Ba X hX => ?_) w
  · rw [c5] at h
    exact h
  · have hnib : byteAt D.data.toList 0 = 69 := nib_of_num (b := 69) (c := 0) r0 (by omega)
    refine header_4 Bs Ba D (by omega) (by omega) #[.int .i64 4, .int .i64 hops, .int .i64 mark, .string f, .string t] rfl (one5 _ _ _ _ _) _ _ 20 X hX fun Y hY => ?_
    refine parse4_any Bs Ba D (by omega) (by omega) Y hY _ (fun hne => ?_) (fun _ hor => ?_) (fun _ _ _ _ _ => ?_)
    · rw [c1, c2, r10] at hne
      exact absurd rfl hne
    · rw [r0, r2, r6, r9] at hor
      omega
    · rw [r8, r4, c3, c4, r2, hsz]
      have e1 : (((20 + s.size : Nat) : Int) - 20) = (s.size : Int) := by omega
      rw [e1, held_same _ (by omega)]
theorem parse_back6 (hops : Nat) (hh : hops < 256) (f t s : ByteArray) (hf : f.size = 16) (ht : t.size = 16) (hl : s.size ≤ 1500) (w : World) :
    Calls Tryd.prog 16 #[.string (head6 hops f t s.size ++ s)] w fun e w' => e = .returned (.tuple #[.agg #[.int .i64 6, .int .i64 hops, .int .i64 0, .string f, .string t], .string s, .int .i64 0]) ∧ Below w.heap.size w w' := by
  obtain ⟨r0, r2, r4, r6, r7⟩ := read6 (f := f) (t := t) (s := s) (n := s.size) hh hl
  obtain ⟨c1, c2, c3⟩ := cut6 (s := s) hh hf ht rfl
  have hsz := head6_size hops s.size f t s hf ht
  generalize hD : head6 hops f t s.size ++ s = D at *
  have h := parse_good D (by omega) 6 hops 0 40 s.size (by omega) f t (fun Bs Ba X hX => ?_) w
  · rw [c3] at h
    exact h
  · have hnib : byteAt D.data.toList 0 = 96 := nib_of_num (b := 96) (c := 0) r0 (by omega)
    refine header_6 Bs Ba D (by omega) (by omega) #[.int .i64 6, .int .i64 hops, .int .i64 0, .string f, .string t] rfl (one5 _ _ _ _ _) _ _ 40 X hX fun Y hY => ?_
    refine parse6_any Bs Ba D (by omega) (by omega) Y hY _ (fun hor => ?_) (fun _ _ _ => ?_)
    · rw [r0, r2, r6] at hor
      omega
    · rw [r7, r4, c1, c2, hsz]
      have e1 : (((40 + s.size : Nat) : Int) - 40) = (s.size : Int) := by omega
      rw [e1, held_same _ (by omega)]

/-! ### One byte turned -/
/-- The bytes that the check is reckoned of. -/
def around (l : List UInt8) : List UInt8 := l.take 10 ++ ([0, 0] ++ (l.drop 12).take 8)
theorem ck_around (d : ByteArray) : ckB (d.extract 0 10) (d.extract 12 20) = chk (around d.data.toList) := by
  unfold ckB sumB around
  rw [app_lists, app_lists, ext_list, ext_list, List.drop_zero, List.append_assoc]
  rfl
theorem chk_set_ne {l : List UInt8} {i : Nat} {y : UInt8} (h : i < l.length) (hne : y.toNat ≠ byteAt l i) : chk (l.set i y) ≠ chk l := by
  have hs := psum_set l i y h
  have hb := byteAt_lt l i
  have hy := y.toNat_lt
  have m1 := fold16_mod (psum (l.set i y))
  have m2 := fold16_mod (psum l)
  have f1 := fold16_le (psum (l.set i y))
  have f2 := fold16_le (psum l)
  intro e
  unfold chk at e
  have ef : fold16 (psum (l.set i y)) = fold16 (psum l) := by omega
  rw [ef] at m1
  generalize psum (l.set i y) = p at *
  generalize psum l = q at *
  generalize byteAt l i = b at *
  generalize y.toNat = z at *
  split at hs <;> omega
theorem around_low (l : List UInt8) (h : 20 ≤ l.length) {i : Nat} (hi : i < 10) (y : UInt8) : around (l.set i y) = (around l).set i y ∧ byteAt (around l) i = byteAt l i := by
  unfold around
  constructor
  · rw [List.take_set, List.drop_set, if_pos (by omega), ← List.set_append_left _ _ (by rw [List.length_take]; omega)]
  · unfold byteAt
    rw [List.getD_eq_getElem?_getD, List.getD_eq_getElem?_getD, List.getElem?_append_left (by rw [List.length_take]; omega), List.getElem?_take, if_pos (by omega)]
theorem around_mid (l : List UInt8) {i : Nat} (hi : 10 ≤ i) (hi2 : i < 12) (y : UInt8) : around (l.set i y) = around l := by
  unfold around
  rw [List.take_set, List.drop_set, if_pos (by omega), List.set_eq_of_length_le (by rw [List.length_take]; omega)]
theorem around_high (l : List UInt8) (h : 20 ≤ l.length) {i : Nat} (hi : 12 ≤ i) (hi2 : i < 20) (y : UInt8) : around (l.set i y) = (around l).set i y ∧ byteAt (around l) i = byteAt l i := by
  have l10 : (l.take 10).length = 10 := by rw [List.length_take]; omega
  unfold around
  constructor
  · rw [List.take_set, List.set_eq_of_length_le (i := i) (l := l.take 10) (by omega), List.drop_set, if_neg (by omega), List.take_set, List.set_append_right _ _ (by omega), l10, List.set_append_right _ _ (by simp; omega)]
    rw [show i - 10 - ([0, 0] : List UInt8).length = i - 12 by simp; omega]
  · unfold byteAt
    rw [List.getD_eq_getElem?_getD, List.getD_eq_getElem?_getD, List.getElem?_append_right (by omega), l10, List.getElem?_append_right (by simp; omega), List.getElem?_take, if_pos (by simp; omega), List.getElem?_drop]
    rw [show 12 + (i - 10 - ([0, 0] : List UInt8).length) = i by simp; omega]
theorem num_set_ne {l : List UInt8} {i k : Nat} {y : UInt8} (h1 : i ≠ k) (h2 : i ≠ k + 1) : num (l.set i y) k = num l k := by
  unfold num byteAt
  simp only [List.getD_eq_getElem?_getD]
  rw [List.getElem?_set_ne h1, List.getElem?_set_ne h2]
theorem byte_set_ne {l : List UInt8} {i k : Nat} {y : UInt8} (h1 : i ≠ k) : byteAt (l.set i y) k = byteAt l k := by
  unfold byteAt
  simp only [List.getD_eq_getElem?_getD]
  rw [List.getElem?_set_ne h1]
theorem byte_set_same {l : List UInt8} {i : Nat} {y : UInt8} (h : i < l.length) : byteAt (l.set i y) i = y.toNat := by
  unfold byteAt
  simp only [List.getD_eq_getElem?_getD]
  rw [List.getElem?_set_self h]
  rfl
/-- The check of a header with one byte turned is another one. -/
theorem turned_sum {l : List UInt8} (h : 20 ≤ l.length) (hc : num l 10 = chk (around l)) {i : Nat} (hi : i < 20) {y : UInt8} (hy : y.toNat ≠ byteAt l i) : num (l.set i y) 10 ≠ chk (around (l.set i y)) := by
  by_cases h10 : i < 10
  · obtain ⟨e1, e2⟩ := around_low l h h10 y
    rw [num_set_ne (by omega) (by omega), e1, hc]
    have hlen : i < (around l).length := by unfold around; simp; omega
    exact fun e => chk_set_ne hlen (by rw [e2]; exact hy) e.symm
  · by_cases h12 : i < 12
    · rw [around_mid l (by omega) h12 y, ← hc]
      have hyl := y.toNat_lt
      rcases (show i = 10 ∨ i = 11 by omega) with rfl | rfl
      · unfold num
        simp only [Nat.reduceAdd]
        rw [byte_set_same (by omega), byte_set_ne (by omega)]
        omega
      · unfold num
        simp only [Nat.reduceAdd]
        rw [byte_set_same (by omega), byte_set_ne (by omega)]
        omega
    · obtain ⟨e1, e2⟩ := around_high l h (by omega) hi y
      rw [num_set_ne (by omega) (by omega), e1, hc]
      have hlen : i < (around l).length := by unfold around; simp; omega
      exact fun e => chk_set_ne hlen (by rw [e2]; exact hy) e.symm

/-- A datagram of V4 with one byte of its header turned is refused. -/
theorem parse_turned (hops mark : Nat) (hh : hops < 256) (hm : mark < 65536) (f t s : ByteArray) (hf : f.size = 4) (ht : t.size = 4) (hl : s.size ≤ 1500) (i : Nat) (hi : i < 20) (y : UInt8)
    (hy : y.toNat ≠ byteAt (head4 hops mark f t s.size ++ s).data.toList i) (D : ByteArray) (hD : D.data.toList = (head4 hops mark f t s.size ++ s).data.toList.set i y) :
    ∃ er : Int, er ≠ 0 ∧ ∀ w, Calls Tryd.prog 16 #[.string D] w fun e w' => e = .returned (.tuple #[.agg noH, .string ⟨#[]⟩, .int .i64 er]) ∧ Below w.heap.size w w' := by
  obtain ⟨r0, r2, _, _, _, _, r10⟩ := read4 (s := s) hh hm hf ht rfl hl
  obtain ⟨c1, c2, _, _, _, _⟩ := cut4 (mark := mark) (s := s) hh hf ht rfl
  have hsz := head4_size hops mark s.size f t s hf ht
  generalize head4 hops mark f t s.size ++ s = E at *
  have hck : num E.data.toList 10 = chk (around E.data.toList) := by rw [← ck_around, c1, c2, r10]
  have hEl : E.data.toList.length = 20 + s.size := by rw [← size_list]; exact hsz
  have hDs : D.size = 20 + s.size := by rw [size_list, hD, List.length_set]; exact hEl
  have hts := turned_sum (by omega) hck hi hy
  rw [← hD, ← ck_around] at hts
  by_cases h4 : byteAt D.data.toList 0 / 16 = 4
  · refine ⟨5, by omega, fun w => parse_err D 0 0 0 0 5 ⟨#[]⟩ ⟨#[]⟩ (by omega) (fun Bs Ba X hX => ?_) w⟩
    exact (header_4 Bs Ba D (by omega) h4 noH rfl (one5 _ _ _ _ _) 0 5 20 X hX fun Y hY =>
      parse4_any Bs Ba D (by omega) (by omega) Y hY _ (fun _ => rfl) (fun he => absurd he hts) (fun he => absurd he hts)).mono fun e X' ⟨he, ht, hg⟩ => ⟨he, ⟨20, ht⟩, hg⟩
  · by_cases h6 : byteAt D.data.toList 0 / 16 = 6
    · have hi0 : i = 0 := by
        by_cases h0 : i = 0
        · exact h0
        · rw [hD, byte_set_ne h0, nib_of_num (b := 69) (c := 0) r0 (by omega)] at h4
          omega
      by_cases h40 : 40 ≤ D.size
      · refine ⟨2, by omega, fun w => parse_err D 0 0 0 0 2 ⟨#[]⟩ ⟨#[]⟩ (by omega) (fun Bs Ba X hX => ?_) w⟩
        have hn2 : num D.data.toList 2 = 20 + s.size := by rw [hD, num_set_ne (by omega) (by omega), r2]
        exact (header_6 Bs Ba D (by omega) h6 noH rfl (one5 _ _ _ _ _) 0 2 40 X hX fun Y hY =>
          parse6_any Bs Ba D (by omega) h40 Y hY _ (fun _ => rfl) (fun _ he => by rw [hn2] at he; omega)).mono fun e X' ⟨he, ht, hg⟩ => ⟨he, ⟨40, ht⟩, hg⟩
      · refine ⟨3, by omega, fun w => parse_err D 0 0 0 0 3 ⟨#[]⟩ ⟨#[]⟩ (by omega) (fun Bs Ba X hX => ?_) w⟩
        exact (header_6 Bs Ba D (by omega) h6 noH rfl (one5 _ _ _ _ _) 0 3 0 X hX fun Y hY =>
          (parse6_short D (by omega) _ Y).mono fun e X' ⟨he, hb⟩ => ⟨he, hY.later hb, grownBy_of_below hb⟩).mono fun e X' ⟨he, ht, hg⟩ => ⟨he, ⟨0, ht⟩, hg⟩
    · refine ⟨2, by omega, fun w => parse_err D 0 0 0 0 2 ⟨#[]⟩ ⟨#[]⟩ (by omega) (fun Bs Ba X hX => ?_) w⟩
      exact (header_other D (by omega) h4 h6 _ X).mono fun e X' ⟨he, hb⟩ => ⟨he, ⟨0, hX.later hb⟩, grownBy_of_below hb⟩
end Go.Proofs.YtgodhbliamlclaaDoor
