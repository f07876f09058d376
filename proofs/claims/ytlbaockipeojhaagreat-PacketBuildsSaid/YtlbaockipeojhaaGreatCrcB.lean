/-
  The document's Update and Sum, bit by bit: each returns the sum of the text, whatever text, and leaves memory alone. Package crc's Seal and Check, and the document's: what each returns, whatever packet. A packet with its sum put in, as a list of bytes: sealed twice it is sealed once; with one byte turned it is no sealed packet.
-/
import Derived.Test.YtlbaockipeojhaaGreatCrcA
import Derived.Test.YtlbaockipeojhaaGreatRow
import Derived.WalkSpells
import Derived.Laws.BytesString
import Derived.Deep.QuietTactic
import Derived.BigQuiet
section
namespace Go.Proofs.YtlbaockipeojhaaGreat
open Go.RowKit
set_option linter.unusedVariables false

/-- The four bytes of a number, the lowest first. -/
def four (n : Nat) : ByteArray := ⟨#[UInt8.ofNat (n % 256), UInt8.ofNat (n / 256 % 256), UInt8.ofNat (n / 65536 % 256), UInt8.ofNat (n / 16777216)]⟩
theorem four_of (n : Nat) : (⟨#[UInt8.ofNat ((n : Int) % 256).toNat, UInt8.ofNat ((n : Int) / 256 % 256).toNat, UInt8.ofNat ((n : Int) / 65536 % 256).toNat, UInt8.ofNat ((n : Int) / 16777216).toNat]⟩ : ByteArray) = four n := by
  unfold four
  have e1 : ((n : Int) % 256).toNat = n % 256 := by omega
  have e2 : ((n : Int) / 256 % 256).toNat = n / 256 % 256 := by omega
  have e3 : ((n : Int) / 65536 % 256).toNat = n / 65536 % 256 := by omega
  have e4 : ((n : Int) / 16777216).toNat = n / 16777216 := by omega
  rw [e1, e2, e3, e4]
/-- Four bytes of a row just made, as a text. -/
theorem conv4 (W : World) (a b c d : Int) : (convert 47 9 (.slice (some ⟨W.heap.size, 0, none⟩) 4 4)).run Tryz.prog (W.alloc (.cells #[.int .u8 a, .int .u8 b, .int .u8 c, .int .u8 d] 5))
    = .ok (.string ⟨#[UInt8.ofNat a.toNat, UInt8.ofNat b.toNat, UInt8.ofNat c.toNat, UInt8.ofNat d.toNat]⟩) (W.alloc (.cells #[.int .u8 a, .int .u8 b, .int .u8 c, .int .u8 d] 5)) := by
  rw [run_convert_bytes_string _ _ _ 5 _ _ _ Tryz.underlying47 Tryz.underlying5 Tryz.underlying9]
  rw [run_bytesToString _ _ 4 4 [a, b, c, d]]
  · rfl
  · have := run_loadCells_list (P := Tryz.prog) (W.alloc (.cells #[.int .u8 a, .int .u8 b, .int .u8 c, .int .u8 d] 5)) ⟨W.heap.size, 0, none⟩ ([a, b, c, d].map (Value.int .u8)) (fun j v hv => by
      have hadd : (⟨W.heap.size, 0, none⟩ : Addr).add j = ⟨W.heap.size, j, none⟩ := by unfold Addr.add; split <;> simp_all
      rw [hadd, cell_of_row _ _ j _ _ (0, 0) (heap_alloc_new W _)]
      simpa using hv)
    exact this
theorem conv4_drew (W : World) (N : Nat) (a b c d : Int) : (convert 47 9 (.slice (some ⟨W.heap.size, 0, none⟩) 4 4)).run Tryz.prog ((W.alloc (.cells #[.int .u8 a, .int .u8 b, .int .u8 c, .int .u8 d] 5)).drewN N)
    = .ok (.string ⟨#[UInt8.ofNat a.toNat, UInt8.ofNat b.toNat, UInt8.ofNat c.toNat, UInt8.ofNat d.toNat]⟩) ((W.alloc (.cells #[.int .u8 a, .int .u8 b, .int .u8 c, .int .u8 d] 5)).drewN N) := by
  rw [run_convert_bytes_string _ _ _ 5 _ _ _ Tryz.underlying47 Tryz.underlying5 Tryz.underlying9]
  rw [run_bytesToString _ _ 4 4 [a, b, c, d]]
  · rfl
  · have := run_loadCells_list (P := Tryz.prog) ((W.alloc (.cells #[.int .u8 a, .int .u8 b, .int .u8 c, .int .u8 d] 5)).drewN N) ⟨W.heap.size, 0, none⟩ ([a, b, c, d].map (Value.int .u8)) (fun j v hv => by
      have hadd : (⟨W.heap.size, 0, none⟩ : Addr).add j = ⟨W.heap.size, j, none⟩ := by unfold Addr.add; split <;> simp_all
      rw [hadd]
      show (W.alloc (.cells #[.int .u8 a, .int .u8 b, .int .u8 c, .int .u8 d] 5)).cell? _ = _
      rw [cell_of_row _ _ j _ _ (0, 0) (heap_alloc_new W _)]
      simpa using hv)
    exact this
theorem ret_string {a b : ByteArray} (h : a = b) : Ending.returned (.string a) = .returned (.string b) := by rw [h]
theorem lowest_any (n : Nat) (hn : n < 4294967296) (w : World) :
    Calls Tryz.prog 49 #[.int .u32 (n : Int)] w fun e w' => e = .returned (.string (four n)) ∧ Below w.heap.size w w' := by
  have hk := conv4
  go_enter Tryz.func49, Tryz.ntmps49
  go_wp2_with fail
  go_ret
  exact ⟨ret_string (four_of n), (Below.refl _ _).alloc (Nat.le_refl _) _⟩

/-- A packet with its sum put in. -/
def sealed (s : ByteArray) : ByteArray := s.extract 0 8 ++ four (sumOf (s.extract 0 8 ++ ⟨#[0, 0, 0, 0]⟩ ++ s.extract 12 s.size)) ++ s.extract 12 s.size
theorem blank_size (s f : ByteArray) (h12 : 12 ≤ s.size) (hf : f.size = 4) : (s.extract 0 8 ++ f ++ s.extract 12 s.size).size = s.size := by
  simp only [ByteArray.size_append, ByteArray.size_extract, hf]; omega
theorem four_size (n : Nat) : (four n).size = 4 := rfl
theorem sealed_size (s : ByteArray) (h12 : 12 ≤ s.size) : (sealed s).size = s.size := blank_size s _ h12 (four_size _)
theorem ret_i64 {a b : Int} (h : a = b) : Ending.returned (.int .i64 a) = .returned (.int .i64 b) := by rw [h]
theorem seal_any (s : ByteArray) (h12 : 12 ≤ s.size) (hs : s.size ≤ 1000000) (w : World) :
    Calls Tryz.prog 24 #[.string s] w fun e w' => e = .returned (.tuple #[.string (sealed s), .int .i64 0]) ∧ Below w.heap.size w w' := by
  have hf := four_size
  have hm8 : min 8 s.size = 8 := by omega
  go_enter Tryz.func24, Tryz.ntmps24
  go_wp2_with fail
  go_quiet (fail)
  go_wp2_with (first
    | (go_at_call 50; refine (sum_any _ (by rw [blank_size s _ h12 rfl]; unfold maxLen; omega) _).mono ?_; rintro e w1 ⟨rfl, hb1⟩)
    | (go_at_call 49; refine (lowest_any _ (sumOf_lt _) _).mono ?_; rintro e w2 ⟨rfl, hb2⟩))
  go_ret2
  exact ⟨rfl, ((below_drewN (Below.refl w.heap.size w) nq).trans hb1).trans (hb2.mono hb1.size)⟩
theorem seal_short (s : ByteArray) (h12 : s.size < 12) (w : World) :
    Calls Tryz.prog 24 #[.string s] w fun e w' => e = .returned (.tuple #[.string ⟨#[]⟩, .int .i64 3]) ∧ w = w' := by
  go_enter Tryz.func24, Tryz.ntmps24
  go_wp2_with fail
  go_ret2
  exact ⟨rfl, rfl⟩
/-- Whether a packet has its sum in it. -/
def checked (s : ByteArray) : Int := if s.size < 12 then 3 else if sealed s = s then 0 else 5
theorem check_any (s : ByteArray) (hs : s.size ≤ 1000000) (w : World) :
    Calls Tryz.prog 32 #[.string s] w fun e w' => e = .returned (.int .i64 (checked s)) ∧ Below w.heap.size w w' := by
  by_cases h12 : s.size < 12
  · have hq := Lib.hid (show checked s = 3 by unfold checked; rw [if_pos h12])
    go_enter Tryz.func32, Tryz.ntmps32
    go_wp2_with (go_at_call 24; refine (seal_short _ h12 _).mono ?_; rintro e w' ⟨rfl, rfl⟩)
    go_ret
    exact ⟨ret_i64 hq.out.symm, Below.refl _ _⟩
  · by_cases he : sealed s = s
    · have hq := Lib.hid (show checked s = 0 by unfold checked; rw [if_neg h12, if_pos he])
      have hd := eqB_true he
      clear he
      go_enter Tryz.func32, Tryz.ntmps32
      go_wp2_with (go_at_call 24; refine (seal_any _ (by omega) hs _).mono ?_; rintro e w' ⟨rfl, hb⟩)
      go_ret
      exact ⟨ret_i64 hq.out.symm, hb⟩
    · have hq := Lib.hid (show checked s = 5 by unfold checked; rw [if_neg h12, if_neg he])
      have hd := eqB_false he
      clear he
      go_enter Tryz.func32, Tryz.ntmps32
      go_wp2_with (go_at_call 24; refine (seal_any _ (by omega) hs _).mono ?_; rintro e w' ⟨rfl, hb⟩)
      go_ret
      exact ⟨ret_i64 hq.out.symm, hb⟩

end Go.Proofs.YtlbaockipeojhaaGreat
end
section
namespace Go.Proofs.YtlbaockipeojhaaGreat
open Go.RowKit
set_option linter.unusedVariables false

def fourL (n : Nat) : List UInt8 := [UInt8.ofNat (n % 256), UInt8.ofNat (n / 256 % 256), UInt8.ofNat (n / 65536 % 256), UInt8.ofNat (n / 16777216)]
def blankL (l : List UInt8) : List UInt8 := l.take 8 ++ [0, 0, 0, 0] ++ l.drop 12
def sealL (l : List UInt8) : List UInt8 := l.take 8 ++ fourL (crc 0 (blankL l)) ++ l.drop 12

theorem ofNat_inj {a b : Nat} (ha : a < 256) (hb : b < 256) (h : UInt8.ofNat a = UInt8.ofNat b) : a = b := by
  have := congrArg UInt8.toNat h
  rw [UInt8.toNat_ofNat_of_lt' ha, UInt8.toNat_ofNat_of_lt' hb] at this
  exact this
theorem fourL_inj {a b : Nat} (ha : a < 4294967296) (hb : b < 4294967296) (h : fourL a = fourL b) : a = b := by
  unfold fourL at h
  injection h with h1 h
  injection h with h2 h
  injection h with h3 h
  injection h with h4 _
  have e1 := ofNat_inj (by omega) (by omega) h1
  have e2 := ofNat_inj (by omega) (by omega) h2
  have e3 := ofNat_inj (by omega) (by omega) h3
  have e4 := ofNat_inj (by omega) (by omega) h4
  omega
theorem extract_list (s : ByteArray) (a b : Nat) : (s.extract a b).data.toList = (s.data.toList.drop a).take (b - a) := by simp
theorem blank_list (s : ByteArray) (h12 : 12 ≤ s.size) : (s.extract 0 8 ++ ⟨#[0, 0, 0, 0]⟩ ++ s.extract 12 s.size).data.toList = blankL s.data.toList := by
  unfold blankL
  rw [ByteArray.data_append, ByteArray.data_append, Array.toList_append, Array.toList_append, extract_list, extract_list]
  rw [List.drop_zero, List.take_of_length_le (l := s.data.toList.drop 12) (by simp)]
theorem sealed_list (s : ByteArray) (h12 : 12 ≤ s.size) : (sealed s).data.toList = sealL s.data.toList := by
  unfold sealed sealL sumOf
  rw [blank_list s h12, ByteArray.data_append, ByteArray.data_append, Array.toList_append, Array.toList_append, extract_list, extract_list]
  rw [List.drop_zero, List.take_of_length_le (l := s.data.toList.drop 12) (by simp)]
  rfl
theorem len8 {l : List UInt8} (h : 12 ≤ l.length) : (l.take 8).length = 8 := by rw [List.length_take]; omega
theorem put_take (a b f : List UInt8) (h : a.length = 8) : (a ++ f ++ b).take 8 = a := by rw [List.append_assoc, ← h, List.take_left']; rfl
theorem put_drop (a b f : List UInt8) (h : a.length = 8) (hf : f.length = 4) : (a ++ f ++ b).drop 12 = b := by
  rw [show 12 = (a ++ f).length by rw [List.length_append]; omega, List.drop_left']; rfl
theorem put_mid (a b f : List UInt8) (h : a.length = 8) (hf : f.length = 4) : ((a ++ f ++ b).drop 8).take 4 = f := by
  rw [List.append_assoc, ← h, List.drop_left' rfl, ← hf, List.take_left' rfl]
theorem sealL_take {l : List UInt8} (h : 12 ≤ l.length) : (sealL l).take 8 = l.take 8 := put_take _ _ _ (len8 h)
theorem sealL_drop {l : List UInt8} (h : 12 ≤ l.length) : (sealL l).drop 12 = l.drop 12 := put_drop _ _ _ (len8 h) rfl
theorem sealL_mid {l : List UInt8} (h : 12 ≤ l.length) : ((sealL l).drop 8).take 4 = fourL (crc 0 (blankL l)) := put_mid _ _ _ (len8 h) rfl
theorem sealL_length {l : List UInt8} (h : 12 ≤ l.length) : (sealL l).length = l.length := by
  unfold sealL
  rw [List.length_append, List.length_append, len8 h, List.length_drop]
  show 8 + 4 + _ = _
  omega
theorem sealL_blank {l : List UInt8} (h : 12 ≤ l.length) : blankL (sealL l) = blankL l := by
  unfold blankL
  rw [sealL_take h, sealL_drop h]
theorem sealL_twice {l : List UInt8} (h : 12 ≤ l.length) : sealL (sealL l) = sealL l := by
  show (sealL l).take 8 ++ fourL (crc 0 (blankL (sealL l))) ++ (sealL l).drop 12 = sealL l
  rw [sealL_blank h, sealL_take h, sealL_drop h]
  rfl
theorem blankL_length {l : List UInt8} (h : 12 ≤ l.length) : (blankL l).length = l.length := by
  unfold blankL
  rw [List.length_append, List.length_append, len8 h, List.length_drop]
  show 8 + 4 + _ = _
  omega
theorem blankL_at {l : List UInt8} (h : 12 ≤ l.length) {i : Nat} (hi : i < 8 ∨ 12 ≤ i) : (blankL l)[i]? = l[i]? := by
  unfold blankL
  rcases hi with hi | hi
  · rw [List.append_assoc, List.getElem?_append_left (by rw [len8 h]; exact hi), List.getElem?_take, if_pos hi]
  · rw [List.getElem?_append_right (by rw [List.length_append, len8 h]; show 8 + 4 ≤ i; omega), List.getElem?_drop, List.length_append, len8 h]
    congr 1
    show 12 + (i - (8 + 4)) = i
    omega
theorem blankL_mid {l : List UInt8} (h : 12 ≤ l.length) {i : Nat} (hi : 8 ≤ i) (hi' : i < 12) : (blankL l)[i]? = some 0 := by
  unfold blankL
  rw [List.getElem?_append_left (by rw [List.length_append, len8 h]; show i < 8 + 4; omega), List.getElem?_append_right (by rw [len8 h]; exact hi), len8 h]
  match i, hi, hi' with
  | 8, _, _ => rfl
  | 9, _, _ => rfl
  | 10, _, _ => rfl
  | 11, _, _ => rfl
theorem crc_set {c : Nat} {l : List UInt8} {i : Nat} (hi : i < l.length) (x : UInt8) (h : crc c (l.set i x) = crc c l) : x = l[i] := by
  have e1 : l = l.take i ++ l[i] :: l.drop (i + 1) := by rw [List.getElem_cons_drop, List.take_append_drop]
  have e2 : l.set i x = l.take i ++ x :: l.drop (i + 1) := List.set_eq_take_append_cons_drop.trans (by rw [if_pos hi])
  rw [e2] at h
  have h' : crc c (l.take i ++ x :: l.drop (i + 1)) = crc c (l.take i ++ l[i] :: l.drop (i + 1)) := h.trans (congrArg (crc c) e1)
  exact crc_one _ _ _ _ h'
/-- One byte of a sealed packet turned: no sealed packet. -/
theorem sealL_turned {l : List UInt8} (h : 12 ≤ l.length) {i : Nat} (hi : i < (sealL l).length) (x : UInt8) (hx : x ≠ (sealL l)[i]) : sealL ((sealL l).set i x) ≠ (sealL l).set i x := by
  intro he
  have hm : 12 ≤ (sealL l).length := by rw [sealL_length h]; exact h
  have hs := sealL_twice h
  generalize sealL l = m at *
  have hT : 12 ≤ (m.set i x).length := by rw [List.length_set]; exact hm
  apply hx
  by_cases hmid : 8 ≤ i ∧ i < 12
  · have hb : blankL (m.set i x) = blankL m := by
      unfold blankL
      rw [List.take_set, List.drop_set, List.set_eq_of_length_le (by rw [List.length_take]; omega), if_pos hmid.2]
    have ht : (m.set i x).take 8 = m.take 8 := by rw [List.take_set, List.set_eq_of_length_le (by rw [List.length_take]; omega)]
    have hd : (m.set i x).drop 12 = m.drop 12 := by rw [List.drop_set, if_pos hmid.2]
    have hq : sealL (m.set i x) = sealL m := by unfold sealL; rw [hb, ht, hd]
    have hq2 : m.set i x = m := by rw [← he, hq, hs]
    have := congrArg (fun t => t[i]?) hq2
    simp only [List.getElem?_set_self hi, List.getElem?_eq_getElem hi] at this
    exact Option.some.inj this
  · have hb : blankL (m.set i x) = (blankL m).set i x := by
      apply List.ext_getElem?
      intro j
      rw [List.getElem?_set]
      by_cases hj : i = j
      · subst hj
        rw [if_pos rfl, blankL_at hT (by omega), if_pos (by rw [blankL_length hm]; exact hi), List.getElem?_set_self hi]
      · rw [if_neg hj]
        by_cases hj2 : 8 ≤ j ∧ j < 12
        · rw [blankL_mid hT hj2.1 hj2.2, blankL_mid hm hj2.1 hj2.2]
        · rw [blankL_at hT (by omega), blankL_at hm (by omega), List.getElem?_set_ne hj]
    have m1 := sealL_mid hT
    have m2 := sealL_mid hm
    rw [he] at m1
    rw [hs] at m2
    have m3 : ((m.set i x).drop 8).take 4 = (m.drop 8).take 4 := by
      apply List.ext_getElem?
      intro j
      rw [List.getElem?_take, List.getElem?_take, List.getElem?_drop, List.getElem?_drop]
      by_cases hj : j < 4
      · rw [if_pos hj, if_pos hj, List.getElem?_set_ne (by omega)]
      · rw [if_neg hj, if_neg hj]
    have hc := fourL_inj (crc_lt _ _) (crc_lt _ _) (m1.symm.trans (m3.trans m2))
    rw [hb] at hc
    have hlt : i < (blankL m).length := by rw [blankL_length hm]; exact hi
    have hv := crc_set hlt x hc
    have hw := blankL_at hm (i := i) (by omega)
    rw [List.getElem?_eq_getElem hlt, List.getElem?_eq_getElem hi] at hw
    rw [hv]
    exact Option.some.inj hw

theorem sealed_twice (s : ByteArray) (h12 : 12 ≤ s.size) : sealed (sealed s) = sealed s := by
  apply bytes_ext
  have h' : 12 ≤ s.data.toList.length := by rw [← size_list]; exact h12
  rw [sealed_list _ (by rw [sealed_size s h12]; exact h12), sealed_list s h12, sealL_twice h']
theorem checked_sealed (s : ByteArray) (h12 : 12 ≤ s.size) : checked (sealed s) = 0 := by
  unfold checked
  rw [if_neg (by rw [sealed_size s h12]; omega), if_pos (sealed_twice s h12)]
theorem checked_turned (s t : ByteArray) (h12 : 12 ≤ s.size) {i : Nat} (hi : i < (sealed s).data.toList.length) (x : UInt8) (hx : x ≠ (sealed s).data.toList[i]) (ht : t.data.toList = (sealed s).data.toList.set i x) : checked t = 5 := by
  have h' : 12 ≤ s.data.toList.length := by rw [← size_list]; exact h12
  have e := sealed_list s h12
  have hts : t.size = s.size := by rw [size_list t, ht, List.length_set, ← size_list, sealed_size s h12]
  unfold checked
  rw [if_neg (by omega), if_neg]
  intro he
  have he2 := congrArg (fun b => b.data.toList) he
  replace he2 : (sealed t).data.toList = t.data.toList := he2
  rw [sealed_list t (by omega), ht] at he2
  revert hi hx he2
  rw [e]
  intro hi hx he2
  exact sealL_turned h' hi x hx he2
/-- What stands where the sum goes does not matter. -/
theorem sealed_put (s f : ByteArray) (h12 : 12 ≤ s.size) (hf : f.size = 4) : sealed (s.extract 0 8 ++ f ++ s.extract 12 s.size) = sealed s := by
  have h' : 12 ≤ s.data.toList.length := by rw [← size_list]; exact h12
  have hsz := blank_size s f h12 hf
  have hl : (s.extract 0 8 ++ f ++ s.extract 12 s.size).data.toList = s.data.toList.take 8 ++ f.data.toList ++ s.data.toList.drop 12 := by
    rw [ByteArray.data_append, ByteArray.data_append, Array.toList_append, Array.toList_append, extract_list, extract_list]
    rw [List.drop_zero, List.take_of_length_le (l := s.data.toList.drop 12) (by simp)]
  apply bytes_ext
  rw [sealed_list _ (by rw [hsz]; exact h12), sealed_list s h12, hl]
  have hf' : f.data.toList.length = 4 := by rw [← size_list]; exact hf
  have t1 := put_take (s.data.toList.take 8) (s.data.toList.drop 12) f.data.toList (len8 h')
  have t2 := put_drop (s.data.toList.take 8) (s.data.toList.drop 12) f.data.toList (len8 h') hf'
  unfold sealL blankL
  rw [t1, t2]
theorem sealed_head (s : ByteArray) (h12 : 12 ≤ s.size) : (sealed s).extract 0 8 = s.extract 0 8 := by
  have h' : 12 ≤ s.data.toList.length := by rw [← size_list]; exact h12
  apply bytes_ext
  rw [extract_list, extract_list, sealed_list s h12, List.drop_zero, List.drop_zero, sealL_take h']
theorem sealed_tail (s : ByteArray) (h12 : 12 ≤ s.size) : (sealed s).extract 12 s.size = s.extract 12 s.size := by
  have h' : 12 ≤ s.data.toList.length := by rw [← size_list]; exact h12
  apply bytes_ext
  rw [extract_list, extract_list, sealed_list s h12, sealL_drop h']
end Go.Proofs.YtlbaockipeojhaaGreat
end
