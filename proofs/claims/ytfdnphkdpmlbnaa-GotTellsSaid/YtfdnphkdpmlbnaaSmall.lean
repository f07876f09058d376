/-
  The small functions of package tlv and of the document's answer: how many noughts, whether a type: contracts.
-/
import Derived.Test.YtfdnphkdpmlbnaaItems
import Derived.Test.YtfdnphkdpmlbnaaBuilder
import Derived.Test.YtfdnphkdpmlbnaaBytes
import Derived.Deep.RegionHeld3
namespace Go.Proofs.Ytfdnphkdpmlbnaa
set_option linter.unusedSimpArgs false
open Go.RowKit
set_option linter.unusedVariables false

set_option maxHeartbeats 1000000 in
theorem pad_any (n : Int) (h0 : -9223372036854775808 ≤ n) (h1 : n < 9223372036854775808) (w : World) : Calls Try.prog 52 #[.int .i64 n] w fun e w' => e = .returned (.int .i64 (padI n)) ∧ w' = w := by
  by_cases hn : n < 0
  · have e : padI n = 0 := by unfold padI; rw [if_pos hn]
    rw [e]
    go_enter Try.func52, Try.ntmps52
    go_wp2
    go_ret
    exact ⟨rfl, rfl⟩
  · have e : padI n = (4 - n % 4) % 4 := by unfold padI; rw [if_neg hn]
    rw [e]
    have q1 : 0 ≤ n := by omega
    go_enter Try.func52, Try.ntmps52
    go_wp2
    go_ret
    exact ⟨rfl, rfl⟩
theorem isType_true {k : Int} (h0 : 0 ≤ k) (h1 : k ≤ 65535) : isType k = true := decide_eq_true ⟨h0, h1⟩
theorem isType_cases (k : Int) : (isType k = true ∧ 0 ≤ k ∧ k ≤ 65535) ∨ (isType k = false ∧ ¬ 0 ≤ k) ∨ (isType k = false ∧ 0 ≤ k ∧ ¬ k ≤ 65535) := by
  unfold isType
  simp only [decide_eq_true_eq, decide_eq_false_iff_not]
  omega
set_option maxHeartbeats 1000000 in
theorem isType_any (k : Int) (w : World) : Calls Try.prog 78 #[.int .i64 k] w fun e w' => e = .returned (.bool (isType k)) ∧ w' = w := by
  rcases isType_cases k with ⟨e, h0, h1⟩ | ⟨e, h0⟩ | ⟨e, h0, h1⟩
  all_goals
    rw [e]
    clear e
    go_enter Try.func78, Try.ntmps78
    go_wp2
    go_ret
    exact ⟨rfl, rfl⟩
/-! ### Noughts, two bytes, a number -/
def zerosB (n : Nat) : ByteArray := ⟨(zerosL n).toArray⟩
theorem zerosB_size (n : Nat) : (zerosB n).size = n := by simp [zerosB, zerosL, ByteArray.size]
def twoB (n : Nat) : ByteArray := ⟨(be16 n).toArray⟩
theorem twoB_size (n : Nat) : (twoB n).size = 2 := rfl
theorem app_list (a b : ByteArray) : (a ++ b).data.toList = a.data.toList ++ b.data.toList := by rw [ByteArray.data_append, Array.toList_append]
theorem list_toB (l : List UInt8) : (⟨l.toArray⟩ : ByteArray).data.toList = l := rfl
def bytesB (x : Item) : ByteArray := ⟨(bytesL x).toArray⟩
theorem bytesB_is (x : Item) : twoB x.1.toNat ++ twoB (4 + x.2.size) ++ x.2 ++ zerosB (padN (4 + x.2.size)) = bytesB x := by
  apply bytes_ext
  simp only [app_list, list_toB, twoB, zerosB, bytesB, bytesL]
theorem nought_cut (n : Nat) (h : n ≤ 3) : (⟨#[0, 0, 0]⟩ : ByteArray).extract 0 n = zerosB n := by
  rcases (by omega : n = 0 ∨ n = 1 ∨ n = 2 ∨ n = 3) with rfl | rfl | rfl | rfl <;> rfl
theorem cut_list (s : ByteArray) (k n : Nat) : (s.extract k n).data.toList = (s.data.toList.drop k).take (n - k) := by
  rw [ByteArray.data_extract, Array.toList_extract, List.extract_eq_take_drop]

/-- A row of known bytes, just laid, as a text. -/
theorem new_text (w : World) (l : List UInt8) (cap : Nat) : (convert 83 9 (.slice (some ⟨w.heap.size, 0, none⟩) l.length cap)).run Try.prog (w.alloc (.cells (l.map enc8).toArray 5)) = .ok (.string ⟨l.toArray⟩) (w.alloc (.cells (l.map enc8).toArray 5)) :=
  text_of _ _ 0 cap l fun j u hu => by
    rw [Nat.zero_add]
    have := new_cells w 5 (l.map enc8) j (enc8 u) (by rw [List.getElem?_map, hu]; rfl)
    rw [addr_plain, Nat.zero_add] at this
    exact this
theorem two_text (w : World) (x y : Int) (a b : Nat) (hx : x = (a : Int)) (hy : y = (b : Int)) (ha : a < 256) (hb : b < 256) :
    (convert 83 9 (.slice (some ⟨w.heap.size, 0, none⟩) 2 2)).run Try.prog (w.alloc (.cells #[.int .u8 x, .int .u8 y] 5)) = .ok (.string ⟨#[UInt8.ofNat a, UInt8.ofNat b]⟩) (w.alloc (.cells #[.int .u8 x, .int .u8 y] 5)) := by
  have h := new_text w [UInt8.ofNat a, UInt8.ofNat b] 2
  have e1 : (UInt8.ofNat a).toNat = a := UInt8.toNat_ofNat_of_lt' ha
  have e2 : (UInt8.ofNat b).toNat = b := UInt8.toNat_ofNat_of_lt' hb
  simp only [List.map_cons, List.map_nil, enc8, e1, e2, List.length_cons, List.length_nil] at h
  subst hx
  subst hy
  exact h
theorem ofNat_mod (n : Nat) : UInt8.ofNat (n % 256) = UInt8.ofNat n := UInt8.toNat_inj.1 (by rw [UInt8.toNat_ofNat', UInt8.toNat_ofNat']; omega)
theorem twoB_text (n : Nat) (hn : n < 65536) (w : World) :
    (convert 83 9 (.slice (some ⟨w.heap.size, 0, none⟩) 2 2)).run Try.prog (w.alloc (.cells #[.int .u8 ((n : Int) / 256), .int .u8 ((n : Int) % 256)] 5)) = .ok (.string (twoB n)) (w.alloc (.cells #[.int .u8 ((n : Int) / 256), .int .u8 ((n : Int) % 256)] 5)) := by
  rw [two_text w _ _ (n / 256) (n % 256) (by omega) (by omega) (by omega) (by omega), ofNat_mod]
  rfl
set_option maxHeartbeats 1000000 in
theorem two_any (n : Nat) (hn : n < 65536) (w : World) : Calls Try.prog 80 #[.int .i64 (n : Int)] w fun e w' => e = .returned (.string (twoB n)) ∧ Below w.heap.size w w' := by
  have ht := twoB_text n hn w
  generalize twoB n = t at *
  go_enter Try.func80, Try.ntmps80
  go_wp2
  go_ret
  exact ⟨rfl, (Below.refl _ _).alloc (Nat.le_refl _) _⟩
theorem wrap_i64_id (n : Int) (h0 : 0 ≤ n) (h1 : n < 2 ^ 62) : IntKind.i64.wrap n = n := by rw [IntKind.wrap_i64]; omega
theorem or_byte (x y : Nat) (hx : x < 65536) (hy : y < 256) : bits .or .i64 ((x : Int) * 256) (y : Int) = ((x * 256 + y : Nat) : Int) := by
  have := bits_join .i64 62 (by decide) wrap_i64_id 8 ((x : Int) * 256) (y : Int) (by omega) (by omega) (by omega) (by omega) (by omega) (by omega)
  rw [this]
  omega
theorem byteAt_byte {s : ByteArray} {k : Nat} (h : k < s.size) : byteAt s.data.toList k = (s[k]'h).toNat := by
  rw [byteAt_get (by rw [← size_list]; exact h)]
  rfl
end Go.Proofs.Ytfdnphkdpmlbnaa
