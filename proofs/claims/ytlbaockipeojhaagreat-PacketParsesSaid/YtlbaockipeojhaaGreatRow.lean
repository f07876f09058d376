/-
  strings.Builder's WriteString at this program: the library's contract, laid by hand (a type that its laying names is named by no body here). The small functions of package tlv and of the document's answer: how many noughts, whether a type: contracts. Package tlv: one item: whether its type is wrong, its value too long; how many bytes it has; its bytes: contracts. Rows of items in memory: a slice that reads as a list of items; how many bytes they have; contracts. Rows of items: what append is fed with; whether two items are the same. What append is fed with: rows of items, whoever made them. Append onto what the call owns, as an operation that another one's yield asks for. No program is named here.
-/
import Derived.Test.YtlbaockipeojhaaGreatShelf
import Derived.Test.YtlbaockipeojhaaGreatCk
import Derived.Test.YtlbaockipeojhaaGreatMem
import Derived.Shelf.Strings.Builder1
import Derived.Deep.RegionHeld3
import Derived.BigQuiet
import Derived.RegionCalls
import Derived.Laws.OwnMore
import Derived.OwnWalk
import Derived.BigRegion
import Derived.Laws.StructEq
section
namespace Go.Proofs.YtlbaockipeojhaaGreat
open Go.Shelf Go.RowKit
set_option linter.unusedVariables false

def ren166 : Go.Shelf.Ren := ⟨fun | 166 => 20 | 240 => 41 | 276 => 65 | n => n, fun | 0 => 0 | 3 => 3 | 4 => 4 | 9 => 9 | 20 => 20 | 37 => 47 | 70 => 56 | 72 => 58 | 75 => 60 | 164 => 109 | 80 => 67 | 5 => 5 | n => n, fun | n => n⟩
theorem lays166 : Go.Proofs.Lays.n166 Tryz.prog ren166 := {
  mixed := by kernel_rfl
  f166 := Tryz.func20.trans (congrArg some (by kernel_rfl))
  f240 := Tryz.func41.trans (congrArg some (by kernel_rfl))
  f276 := Tryz.func65.trans (congrArg some (by kernel_rfl))
  t0 := Tryz.underlying0
  a0 := Tryz.isAgg0
  z0 := Tryz.sizeOf0
  v0 := Tryz.zeroValue0
  t3 := Tryz.underlying3
  a3 := Tryz.isAgg3
  z3 := Tryz.sizeOf3
  v3 := Tryz.zeroValue3
  t4 := Tryz.underlying4
  a4 := Tryz.isAgg4
  z4 := Tryz.sizeOf4
  v4 := Tryz.zeroValue4
  t9 := Tryz.underlying9
  a9 := Tryz.isAgg9
  z9 := Tryz.sizeOf9
  v9 := Tryz.zeroValue9
  t20 := Tryz.underlying20
  a20 := Tryz.isAgg20
  z20 := Tryz.sizeOf20
  v20 := Tryz.zeroValue20
  t37 := Tryz.underlying47
  a37 := Tryz.isAgg47
  z37 := Tryz.sizeOf47
  v37 := Tryz.zeroValue47
  t70 := Tryz.underlying56
  a70 := Tryz.isAgg56
  z70 := Tryz.sizeOf56
  v70 := Tryz.zeroValue56
  t72 := Tryz.underlying58
  a72 := Tryz.isAgg58
  z72 := Tryz.sizeOf58
  v72 := Tryz.zeroValue58
  t75 := Tryz.underlying60
  a75 := Tryz.isAgg60
  z75 := Tryz.sizeOf60
  v75 := Tryz.zeroValue60
  t164 := Tryz.underlying109
  a164 := Tryz.isAgg109
  z164 := Tryz.sizeOf109
  v164 := Tryz.zeroValue109 }
theorem extra166 : Builder.Extra Tryz.prog ren166 := {
  sizeBuilder := by kernel_rfl
  liesBuilder := by kernel_rfl
  t5 := Tryz.underlying5
  a5 := Tryz.isAgg5
  z5 := Tryz.sizeOf5
  v5 := Tryz.zeroValue5
  infoByte := by kernel_rfl
  cellsByte := by kernel_rfl
  sizeByte := by kernel_rfl
  neB5 := by decide }
theorem builder_write (B b : Nat) (bs : List Value) (s : ByteArray) (w : World) (h : Lib.IsBuilder 58 5 B b bs w) (hlen : bs.length + s.size ≤ 140737488355328) (hBw : B ≤ w.heap.size) :
    Calls Tryz.prog 20 #[.pointer (some ⟨b, 0, none⟩), .string s] w fun e w' => e = .returned (.tuple #[.int .i64 s.size, .nilIface]) ∧ (Lib.BuilderAt 58 5 B b (.pointer (some ⟨b, 0, none⟩)) (bs ++ Lib.strCells s) w' ∧ Below B w w') :=
  Any.Builder_WriteString lays166 extra166 B b bs s w h hlen hBw
theorem builder_text (B b : Nat) (l : List UInt8) (w : World) (h : Lib.IsBuilder 58 5 B b (Lib.byteCells l) w) (hBw : B ≤ w.heap.size) :
    Calls Tryz.prog 25 #[.pointer (some ⟨b, 0, none⟩)] w fun e w' => e = .returned (.string ⟨l.toArray⟩) ∧ Below B w w' := Tryz.Builder_String_any B b l w h hBw
theorem clone_any (s : ByteArray) (w : World) (hs : s.size ≤ 281474976710656) : Calls Tryz.prog 98 #[.string s] w fun e w' => e = .returned (.string s) ∧ Below w.heap.size w w' := by
  have H := Lib.hid (fun W => Tryz.stringslite_Clone s W hs)
  have HB := Lib.hid (Below.refl w.heap.size w)
  go_enter Tryz.func98, Tryz.ntmps98
  go_wp2_with (go_at_call 119; ((with_reducible refine (H.out _).mono ?_); rintro e w1 ⟨rfl, hb1⟩); replace HB := Lib.hid (HB.out.trans (hb1.mono HB.out.size)); clear hb1)
  go_ret
  exact ⟨rfl, HB.out⟩
end Go.Proofs.YtlbaockipeojhaaGreat
end
section
namespace Go.Proofs.YtlbaockipeojhaaGreat
set_option linter.unusedSimpArgs false
open Go.RowKit
set_option linter.unusedVariables false

set_option maxHeartbeats 1000000 in
theorem pad_any (n : Int) (h0 : -9223372036854775808 ≤ n) (h1 : n < 9223372036854775808) (w : World) : Calls Tryz.prog 48 #[.int .i64 n] w fun e w' => e = .returned (.int .i64 (padI n)) ∧ w' = w := by
  by_cases hn : n < 0
  · have e : padI n = 0 := by unfold padI; rw [if_pos hn]
    rw [e]
    go_enter Tryz.func48, Tryz.ntmps48
    go_wp2
    go_ret
    exact ⟨rfl, rfl⟩
  · have e : padI n = (4 - n % 4) % 4 := by unfold padI; rw [if_neg hn]
    rw [e]
    have q1 : 0 ≤ n := by omega
    go_enter Tryz.func48, Tryz.ntmps48
    go_wp2
    go_ret
    exact ⟨rfl, rfl⟩
theorem isType_cases (k : Int) : (isType k = true ∧ 0 ≤ k ∧ k ≤ 65535) ∨ (isType k = false ∧ ¬ 0 ≤ k) ∨ (isType k = false ∧ 0 ≤ k ∧ ¬ k ≤ 65535) := by
  unfold isType
  simp only [decide_eq_true_eq, decide_eq_false_iff_not]
  omega
set_option maxHeartbeats 1000000 in
theorem isType_any (k : Int) (w : World) : Calls Tryz.prog 100 #[.int .i64 k] w fun e w' => e = .returned (.bool (isType k)) ∧ w' = w := by
  rcases isType_cases k with ⟨e, h0, h1⟩ | ⟨e, h0⟩ | ⟨e, h0, h1⟩
  all_goals
    rw [e]
    clear e
    go_enter Tryz.func100, Tryz.ntmps100
    go_wp2
    go_ret
    exact ⟨rfl, rfl⟩
/-! ### Noughts, two bytes, a number -/
def zerosB (n : Nat) : ByteArray := ⟨(zerosL n).toArray⟩
theorem zerosB_size (n : Nat) : (zerosB n).size = n := by simp [zerosB, zerosL, ByteArray.size]
def twoB (n : Nat) : ByteArray := ⟨(be16 n).toArray⟩
theorem twoB_size (n : Nat) : (twoB n).size = 2 := rfl
theorem app_list (a b : ByteArray) : (a ++ b).data.toList = a.data.toList ++ b.data.toList := by rw [ByteArray.data_append, Array.toList_append]
theorem list_toB (l : List UInt8) : (⟨l.toArray⟩ : ByteArray).data.toList = l := rfl
def bytesB (x : Item) : ByteArray := ⟨(bytesL x).toArray⟩
theorem bytesB_is (x : Item) : twoB x.1.toNat ++ twoB (4 + x.2.size) ++ x.2 ++ zerosB (padN (4 + x.2.size)) = bytesB x := by
  apply bytes_ext
  simp only [app_list, list_toB, twoB, zerosB, bytesB, bytesL]
theorem nought_cut (n : Nat) (h : n ≤ 3) : (⟨#[0, 0, 0]⟩ : ByteArray).extract 0 n = zerosB n := by
  rcases (by omega : n = 0 ∨ n = 1 ∨ n = 2 ∨ n = 3) with rfl | rfl | rfl | rfl <;> rfl
theorem cut_list (s : ByteArray) (k n : Nat) : (s.extract k n).data.toList = (s.data.toList.drop k).take (n - k) := by
  rw [ByteArray.data_extract, Array.toList_extract, List.extract_eq_take_drop]

/-- A row of known bytes, just laid, as a text. -/
theorem new_text (w : World) (l : List UInt8) (cap : Nat) : (convert 47 9 (.slice (some ⟨w.heap.size, 0, none⟩) l.length cap)).run Tryz.prog (w.alloc (.cells (l.map enc8).toArray 5)) = .ok (.string ⟨l.toArray⟩) (w.alloc (.cells (l.map enc8).toArray 5)) :=
  text_of _ _ 0 cap l fun j u hu => by
    rw [Nat.zero_add]
    have := new_cells w 5 (l.map enc8) j (enc8 u) (by rw [List.getElem?_map, hu]; rfl)
    rw [addr_plain, Nat.zero_add] at this
    exact this
theorem two_text (w : World) (x y : Int) (a b : Nat) (hx : x = (a : Int)) (hy : y = (b : Int)) (ha : a < 256) (hb : b < 256) :
    (convert 47 9 (.slice (some ⟨w.heap.size, 0, none⟩) 2 2)).run Tryz.prog (w.alloc (.cells #[.int .u8 x, .int .u8 y] 5)) = .ok (.string ⟨#[UInt8.ofNat a, UInt8.ofNat b]⟩) (w.alloc (.cells #[.int .u8 x, .int .u8 y] 5)) := by
  have h := new_text w [UInt8.ofNat a, UInt8.ofNat b] 2
  have e1 : (UInt8.ofNat a).toNat = a := UInt8.toNat_ofNat_of_lt' ha
  have e2 : (UInt8.ofNat b).toNat = b := UInt8.toNat_ofNat_of_lt' hb
  simp only [List.map_cons, List.map_nil, enc8, e1, e2, List.length_cons, List.length_nil] at h
  subst hx
  subst hy
  exact h
theorem ofNat_mod (n : Nat) : UInt8.ofNat (n % 256) = UInt8.ofNat n := UInt8.toNat_inj.1 (by rw [UInt8.toNat_ofNat', UInt8.toNat_ofNat']; omega)
theorem twoB_text (n : Nat) (hn : n < 65536) (w : World) :
    (convert 47 9 (.slice (some ⟨w.heap.size, 0, none⟩) 2 2)).run Tryz.prog (w.alloc (.cells #[.int .u8 ((n : Int) / 256), .int .u8 ((n : Int) % 256)] 5)) = .ok (.string (twoB n)) (w.alloc (.cells #[.int .u8 ((n : Int) / 256), .int .u8 ((n : Int) % 256)] 5)) := by
  rw [two_text w _ _ (n / 256) (n % 256) (by omega) (by omega) (by omega) (by omega), ofNat_mod]
  rfl
set_option maxHeartbeats 1000000 in
theorem two_any (n : Nat) (hn : n < 65536) (w : World) : Calls Tryz.prog 102 #[.int .i64 (n : Int)] w fun e w' => e = .returned (.string (twoB n)) ∧ Below w.heap.size w w' := by
  have ht := twoB_text n hn w
  generalize twoB n = t at *
  go_enter Tryz.func102, Tryz.ntmps102
  go_wp2
  go_ret
  exact ⟨rfl, (Below.refl _ _).alloc (Nat.le_refl _) _⟩
theorem wrap_i64_id (n : Int) (h0 : 0 ≤ n) (h1 : n < 2 ^ 62) : IntKind.i64.wrap n = n := by rw [IntKind.wrap_i64]; omega
theorem or_byte (x y : Nat) (hx : x < 65536) (hy : y < 256) : bits .or .i64 ((x : Int) * 256) (y : Int) = ((x * 256 + y : Nat) : Int) := by
  have := bits_join .i64 62 (by decide) wrap_i64_id 8 ((x : Int) * 256) (y : Int) (by omega) (by omega) (by omega) (by omega) (by omega) (by omega)
  rw [this]
  omega
theorem byteAt_byte {s : ByteArray} {k : Nat} (h : k < s.size) : byteAt s.data.toList k = (s[k]'h).toNat := by
  rw [byteAt_get (by rw [← size_list]; exact h)]
  rfl
set_option maxHeartbeats 1000000 in
/-- The first two bytes as a number. -/
theorem number_any (s : ByteArray) (hs : 2 ≤ s.size) (hm : s.size ≤ maxLen) (w : World) : Calls Tryz.prog 128 #[.string s] w fun e w' => e = .returned (.int .i64 (num s.data.toList 0 : Nat)) ∧ ∃ m, w' = w.drewN m := by
  have b0 := byteAt_lt s.data.toList 0
  have b1 := byteAt_lt s.data.toList 1
  have h0 := (byteAt_byte (s := s) (k := 0) (by omega)).symm
  have h1 := (byteAt_byte (s := s) (k := 1) (by omega)).symm
  have hor := or_byte (byteAt s.data.toList 0) (byteAt s.data.toList 1) (by omega) b1
  rw [show byteAt s.data.toList 0 * 256 + byteAt s.data.toList 1 = num s.data.toList 0 from rfl] at hor
  have HO := Lib.hid hor
  clear hor
  generalize num s.data.toList 0 = r at *
  generalize byteAt s.data.toList 0 = x at *
  generalize byteAt s.data.toList 1 = y at *
  have q0 : (0 : Int) < (s.size : Int) := by omega
  have q1 : (1 : Int) < (s.size : Int) := by omega
  have q2 : 0 < s.size := by omega
  have q3 : 1 < s.size := by omega
  go_enter Tryz.func128, Tryz.ntmps128
  go_wp2_with fail
  go_quiet (fail)
  go_wp2_with fail
  go_ret
  refine ⟨?_, _, rfl⟩
  have e : bits BinOp.or IntKind.i64 (IntKind.i64.wrap (IntKind.i64.wrap (x : Int) * 256)) (IntKind.i64.wrap (y : Int)) = (r : Int) := by
    rw [wrap_i64_id (x : Int) (by omega) (by omega), wrap_i64_id (y : Int) (by omega) (by omega), wrap_i64_id ((x : Int) * 256) (by omega) (by omega)]
    exact HO.out
  first | (rw [← e]; rfl) | (rw [← HO.out]; rfl)
end Go.Proofs.YtlbaockipeojhaaGreat
end
section
namespace Go.Proofs.YtlbaockipeojhaaGreat
open Go.RowKit
set_option linter.unusedVariables false

/-- An item lies in block g. -/
def ItAt (W : World) (g : Nat) (ty : TypeId) (k : Int) (v : ByteArray) : Prop := W.heap[g]? = some (.cells #[.int .i64 k, .string v] ty (0, 0))
section
variable {W : World} {g : Nat} {ty : TypeId} {k : Int} {v : ByteArray}
theorem ItAt.c0 (h : ItAt W g ty k v) : W.cell? ⟨g, 0, none⟩ = some (.int .i64 k) := by rw [cell_of_row _ g 0 _ ty (0, 0) h]; rfl
theorem ItAt.c1 (h : ItAt W g ty k v) : W.cell? ⟨g, 1, none⟩ = some (.string v) := by rw [cell_of_row _ g 1 _ ty (0, 0) h]; rfl
theorem ItAt.lt (h : ItAt W g ty k v) : g < W.heap.size := (Array.getElem?_eq_some_iff.1 h).1
theorem ItAt.later {W' : World} (h : ItAt W g ty k v) (hb : Below W.heap.size W W') : ItAt W' g ty k v := (hb.block g h.lt).trans h
/-- The item's cells as the walk reads them, and that nothing else has turned since. -/
def Stays (wc : World) (g : Nat) (ty : TypeId) (k : Int) (v : ByteArray) (W : World) : Prop := ItAt W g ty k v ∧ Below wc.heap.size wc W
theorem Stays.next {wc W' : World} (h : Stays wc g ty k v W) (hb : Below W.heap.size W W') : Stays wc g ty k v W' := ⟨h.1.later hb, h.2.trans (hb.mono h.2.size)⟩
theorem Stays.drew {wc : World} (h : Stays wc g ty k v W) : Stays wc g ty k v W.drew := ⟨h.1, h.2.drew⟩
end
abbrev Seen (wc : World) (g : Nat) (ty : TypeId) (k : Int) (v : ByteArray) (W : World) : Prop :=
  W.cell? ⟨g, 0, none⟩ = some (.int .i64 k) ∧ W.cell? ⟨g, 1, none⟩ = some (.string v) ∧ Hid (Stays wc g ty k v W)
theorem Stays.seen {wc W : World} {g : Nat} {ty : TypeId} {k : Int} {v : ByteArray} (h : Stays wc g ty k v W) : Seen wc g ty k v W := ⟨h.1.c0, h.1.c1, h⟩

set_option maxHeartbeats 1000000 in
theorem wrongType_any (k : Int) (v : ByteArray) (w : World) : Calls Tryz.prog 67 #[.agg #[.int .i64 k, .string v]] w fun e w' => e = .returned (.bool (!isType k)) ∧ Below w.heap.size w w' := by
  have H := Lib.hid (fun W => isType_any k W)
  generalize isType k = b at *
  go_enter Tryz.func67, Tryz.ntmps67
  go_wp2_with (go_at_call 100; ((with_reducible refine (H.out _).mono ?_); rintro e w1 ⟨rfl, rfl⟩))
  go_ret
  exact ⟨rfl, (Below.refl _ _).alloc (Nat.le_refl _) _⟩
set_option maxHeartbeats 1000000 in
theorem longValue_any (k : Int) (v : ByteArray) (w : World) : Calls Tryz.prog 68 #[.agg #[.int .i64 k, .string v]] w fun e w' => e = .returned (.bool (decide (1400 < v.size))) ∧ Below w.heap.size w w' := by
  have hd : decide (1400 < v.size) = decide ((1400 : Int) < (v.size : Int)) := by congr 1; simp; omega
  rw [hd]
  go_enter Tryz.func68, Tryz.ntmps68
  go_wp2
  go_ret
  exact ⟨rfl, (Below.refl _ _).alloc (Nat.le_refl _) _⟩
/-- How many bytes an item of so long a value has. -/
def sizeV (n : Nat) : Nat := 4 + n + padN (4 + n)
theorem sizeV_le (n : Nat) : sizeV n ≤ n + 7 := by unfold sizeV; have := padN_lt (4 + n); omega
set_option maxHeartbeats 1000000 in
theorem size_any (k : Int) (v : ByteArray) (hv : v.size ≤ 1000000000) (w : World) : Calls Tryz.prog 101 #[.agg #[.int .i64 k, .string v]] w fun e w' => e = .returned (.int .i64 (sizeV v.size : Nat)) ∧ Below w.heap.size w w' := by
  have h := fun W => pad_any (4 + (v.size : Int)) (by omega) (by omega) W
  rw [show (4 + (v.size : Int)) = ((4 + v.size : Nat) : Int) by omega, padI_nat] at h
  have hp := padN_lt (4 + v.size)
  have HS := Lib.hid (show (sizeV v.size : Int) = 4 + (v.size : Int) + (padN (4 + v.size) : Int) by unfold sizeV; omega)
  rw [show ((4 + v.size : Nat) : Int) = 4 + (v.size : Int) by omega] at h
  have H := Lib.hid h
  generalize sizeV v.size = r at *
  generalize padN (4 + v.size) = p at *
  clear h
  go_enter Tryz.func101, Tryz.ntmps101
  go_wp2_with (go_at_call 48; ((with_reducible refine (H.out _).mono ?_); rintro e w1 ⟨rfl, rfl⟩))
  go_ret
  exact ⟨by rw [HS.out]; rfl, (Below.refl _ _).alloc (Nat.le_refl _) _⟩
theorem two_seen {wc : World} {g : Nat} {ty : TypeId} {k : Int} {v : ByteArray} (n : Nat) (hn : n < 65536) (z : Int) (hz : z = (n : Int)) (W : World) (h : Hid (Stays wc g ty k v W)) :
    Calls Tryz.prog 102 #[.int .i64 z] W fun e w' => e = .returned (.string (twoB n)) ∧ Seen wc g ty k v w' := by
  subst hz
  exact (two_any n hn W).mono fun e w' ⟨he, hb⟩ => ⟨he, (h.out.next hb).seen⟩
theorem pad_seen {wc : World} {g : Nat} {ty : TypeId} {k : Int} {v : ByteArray} (n : Nat) (hn : n < 65536) (z : Int) (hz : z = (n : Int)) (W : World) (h : Hid (Stays wc g ty k v W)) :
    Calls Tryz.prog 48 #[.int .i64 z] W fun e w' => e = .returned (.int .i64 (padN n : Nat)) ∧ Seen wc g ty k v w' := by
  subst hz
  rw [← padI_nat]
  exact (pad_any (n : Int) (by omega) (by omega) W).mono fun e w' ⟨he, hb⟩ => ⟨he, by subst hb; exact h.out.seen⟩
set_option maxHeartbeats 4000000 in
theorem bytesOf_any (k : Nat) (hk : k < 65536) (v : ByteArray) (hv : v.size ≤ 1400) (w : World) :
    Calls Tryz.prog 70 #[.agg #[.int .i64 (k : Int), .string v]] w fun e w' => e = .returned (.string (bytesB ((k : Int), v))) ∧ Below w.heap.size w w' := by
  have hB := bytesB_is ((k : Int), v)
  rw [show ((k : Int), v).1.toNat = k from Int.toNat_natCast k] at hB
  dsimp only at hB
  have hc := nought_cut (padN (4 + v.size)) (by have := padN_lt (4 + v.size); omega)
  have hz := zerosB_size (padN (4 + v.size))
  have hp := padN_lt (4 + v.size)
  have HB0 := Lib.hid ((Below.refl w.heap.size w).alloc (Nat.le_refl _) (.cells #[.int .i64 (k : Int), .string v] 86))
  have HH : Hid (ItAt (w.alloc (.cells #[.int .i64 (k : Int), .string v] 86)) w.heap.size 86 (k : Int) v) := Lib.hid (heap_alloc_new _ _)
  have F1 := Lib.hid (fun wc (u : World) => @two_seen wc w.heap.size 86 (k : Int) v k hk (k : Int) rfl u)
  have F2 := Lib.hid (fun wc (u : World) => @two_seen wc w.heap.size 86 (k : Int) v (4 + v.size) (by omega) (4 + (v.size : Int)) (by omega) u)
  have F3 := Lib.hid (fun wc (u : World) => @pad_seen wc w.heap.size 86 (k : Int) v (4 + v.size) (by omega) (4 + (v.size : Int)) (by omega) u)
  have s1 := Nat.le_of_eq (twoB_size k)
  have s2 := Nat.le_of_eq (twoB_size (4 + v.size))
  have HR := Lib.hid hB
  clear hB
  generalize bytesB ((k : Int), v) = r at *
  generalize padN (4 + v.size) = p at *
  generalize twoB k = x1 at *
  generalize twoB (4 + v.size) = x2 at *
  have hz' := Nat.le_of_eq hz
  have HC := Lib.hid hc
  clear hz hc
  have q1 : ¬ 9223372036854775807 < x1.size + x2.size := by omega
  have q2 : ¬ 9223372036854775807 < x1.size + x2.size + v.size := by omega
  have q3 : ¬ 9223372036854775807 < x1.size + x2.size + v.size + p := by omega
  have q4 : (p : Int) ≤ 3 := by omega
  have q5 : p ≤ 3 := by omega
  have hw1 : IntKind.i64.wrap (4 + (v.size : Int)) = 4 + (v.size : Int) := wrap_i64_id _ (by omega) (by omega)
  go_enter Tryz.func70, Tryz.ntmps70
  go_wp2_with fail
  generalize w.alloc (.cells #[.int .i64 (k : Int), .string v] 86) = wc at *
  have HK0 := Lib.hid (Stays.seen (Stays.drew (⟨HH.out, Below.refl wc.heap.size wc⟩ : Stays wc w.heap.size 86 (k : Int) v wc)))
  go_region_held3 (Seen wc w.heap.size 86 (k : Int) v)
    (first | exact HK0.out | (go_split_ands; refine ⟨?_, ?_, ?_⟩ <;> assumption))
    (first
      | (go_at_call 102; go_split_ands; (with_reducible refine (F1.out wc _ ?_).mono ?_); assumption; rintro e w2 ⟨rfl, k1, k2, k5⟩)
      | (go_at_call 102; go_split_ands; (with_reducible refine (F2.out wc _ ?_).mono ?_); assumption; rintro e w2 ⟨rfl, k1, k2, k5⟩)
      | (go_at_call 48; go_split_ands; (with_reducible refine (F3.out wc _ ?_).mono ?_); assumption; rintro e w2 ⟨rfl, k1, k2, k5⟩))
  go_wp2_with fail
  go_ret
  exact ⟨by rw [← HR.out, ← HC.out]; rfl, HB0.out.trans (k5.out.2.mono HB0.out.size)⟩
end Go.Proofs.YtlbaockipeojhaaGreat
end
section
namespace Go.Proofs.YtlbaockipeojhaaGreat
open Go.RowKit
set_option linter.unusedVariables false

/-- The cells of items. -/
def flatI (l : List Item) : List Value := l.flatMap fun x => [.int .i64 x.1, .string x.2]
theorem flatI_length (l : List Item) : (flatI l).length = l.length * 2 := by
  induction l with
  | nil => rfl
  | cons p ps ih => simp only [flatI, List.flatMap_cons, List.length_append, List.length_cons, List.length_nil] at ih ⊢; omega
theorem flatI_append (l m : List Item) : flatI (l ++ m) = flatI l ++ flatI m := by simp [flatI]
theorem flatI_one (l : List Item) : ∀ u ∈ flatI l, u.oneCell' = true := by
  intro u hu
  obtain ⟨x, _, hx⟩ := List.mem_flatMap.1 hu
  simp only [List.mem_cons, List.not_mem_nil, or_false] at hx
  rcases hx with rfl | rfl <;> rfl
theorem flatI_at (l : List Item) (i : Nat) (h : i < l.length) : (flatI l)[i * 2]? = some (.int .i64 l[i].1) ∧ (flatI l)[i * 2 + 1]? = some (.string l[i].2) := by
  induction l generalizing i with
  | nil => simp at h
  | cons p ps ih =>
    cases i with
    | zero => simp [flatI]
    | succ i =>
      have := ih i (by simpa using h)
      simp only [flatI, List.flatMap_cons] at this ⊢
      rw [show (i + 1) * 2 = i * 2 + 2 by omega]
      simpa using this
/-- The slice v reads as these items; nil and empty ones let in. -/
def RowI (w : World) (v : Value) (l : List Item) : Prop :=
  ∃ (A : Option Addr) (cap : Nat), v = .slice A l.length cap ∧ l.length ≤ cap ∧ cap ≤ maxLen ∧ (0 < l.length → ∃ b off, A = some ⟨b, off, none⟩ ∧ b < w.heap.size ∧ ∀ j (h : j < l.length), w.cell? ⟨b, off + j * 2, none⟩ = some (.int .i64 l[j].1) ∧ w.cell? ⟨b, off + j * 2 + 1, none⟩ = some (.string l[j].2))
theorem RowI.below {w w' : World} {v : Value} {l : List Item} (h : RowI w v l) (hb : Below w.heap.size w w') : RowI w' v l := by
  obtain ⟨A, cap, rfl, hc, hm, h⟩ := h
  refine ⟨A, cap, rfl, hc, hm, fun hl => ?_⟩
  obtain ⟨b, off, rfl, hlt, hcell⟩ := h hl
  exact ⟨b, off, rfl, Nat.lt_of_lt_of_le hlt hb.size, fun j hj => ⟨(hb.cell (p := ⟨b, off + j * 2, none⟩) hlt).trans (hcell j hj).1, (hb.cell (p := ⟨b, off + j * 2 + 1, none⟩) hlt).trans (hcell j hj).2⟩⟩
theorem RowI.nil (w : World) : RowI w (.slice none 0 0) [] := ⟨none, 0, rfl, Nat.le_refl _, Nat.zero_le _, fun h => absurd h (by simp)⟩
/-- What the call owns reads as a list. -/
theorem rowI_of_own {w : World} {base n : Nat} {e : TypeId} {v : Value} {l : List Item} (h : OwnG w base e 2 v n (flatI l)) : RowI w v l := by
  have hl : l.length = n := by have := h.1; rw [flatI_length] at this; omega
  subst hl
  rcases h.2 with ⟨rfl, h0⟩ | ⟨g, cap, cur, fz, rfl, hb, hh, h1, h2, _⟩
  · exact ⟨none, 0, by rw [h0], by omega, Nat.zero_le _, fun hp => by omega⟩
  · refine ⟨_, cap, rfl, h1, h2, fun _ => ⟨g, 0, rfl, (Array.getElem?_eq_some_iff.1 hh).1, fun j hj => ?_⟩⟩
    obtain ⟨e1, e2⟩ := flatI_at l j hj
    rw [Nat.zero_add]
    exact ⟨h.cells _ _ e1, h.cells _ _ e2⟩
theorem rowL_take (l : List Item) (k : Nat) (h : k < l.length) : rowL (l.take (k + 1)) = rowL (l.take k) ++ bytesL l[k] := by
  rw [List.take_succ_eq_append_getElem h, rowL_snoc]
theorem rowL_size_take (l : List Item) (k : Nat) (h : k < l.length) : (rowL (l.take (k + 1))).length = (rowL (l.take k)).length + sizeV l[k].2.size := by
  rw [rowL_take l k h, List.length_append, bytesL_length]
  rfl
theorem rowL_le (l : List Item) (m : Nat) (h : ∀ x ∈ l, x.2.size ≤ m) : (rowL l).length ≤ l.length * (m + 7) := by
  induction l with
  | nil => exact Nat.zero_le _
  | cons x l ih =>
    have h1 := h x (by simp)
    have h2 := ih fun y hy => h y (by simp [hy])
    have h3 := sizeV_le x.2.size
    rw [rowL_cons, List.length_append, bytesL_length, List.length_cons, Nat.add_mul, Nat.one_mul]
    unfold sizeV at h3
    omega

set_option maxHeartbeats 1000000 in
theorem sizeOf_any (l : List Item) (hl : l.length ≤ 100000) (hs : ∀ x ∈ l, x.2.size ≤ 1000000) (v : Value) (w : World) (hv : RowI w v l) :
    Calls Tryz.prog 69 #[v] w fun e w' => e = .returned (.int .i64 ((rowL l).length : Nat)) ∧ Below w.heap.size w w' := by
  obtain ⟨A, cap, rfl, hcap, hmax, hcells⟩ := hv
  have HC := Lib.hid hcells
  have HZ := Lib.hid (fun k (h : k < l.length) => rowL_size_take l k h)
  have HS := Lib.hid hs
  have HL := Lib.hid (show rowL (l.take l.length) = rowL l by rw [List.take_length])
  have HZ0 := Lib.hid (show (rowL (l.take 0)).length = 0 from rfl)
  have HZL := Lib.hid (fun k => show (rowL (l.take k)).length ≤ 100000 * 1000007 from by
    have h1 := rowL_le (l.take k) 1000000 fun x hx => hs x (List.mem_of_mem_take hx)
    have h2 : (l.take k).length ≤ 100000 := by rw [List.length_take]; omega
    exact Nat.le_trans h1 (Nat.mul_le_mul_right _ h2))
  clear hcells hs
  have hl' : (l.length : Int) ≤ 100000 := by omega
  go_enter Tryz.func69, Tryz.ntmps69
  go_wp2_with fail
  go_loopw [3, 8] (fun s i wr => ∃ k : Nat, k ≤ l.length ∧ i = .int .i64 k ∧ s = .int .i64 ((rowL (l.take k)).length : Nat) ∧ Below w.heap.size w wr)
    (fun _ i _ => l.length - (intOf i).toNat)
  case atStart => exact ⟨0, Nat.zero_le _, rfl, by rw [HZ0.out]; rfl, Below.refl _ _⟩
  case round =>
    obtain ⟨k, hk, rfl, rfl, hbr⟩ := hrel
    by_cases hlt : k < l.length
    · obtain ⟨b, off, rfl, hb, hc⟩ := HC.out (by omega)
      obtain ⟨hc0, hc1⟩ := hc k hlt
      have hx := HS.out l[k] (List.getElem_mem hlt)
      have HT := Lib.hid (HZ.out k hlt)
      generalize hxe : l[k] = x at *
      obtain ⟨a, t⟩ := x
      dsimp only at hc0 hc1 hx
      have hd0 := (hbr.cell (p := ⟨b, off + k * 2, none⟩) hb).trans hc0
      have hd1 := (hbr.cell (p := ⟨b, off + k * 2 + 1, none⟩) hb).trans hc1
      have HB := Lib.hid hbr
      have hbs := hbr.size
      have hblt := Nat.lt_of_lt_of_le hb hbr.size
      have HSZ := Lib.hid (fun W => size_any a t (by omega) W)
      have hsl := sizeV_le t.size
      have hzl := HZL.out k
      generalize sizeV t.size = z at *
      generalize (rowL (l.take k)).length = q at *
      clear hc hc0 hc1 hxe hbr
      go_wp2_with (go_at_call 101; ((with_reducible refine (HSZ.out _).mono ?_); rintro e w1 ⟨rfl, hb1⟩))
      go_roundw
      case rel => exact ⟨k + 1, by omega, by go_num, by rw [HT.out]; go_num, (HB.out.alloc hbs _).trans (hb1.mono (by simp; omega))⟩
      case measure => simp [intOf]; omega
    · obtain rfl : k = l.length := by omega
      go_wp2_with fail
      go_ret
      exact ⟨by rw [← HL.out]; rfl, hbr⟩

theorem wrong_in (l : List Item) (k : Nat) (h : k < l.length) (hp : (fun x => !isType x.1 : Item → Bool) l[k] = true) : anyWrong l = true := by
  unfold anyWrong
  rw [List.any_eq_true]
  exact ⟨l[k], List.getElem_mem h, hp⟩
theorem wrong_not (l : List Item) (k : Nat) (h : k < l.length) (h0 : anyWrong (l.take k) = false) (hp : (fun x => !isType x.1 : Item → Bool) l[k] = false) : anyWrong (l.take (k + 1)) = false := by
  unfold anyWrong at *
  rw [List.take_succ_eq_append_getElem h, List.any_append, h0, Bool.false_or]
  simp only [List.any_cons, List.any_nil, Bool.or_false]
  exact hp
set_option maxHeartbeats 1000000 in
theorem index_wrong (l : List Item) (hl : l.length ≤ 100000) (v : Value) (w : World) (hv : RowI w v l) :
    Calls Tryz.prog 99 #[v, .func (.func 67) #[] #[]] w fun e w' => ∃ i : Int, e = .returned (.int .i64 i) ∧ ((0 ≤ i ∧ anyWrong l = true) ∨ (i = -1 ∧ anyWrong l = false)) ∧ Below w.heap.size w w' := by
  obtain ⟨A, cap, rfl, hcap, hmax, hcells⟩ := hv
  have HC := Lib.hid hcells
  have HI := Lib.hid (fun k (h : k < l.length) hp => wrong_in l k h hp)
  have HN := Lib.hid (fun k (h : k < l.length) h0 hp => wrong_not l k h h0 hp)
  have HL := Lib.hid (show anyWrong (l.take l.length) = anyWrong l by rw [List.take_length])
  clear hcells
  have hl' : (l.length : Int) ≤ 100000 := by omega
  go_enter Tryz.func99, Tryz.ntmps99
  go_wp2_with fail
  go_loopw [8] (fun i wr => ∃ k : Nat, k ≤ l.length ∧ i = .int .i64 k ∧ Hid (anyWrong (l.take k) = false) ∧ Below w.heap.size w wr)
    (fun i _ => l.length - (intOf i).toNat)
  case atStart => exact ⟨0, Nat.zero_le _, rfl, Lib.hid rfl, Below.refl _ _⟩
  case round =>
    obtain ⟨k, hk, rfl, HF, hbr⟩ := hrel
    by_cases hlt : k < l.length
    · obtain ⟨b, off, rfl, hb, hc⟩ := HC.out (by omega)
      obtain ⟨hc0, hc1⟩ := hc k hlt
      have HT := Lib.hid (HI.out k hlt)
      have HU := Lib.hid (HN.out k hlt HF.out)
      generalize hxe : l[k] = x at *
      obtain ⟨a, t⟩ := x
      dsimp only at hc0 hc1 HT HU
      have hd0 := (hbr.cell (p := ⟨b, off + k * 2, none⟩) hb).trans hc0
      have hd1 := (hbr.cell (p := ⟨b, off + k * 2 + 1, none⟩) hb).trans hc1
      have HB := Lib.hid hbr
      have hbs := hbr.size
      have hblt := Nat.lt_of_lt_of_le hb hbr.size
      have HSZ := Lib.hid (fun W => wrongType_any a t W)
      generalize hq : (!isType a) = q at *
      clear hc hc0 hc1 hxe hbr hq
      cases q with
      | true =>
        go_wp2_with (go_at_call 67; ((with_reducible refine (HSZ.out _).mono ?_); rintro e w1 ⟨rfl, hb1⟩))
        go_ret
        exact ⟨(k : Int), rfl, .inl ⟨by omega, HT.out trivial⟩, HB.out.trans (hb1.mono hbs)⟩
      | false =>
        go_wp2_with (go_at_call 67; ((with_reducible refine (HSZ.out _).mono ?_); rintro e w1 ⟨rfl, hb1⟩))
        go_roundw
        case rel => exact ⟨k + 1, by omega, by go_num, Lib.hid (HU.out trivial), HB.out.trans (hb1.mono hbs)⟩
        case measure => simp [intOf]; omega
    · obtain rfl : k = l.length := by omega
      go_wp2_with fail
      go_ret
      exact ⟨-1, rfl, .inr ⟨rfl, by rw [← HL.out]; exact HF.out⟩, hbr⟩
set_option maxHeartbeats 1000000 in
theorem contains_wrong (l : List Item) (hl : l.length ≤ 100000) (v : Value) (w : World) (hv : RowI w v l) :
    Calls Tryz.prog 66 #[v, .func (.func 67) #[] #[]] w fun e w' => e = .returned (.bool (anyWrong l)) ∧ Below w.heap.size w w' := by
  have H := Lib.hid (index_wrong l hl v w hv)
  generalize anyWrong l = q at *
  clear hv
  go_enter Tryz.func66, Tryz.ntmps66
  go_wp2_with fail
  refine H.out.mono ?_
  rintro e w1 ⟨i, rfl, hi, hb1⟩
  rcases hi with ⟨hi, rfl⟩ | ⟨rfl, rfl⟩
  all_goals
    go_wp2_with fail
    go_ret
    exact ⟨rfl, hb1⟩

theorem long_in (l : List Item) (k : Nat) (h : k < l.length) (hp : (fun x => decide (1400 < x.2.size) : Item → Bool) l[k] = true) : anyLong l = true := by
  unfold anyLong
  rw [List.any_eq_true]
  exact ⟨l[k], List.getElem_mem h, hp⟩
theorem long_not (l : List Item) (k : Nat) (h : k < l.length) (h0 : anyLong (l.take k) = false) (hp : (fun x => decide (1400 < x.2.size) : Item → Bool) l[k] = false) : anyLong (l.take (k + 1)) = false := by
  unfold anyLong at *
  rw [List.take_succ_eq_append_getElem h, List.any_append, h0, Bool.false_or]
  simp only [List.any_cons, List.any_nil, Bool.or_false]
  exact hp
set_option maxHeartbeats 1000000 in
theorem index_long (l : List Item) (hl : l.length ≤ 100000) (v : Value) (w : World) (hv : RowI w v l) :
    Calls Tryz.prog 99 #[v, .func (.func 68) #[] #[]] w fun e w' => ∃ i : Int, e = .returned (.int .i64 i) ∧ ((0 ≤ i ∧ anyLong l = true) ∨ (i = -1 ∧ anyLong l = false)) ∧ Below w.heap.size w w' := by
  obtain ⟨A, cap, rfl, hcap, hmax, hcells⟩ := hv
  have HC := Lib.hid hcells
  have HI := Lib.hid (fun k (h : k < l.length) hp => long_in l k h hp)
  have HN := Lib.hid (fun k (h : k < l.length) h0 hp => long_not l k h h0 hp)
  have HL := Lib.hid (show anyLong (l.take l.length) = anyLong l by rw [List.take_length])
  clear hcells
  have hl' : (l.length : Int) ≤ 100000 := by omega
  go_enter Tryz.func99, Tryz.ntmps99
  go_wp2_with fail
  go_loopw [8] (fun i wr => ∃ k : Nat, k ≤ l.length ∧ i = .int .i64 k ∧ Hid (anyLong (l.take k) = false) ∧ Below w.heap.size w wr)
    (fun i _ => l.length - (intOf i).toNat)
  case atStart => exact ⟨0, Nat.zero_le _, rfl, Lib.hid rfl, Below.refl _ _⟩
  case round =>
    obtain ⟨k, hk, rfl, HF, hbr⟩ := hrel
    by_cases hlt : k < l.length
    · obtain ⟨b, off, rfl, hb, hc⟩ := HC.out (by omega)
      obtain ⟨hc0, hc1⟩ := hc k hlt
      have HT := Lib.hid (HI.out k hlt)
      have HU := Lib.hid (HN.out k hlt HF.out)
      generalize hxe : l[k] = x at *
      obtain ⟨a, t⟩ := x
      dsimp only at hc0 hc1 HT HU
      have hd0 := (hbr.cell (p := ⟨b, off + k * 2, none⟩) hb).trans hc0
      have hd1 := (hbr.cell (p := ⟨b, off + k * 2 + 1, none⟩) hb).trans hc1
      have HB := Lib.hid hbr
      have hbs := hbr.size
      have hblt := Nat.lt_of_lt_of_le hb hbr.size
      have HSZ := Lib.hid (fun W => longValue_any a t W)
      generalize hq : (decide (1400 < t.size)) = q at *
      clear hc hc0 hc1 hxe hbr hq
      cases q with
      | true =>
        go_wp2_with (go_at_call 68; ((with_reducible refine (HSZ.out _).mono ?_); rintro e w1 ⟨rfl, hb1⟩))
        go_ret
        exact ⟨(k : Int), rfl, .inl ⟨by omega, HT.out trivial⟩, HB.out.trans (hb1.mono hbs)⟩
      | false =>
        go_wp2_with (go_at_call 68; ((with_reducible refine (HSZ.out _).mono ?_); rintro e w1 ⟨rfl, hb1⟩))
        go_roundw
        case rel => exact ⟨k + 1, by omega, by go_num, Lib.hid (HU.out trivial), HB.out.trans (hb1.mono hbs)⟩
        case measure => simp [intOf]; omega
    · obtain rfl : k = l.length := by omega
      go_wp2_with fail
      go_ret
      exact ⟨-1, rfl, .inr ⟨rfl, by rw [← HL.out]; exact HF.out⟩, hbr⟩
set_option maxHeartbeats 1000000 in
theorem contains_long (l : List Item) (hl : l.length ≤ 100000) (v : Value) (w : World) (hv : RowI w v l) :
    Calls Tryz.prog 66 #[v, .func (.func 68) #[] #[]] w fun e w' => e = .returned (.bool (anyLong l)) ∧ Below w.heap.size w w' := by
  have H := Lib.hid (index_long l hl v w hv)
  generalize anyLong l = q at *
  clear hv
  go_enter Tryz.func66, Tryz.ntmps66
  go_wp2_with fail
  refine H.out.mono ?_
  rintro e w1 ⟨i, rfl, hi, hb1⟩
  rcases hi with ⟨hi, rfl⟩ | ⟨rfl, rfl⟩
  all_goals
    go_wp2_with fail
    go_ret
    exact ⟨rfl, hb1⟩
end Go.Proofs.YtlbaockipeojhaaGreat
end
section
namespace Go.Proofs.YtlbaockipeojhaaGreat
open Go.RowKit
set_option linter.unusedVariables false

theorem info63 : (Tryz.prog.info? 105).map (fun i => (i.zero, i.size, i.bytes)) = some (some (.agg #[.int .i64 0, .string ⟨#[]⟩]), 2, 24) := by kernel_rfl
theorem info47 : (Tryz.prog.info? 86).map (fun i => (i.zero, i.size, i.bytes)) = some (some (.agg #[.int .i64 0, .string ⟨#[]⟩]), 2, 24) := by kernel_rfl
theorem flatI_take (l : List Item) (k : Nat) (h : k < l.length) : flatI (l.take (k + 1)) = flatI (l.take k) ++ [.int .i64 l[k].1, .string l[k].2] := by
  rw [List.take_succ_eq_append_getElem h, flatI_append]
  rfl
/-- Two cells just laid. -/
theorem fed_two {P : Program} (w : World) (a b : Value) (t : TypeId) (h1 : a.oneCell' = true) (h2 : b.oneCell' = true) : Fed P (w.alloc (.cells #[a, b] t)) 2 (.slice (some ⟨w.heap.size, 0, none⟩) 1 1) 1 [a, b] :=
  Fed.block (heap_alloc_new w _) rfl (by intro u hu; simp at hu; rcases hu with rfl | rfl <;> assumption)

theorem eqB_true {a b : ByteArray} (h : a = b) : (a.toList == b.toList) = true := by subst h; simp
theorem eqB_false {a b : ByteArray} (h : a ≠ b) : (a.toList == b.toList) = false := by
  rw [ByteArray.toList_eq, ByteArray.toList_eq]
  exact beq_eq_false_iff_ne.2 fun e => h (ByteArray.ext (Array.toList_inj.1 e))
theorem neq_items (a c : Int) (s t : ByteArray) (w : World) : (binOp .neq 105 (.agg #[.int .i64 a, .string s]) (.agg #[.int .i64 c, .string t])).run Tryz.prog w = .ok (.bool (!((a == c) && (s.toList == t.toList)))) w := by
  have hfo : Tryz.prog.fieldsOf 105 = #[{ name := "Type", type := 3, offset := 0, embedded := false, tag := "", pkgPath := "", byteOffset := 0 }, { name := "Value", type := 9, offset := 1, embedded := false, tag := "", pkgPath := "", byteOffset := 8 }] := by
    unfold Program.fieldsOf
    rw [Tryz.underlying105]
  rw [run_neq_struct, run_equalIn_struct w 9999 _ _ _ (by rw [hfo]; exact Tryz.underlying105) Tryz.stoodInHeld105, hfo]
  cases h1 : (a == c) <;> cases h2 : (s.toList == t.toList) <;> simp [Op.eqFields, go_sem, h1, h2]
theorem neq_is (a c : Int) (s t : ByteArray) (w : World) : (binOp .neq 105 (.agg #[.int .i64 a, .string s]) (.agg #[.int .i64 c, .string t])).run Tryz.prog w = .ok (.bool (!decide ((a, s) = (c, t)))) w := by
  rw [neq_items]
  congr 3
  by_cases h : (a, s) = (c, t)
  · obtain ⟨rfl, rfl⟩ := Prod.mk.inj h
    rw [eqB_true rfl]
    simp
  · rw [decide_eq_false h]
    by_cases h1 : a = c
    · have h2 : s ≠ t := by rintro rfl; exact h (by rw [h1])
      rw [eqB_false h2, Bool.and_false]
    · rw [beq_eq_false_iff_ne.2 h1, Bool.false_and]
end Go.Proofs.YtlbaockipeojhaaGreat
end
section
namespace Go.Proofs.YtlbaockipeojhaaGreat
open Go.RowKit
set_option linter.unusedVariables false

section
variable {P : Program} (w : World)
end
end Go.Proofs.YtlbaockipeojhaaGreat
end
