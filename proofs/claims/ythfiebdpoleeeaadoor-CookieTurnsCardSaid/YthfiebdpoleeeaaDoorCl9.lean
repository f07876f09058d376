/-
  Package cookie: the closures that take numbers of each size off a text: contracts.
-/
import Derived.Test.YthfiebdpoleeeaaDoorBu9
namespace Go.Proofs.YthfiebdpoleeeaaDoor
open Go.RowKit
set_option linter.unusedVariables false

theorem wrap64_is (n : Int) : IntKind.i64.wrap n = wrap64 n := by unfold wrap64; exact IntKind.wrap_i64 n
/-- The result lies zero in block n0, the text from k on in block Bs, the closure that takes it in block Bt. -/
structure TkS (n0 Bs Bt k : Nat) (t : ByteArray) (w W : World) : Prop where
  res : W.heap[n0]? = some (.cells (cellsS zeroS) 25 (0, 0))
  text : Bx W Bs 9 (.string (t.extract k t.size))
  take : Bx W Bt 91 (takeV Bs)
  below : Below w.heap.size w W
  o0 : w.heap.size ≤ n0
  o1 : n0 < Bs
  o2 : Bs < Bt
theorem TkS.grown {n0 Bs Bt k m : Nat} {t : ByteArray} {w W W' : World} (h : TkS n0 Bs Bt k t w W) (hb : Bx W' Bs 9 (.string (t.extract m t.size))) (hg : W.grownBy W' (some Bs)) : TkS n0 Bs Bt m t w W' := by
  have h1 := (Array.getElem?_eq_some_iff.1 h.res).1
  have a := h.o0
  have b := h.o1
  have c := h.o2
  have d := h.below.size
  exact ⟨(hg.block n0 h1 (by simp; omega)).trans h.res, hb, h.take.kept hg (by simp; omega), h.below.trans (below_of_grown hg d (by omega)), a, b, c⟩
theorem TkS.later {n0 Bs Bt k : Nat} {t : ByteArray} {w W W' : World} (h : TkS n0 Bs Bt k t w W) (hb : Below W.heap.size W W') : TkS n0 Bs Bt k t w W' := by
  have h1 := (Array.getElem?_eq_some_iff.1 h.res).1
  exact ⟨(hb.block n0 h1).trans h.res, h.text.later hb, h.take.later hb, h.below.trans (hb.mono h.below.size), h.o0, h.o1, h.o2⟩
theorem TkS.drew {n0 Bs Bt k : Nat} {t : ByteArray} {w W : World} (h : TkS n0 Bs Bt k t w W) : TkS n0 Bs Bt k t w W.drew := h.later (Below.refl _ _).drew
theorem cut_rest {t : ByteArray} {k n : Nat} (h : k + n ≤ t.size) : (t.extract k t.size).extract n (t.extract k t.size).size = t.extract (k + n) t.size := by
  apply bytes_ext
  rw [extract_list, extract_list, extract_list, ByteArray.size_extract]
  have hl := size_list t
  rw [List.take_of_length_le (l := List.drop k _) (by rw [List.length_drop]; omega), List.drop_drop, List.take_of_length_le (by rw [List.length_drop]; omega), List.take_of_length_le (by rw [List.length_drop]; omega)]
theorem at_rest {t : ByteArray} {k n : Nat} (h : k + n ≤ t.size) : valN ((t.extract k t.size).data.toList.take n) = at9 t.data.toList k n := by
  unfold at9 cutL
  have hl := size_list t
  rw [extract_list, List.take_of_length_le (l := List.drop k _) (by rw [List.length_drop]; omega)]
theorem TkS.taken {n0 Bs Bt k : Nat} {t : ByteArray} {w W : World} (h : TkS n0 Bs Bt k t w W) (ht : t.size ≤ 1000000) (n : Nat) (hn : n ≤ 8) (hk : k + n ≤ t.size) :
    Calls Tryd.prog 63 #[.int .i64 (n : Int), .pointer (some ⟨Bs, 0, none⟩)] W fun e W' => e = .returned (.int .u64 (at9 t.data.toList k n : Nat)) ∧ TkS n0 Bs Bt (k + n) t w W' := by
  refine (take_any Bs (t.extract k t.size) (by rw [ByteArray.size_extract]; omega) n hn (by rw [ByteArray.size_extract]; omega) W h.text).mono ?_
  rintro e W' ⟨rfl, hb, hg⟩
  rw [cut_rest hk] at hb
  rw [at_rest hk]
  exact ⟨rfl, h.grown hb hg⟩
set_option maxHeartbeats 1000000 in
theorem TkS.long {n0 Bs Bt k : Nat} {t : ByteArray} {w W : World} (h : TkS n0 Bs Bt k t w W) (ht : t.size ≤ 1000000) (hk : k + 4 ≤ t.size) :
    Calls Tryd.prog 51 #[.pointer (some ⟨Bt, 0, none⟩)] W fun e W' => e = .returned (.int .u32 (at9 t.data.toList k 4 : Nat)) ∧ TkS n0 Bs Bt (k + 4) t w W' := by
  have H := Lib.hid (h.taken ht 4 (by omega) hk)
  have hl : at9 t.data.toList k 4 < 4294967296 := at9_lt _ _ 4
  have hc : W.cell? ⟨Bt, 0, none⟩ = some (takeV Bs) := cell_of_one h.take
  generalize at9 t.data.toList k 4 = x at *
  clear h ht hk
  unfold takeV at hc
  go_enter Tryd.func51, Tryd.ntmps51
  go_wp2_with fail
  refine H.out.mono ?_
  rintro e w1 ⟨rfl, h1⟩
  have H1 := Lib.hid h1
  clear h1 H
  go_wp2_with fail
  go_ret
  exact ⟨by go_num, H1.out⟩
set_option maxHeartbeats 1000000 in
theorem TkS.short {n0 Bs Bt k : Nat} {t : ByteArray} {w W : World} (h : TkS n0 Bs Bt k t w W) (ht : t.size ≤ 1000000) (hk : k + 2 ≤ t.size) :
    Calls Tryd.prog 52 #[.pointer (some ⟨Bt, 0, none⟩)] W fun e W' => e = .returned (.int .u16 (at9 t.data.toList k 2 : Nat)) ∧ TkS n0 Bs Bt (k + 2) t w W' := by
  have H := Lib.hid (h.taken ht 2 (by omega) hk)
  have hl : at9 t.data.toList k 2 < 65536 := at9_lt _ _ 2
  have hc : W.cell? ⟨Bt, 0, none⟩ = some (takeV Bs) := cell_of_one h.take
  generalize at9 t.data.toList k 2 = x at *
  clear h ht hk
  unfold takeV at hc
  go_enter Tryd.func52, Tryd.ntmps52
  go_wp2_with fail
  refine H.out.mono ?_
  rintro e w1 ⟨rfl, h1⟩
  have H1 := Lib.hid h1
  clear h1 H
  go_wp2_with fail
  go_ret
  exact ⟨by go_num, H1.out⟩
set_option maxHeartbeats 1000000 in
theorem TkS.time {n0 Bs Bt k : Nat} {t : ByteArray} {w W : World} (h : TkS n0 Bs Bt k t w W) (ht : t.size ≤ 1000000) (hk : k + 8 ≤ t.size) :
    Calls Tryd.prog 53 #[.pointer (some ⟨Bt, 0, none⟩)] W fun e W' => e = .returned (.int .i64 (IntKind.i64.wrap (at9 t.data.toList k 8 : Nat))) ∧ TkS n0 Bs Bt (k + 8) t w W' := by
  have H := Lib.hid (h.taken ht 8 (by omega) hk)
  have hc : W.cell? ⟨Bt, 0, none⟩ = some (takeV Bs) := cell_of_one h.take
  generalize at9 t.data.toList k 8 = x at *
  clear h ht hk
  unfold takeV at hc
  go_enter Tryd.func53, Tryd.ntmps53
  go_wp2_with fail
  refine H.out.mono ?_
  rintro e w1 ⟨rfl, h1⟩
  have H1 := Lib.hid h1
  clear h1 H
  go_wp2_with fail
  go_ret
  exact ⟨by rw [wrap64_is]; rfl, H1.out⟩
end Go.Proofs.YthfiebdpoleeeaaDoor
