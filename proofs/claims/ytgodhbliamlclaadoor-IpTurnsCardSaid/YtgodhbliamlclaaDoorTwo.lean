/-
  Package ip: a number in two bytes, the check of a header, the bytes of a text in a row: contracts.
-/
import Derived.Test.YtgodhbliamlclaaDoorSum
import Derived.BigQuiet
import Derived.RegionCalls
import Derived.Deep.RegionHeld3
namespace Go.Proofs.YtgodhbliamlclaaDoor
open Go.RowKit
set_option linter.unusedVariables false

/-- Two bytes as a text, one. -/
def twoB (n : Nat) : ByteArray := ⟨(be16 n).toArray⟩
def oneB (n : Nat) : ByteArray := ⟨[UInt8.ofNat n].toArray⟩
theorem twoB_size (n : Nat) : (twoB n).size = 2 := rfl
theorem oneB_size (n : Nat) : (oneB n).size = 1 := rfl

/-- A row of known bytes, just laid, as a text. -/
theorem new_text (w : World) (l : List UInt8) (cap : Nat) : (convert 39 9 (.slice (some ⟨w.heap.size, 0, none⟩) l.length cap)).run Tryd.prog (w.alloc (.cells (l.map enc8).toArray 5)) = .ok (.string ⟨l.toArray⟩) (w.alloc (.cells (l.map enc8).toArray 5)) :=
  text_of _ _ 0 cap l fun j u hu => by
    rw [Nat.zero_add]
    have := new_cells w 5 (l.map enc8) j (enc8 u) (by rw [List.getElem?_map, hu]; rfl)
    rw [addr_plain, Nat.zero_add] at this
    exact this
theorem two_text (w : World) (x y : Int) (a b : Nat) (hx : x = (a : Int)) (hy : y = (b : Int)) (ha : a < 256) (hb : b < 256) :
    (convert 39 9 (.slice (some ⟨w.heap.size, 0, none⟩) 2 2)).run Tryd.prog (w.alloc (.cells #[.int .u8 x, .int .u8 y] 5)) = .ok (.string ⟨#[UInt8.ofNat a, UInt8.ofNat b]⟩) (w.alloc (.cells #[.int .u8 x, .int .u8 y] 5)) := by
  have h := new_text w [UInt8.ofNat a, UInt8.ofNat b] 2
  have e1 : (UInt8.ofNat a).toNat = a := UInt8.toNat_ofNat_of_lt' ha
  have e2 : (UInt8.ofNat b).toNat = b := UInt8.toNat_ofNat_of_lt' hb
  simp only [List.map_cons, List.map_nil, enc8, e1, e2, List.length_cons, List.length_nil] at h
  subst hx
  subst hy
  exact h
theorem one_text (w : World) (x : Int) (a : Nat) (hx : x = (a : Int)) (ha : a < 256) :
    (convert 39 9 (.slice (some ⟨w.heap.size, 0, none⟩) 1 1)).run Tryd.prog (w.alloc (.cells #[.int .u8 x] 5)) = .ok (.string ⟨#[UInt8.ofNat a]⟩) (w.alloc (.cells #[.int .u8 x] 5)) := by
  have h := new_text w [UInt8.ofNat a] 1
  have e1 : (UInt8.ofNat a).toNat = a := UInt8.toNat_ofNat_of_lt' ha
  simp only [List.map_cons, List.map_nil, enc8, e1, List.length_cons, List.length_nil] at h
  subst hx
  exact h
theorem ofNat_mod (n : Nat) : UInt8.ofNat (n % 256) = UInt8.ofNat n := UInt8.toNat_inj.1 (by rw [UInt8.toNat_ofNat', UInt8.toNat_ofNat']; omega)
theorem twoB_text (n : Nat) (hn : n < 65536) (w : World) :
    (convert 39 9 (.slice (some ⟨w.heap.size, 0, none⟩) 2 2)).run Tryd.prog (w.alloc (.cells #[.int .u8 ((n : Int) / 256), .int .u8 ((n : Int) % 256)] 5)) = .ok (.string (twoB n)) (w.alloc (.cells #[.int .u8 ((n : Int) / 256), .int .u8 ((n : Int) % 256)] 5)) := by
  rw [two_text w _ _ (n / 256) (n % 256) (by omega) (by omega) (by omega) (by omega), ofNat_mod]
  rfl

set_option maxHeartbeats 1000000 in
theorem two_any (n : Nat) (hn : n < 65536) (w : World) : Calls Tryd.prog 30 #[.int .i64 (n : Int)] w fun e w' => e = .returned (.string (twoB n)) ∧ Below w.heap.size w w' := by
  have ht := twoB_text n hn w
  generalize twoB n = t at *
  go_enter Tryd.func30, Tryd.ntmps30
  go_wp2
  go_ret
  exact ⟨rfl, (Below.refl _ _).alloc (Nat.le_refl _) _⟩
set_option maxHeartbeats 1000000 in
theorem rtwo_any (n : Nat) (hn : n < 65536) (w : World) : Calls Tryd.prog 20 #[.int .i64 (n : Int)] w fun e w' => e = .returned (.string (twoB n)) ∧ Below w.heap.size w w' := by
  have ht := twoB_text n hn w
  generalize twoB n = t at *
  go_enter Tryd.func20, Tryd.ntmps20
  go_wp2
  go_ret
  exact ⟨rfl, (Below.refl _ _).alloc (Nat.le_refl _) _⟩
set_option maxHeartbeats 1000000 in
theorem rone_any (n : Nat) (hn : n < 256) (w : World) : Calls Tryd.prog 21 #[.int .i64 (n : Int)] w fun e w' => e = .returned (.string (oneB n)) ∧ Below w.heap.size w w' := by
  have ht := one_text w (n : Int) n rfl hn
  rw [show (⟨#[UInt8.ofNat n]⟩ : ByteArray) = oneB n from rfl] at ht
  generalize oneB n = t at *
  go_enter Tryd.func21, Tryd.ntmps21
  go_wp2
  go_ret
  exact ⟨rfl, (Below.refl _ _).alloc (Nat.le_refl _) _⟩

/-- The check of a header that has these bytes around it. -/
def ckB (a b : ByteArray) : Nat := sumB (a ++ twoB 0 ++ b)
theorem ckB_lt (a b : ByteArray) : ckB a b < 65536 := sumB_lt _
set_option maxHeartbeats 1000000 in
theorem check4_any (a b : ByteArray) (ha : a.size ≤ 300000) (hb : b.size ≤ 300000) (w : World) : Calls Tryd.prog 31 #[.string a, .string b] w fun e w' => e = .returned (.int .i64 (ckB a b : Nat)) ∧ Below w.heap.size w w' := by
  have HB := Lib.hid (Below.refl w.heap.size w)
  have H0 := Lib.hid (show ∀ W, Calls Tryd.prog 30 #[.int .i64 0] W fun e w' => e = .returned (.string (twoB 0)) ∧ Below W.heap.size W w' from fun W => two_any 0 (by omega) W)
  have hz := twoB_size 0
  have H1 := Lib.hid (fun W => check16_any (a ++ twoB 0 ++ b) (by rw [ByteArray.size_append, ByteArray.size_append]; omega) W)
  rw [show sumB (a ++ twoB 0 ++ b) = ckB a b from rfl] at H1
  have hl := ckB_lt a b
  generalize ckB a b = r at *
  generalize twoB 0 = z at *
  have q1 : ¬ 9223372036854775807 < a.size + z.size := by omega
  have q2 : ¬ 9223372036854775807 < a.size + z.size + b.size := by omega
  go_enter Tryd.func31, Tryd.ntmps31
  go_wp2_with (first
    | (go_at_call 30; ((with_reducible refine (H0.out _).mono ?_); rintro e w1 ⟨rfl, hb1⟩); replace HB := Lib.hid (HB.out.trans (hb1.mono HB.out.size)); clear hb1)
    | (go_at_call 14; ((with_reducible refine (H1.out _).mono ?_); rintro e w1 ⟨rfl, hb1⟩); replace HB := Lib.hid (HB.out.trans (hb1.mono HB.out.size)); clear hb1))
  go_ret
  exact ⟨rfl, HB.out⟩

/-- The bytes from k on, so many of them. -/
def cutB (s : ByteArray) (k n : Nat) : ByteArray := s.extract k (k + n)
theorem cut_list (s : ByteArray) (k n : Nat) : (cutB s k n).data.toList = (s.data.toList.drop k).take n := by
  unfold cutB
  rw [ByteArray.data_extract, Array.toList_extract, List.extract_eq_take_drop, Nat.add_sub_cancel_left]
theorem cut_size (s : ByteArray) (k n : Nat) (h : k + n ≤ s.size) : (cutB s k n).size = n := by
  unfold cutB
  rw [ByteArray.size_extract]
  omega

theorem set_row (D : List UInt8) (n j : Nat) (hj : j < n) (hD : n ≤ D.length) : D.take (j + 1) ++ List.replicate (n - (j + 1)) 0 = (D.take j ++ List.replicate (n - j) 0).set j (D[j]'(by omega)) := by
  rw [List.set_append_right _ _ (by rw [List.length_take]; omega), List.length_take, Nat.min_eq_left (by omega), Nat.sub_self, show n - j = (n - (j + 1)) + 1 by omega, List.replicate_succ, List.set_cons_zero, List.take_succ_eq_append_getElem (by omega), List.append_assoc]
  rfl
theorem made_bytes (w : World) (n : Nat) (hn : n ≤ 140737488355328) : ∃ w', (Instr.makeSlice 39 (.int .i64 (n : Int)) (.int .i64 (n : Int))).run Tryd.prog w = .ok (.slice (some ⟨w.heap.size, 0, none⟩) n n) w' ∧
    w'.ownsRow w.heap.size 5 1 (.slice (some ⟨w.heap.size, 0, none⟩) n n) n ((List.replicate n (0 : UInt8)).map enc8) ∧ w.grownBy w' none := by
  obtain ⟨i0, hi0, hz0, hz1, hz2⟩ := info_parts info8
  obtain ⟨w', h1, h2, h3⟩ := run_make_full (P := Tryd.prog) w w.heap.size 39 5 i0 (.int .u8 0) 1 Tryd.underlying39 hi0 hz0 hz1 .i64 .i64 n (by rw [hz2]; omega) (by unfold maxLen; omega) (Nat.le_refl _)
  refine ⟨w', h1, ?_, h3⟩
  have e : (madeCells (Value.int .u8 0).cells (n * 1)).toList = (List.replicate n (0 : UInt8)).map enc8 := by
    rw [Nat.mul_one, List.map_replicate]
    exact toList_madeCells_one _ n
  rw [e] at h2
  exact h2

set_option maxHeartbeats 2000000 in
/-- So many bytes as a text. -/
theorem text_any (Bs Ba : Nat) (s : ByteArray) (hs : s.size ≤ 1000000) (k n : Nat) (hk : k + n ≤ s.size) (W : World) (h : Tk W Bs Ba s k) :
    Calls Tryd.prog 26 #[nextV Bs Ba, .int .i64 (n : Int)] W fun e W' => e = .returned (.string (cutB s k n)) ∧ Tk W' Bs Ba s (k + n) ∧ W.grownBy W' (some Ba) := by
  have HT := Lib.hid h
  have HS := Lib.hid (show s.size ≤ maxLen by unfold maxLen; omega)
  obtain ⟨D, hD⟩ : ∃ D, D = s.data.toList.drop k := ⟨_, rfl⟩
  have hDl : n ≤ D.length := by rw [hD, List.length_drop, ← size_list]; omega
  obtain ⟨R, hR⟩ : ∃ R : Nat → List UInt8, R = fun j => D.take j ++ List.replicate (n - j) 0 := ⟨_, rfl⟩
  have HR0 := Lib.hid (show R 0 = List.replicate n 0 by rw [hR]; rfl)
  have HRn := Lib.hid (show (⟨(R n).toArray⟩ : ByteArray) = cutB s k n by
    apply bytes_ext
    rw [cut_list, ← hD, hR]
    show D.take n ++ List.replicate (n - n) 0 = _
    rw [Nat.sub_self, List.replicate_zero, List.append_nil])
  have HRs := Lib.hid (show ∀ j, j < n → ∃ x : UInt8, x.toNat = byteAt s.data.toList (k + j) ∧ R (j + 1) = (R j).set j x from fun j hj => by
    refine ⟨D[j]'(by omega), ?_, ?_⟩
    · rw [byteAt_get (by rw [← size_list]; omega)]
      simp only [hD, List.getElem_drop]
    · rw [hR]
      exact set_row D n j hj hDl)
  generalize cutB s k n = r at *
  have HBa := Lib.hid (show Bs < W.heap.size ∧ Ba < W.heap.size from ⟨h.1.lt, h.2.1.lt⟩)
  clear h hD hR hDl
  obtain ⟨w0, hmk, hown, hgr⟩ := made_bytes W n (by omega)
  have HW := Lib.hid (show Tk w0 Bs Ba s k ∧ w0.ownsRow W.heap.size 5 1 (.slice (some ⟨W.heap.size, 0, none⟩) n n) n ((R 0).map enc8) ∧ W.grownBy w0 (some Ba) from
    ⟨HT.out.kept hgr (by simp) (by simp), by rw [HR0.out]; exact hown, ⟨hgr.os, hgr.tape, hgr.output, hgr.size, fun j hj _ => hgr.block j hj (by simp)⟩⟩)
  clear hown hgr
  have hn63 : (n : Int) ≤ 1000000 := by omega
  have HN := Lib.hid (fun j W (hj : j < n) h => next_any Bs Ba s HS.out (k + j) (by omega) W h)
  unfold nextV
  go_enter Tryd.func26, Tryd.ntmps26
  go_wp2_with fail
  generalize hg : W.heap.size = g at *
  have HG := Lib.hid hg
  clear hg
  go_loopw [11] (fun i wr => ∃ j : Nat, j ≤ n ∧ i = .int .i64 j ∧ Hid (Tk wr Bs Ba s (k + j) ∧ wr.ownsRow g 5 1 (.slice (some ⟨g, 0, none⟩) n n) n ((R j).map enc8) ∧ W.grownBy wr (some Ba))) (fun i _ => n - (intOf i).toNat)
  case atStart => exact ⟨0, by omega, rfl, HW⟩
  case round =>
    obtain ⟨j, hj, rfl, HR1⟩ := hrel
    by_cases hlt : j < n
    · obtain ⟨x, hx, hset⟩ := HRs.out j hlt
      have HX := Lib.hid hset
      clear hset
      have hN := HN.out j wr hlt HR1.out.1
      rw [← hx] at hN
      have HN1 := Lib.hid hN
      clear hN hx
      have z0 : (0 : Int) ≤ (j : Int) := by omega
      have z1 : (j : Int) < (n : Int) := by omega
      go_wp2_with fail
      refine HN1.out.mono ?_
      rintro e w2 ⟨rfl, ht2, hg2⟩
      have ho2 := HR1.out.2.1.kept hg2 (.inr (by show some g ≠ some Ba; have := HBa.out.2; intro e; injection e; omega))
      have hgW := grown_trans HR1.out.2.2 hg2
      have hcell := ho2.cellAt j (by omega)
      have hfr := ho2.frozenAt j
      have hjl : j < ((R j).map enc8).length := by have := ho2.1; omega
      rw [List.getElem?_eq_getElem hjl] at hcell
      generalize ((R j).map enc8)[j] = old at hcell
      have ho3 := ho2.stored j (enc8 x)
      have HQ := Lib.hid (show Tk (w2.setCell ⟨g, j, none⟩ (.int .u8 (x.toNat : Int))) Bs Ba s (k + (j + 1)) ∧ (w2.setCell ⟨g, j, none⟩ (.int .u8 (x.toNat : Int))).ownsRow g 5 1 (.slice (some ⟨g, 0, none⟩) n n) n ((R (j + 1)).map enc8) ∧ W.grownBy (w2.setCell ⟨g, j, none⟩ (.int .u8 (x.toNat : Int))) (some Ba) from ⟨?h1, ?h2, ?h3⟩)
      case h1 => exact Tk.kept ht2 (grown_set w2 g j _) (by have := HBa.out.1; intro e; injection e; omega) (by have := HBa.out.2; intro e; injection e; omega)
      case h2 =>
        rw [HX.out, List.map_set]
        exact ho3.1
      case h3 =>
        refine ⟨hgW.os, hgW.tape, hgW.output, by rw [set_size]; exact hgW.size, fun i hi hne => ?_⟩
        rw [Below.heap_setCell _ _ _ i (by have := HG.out; show i ≠ g; omega)]
        exact hgW.block i hi hne
      clear ho2 ho3 hgW ht2 hg2 hjl HR1
      go_wp2_with fail
      go_roundw
      case rel => exact ⟨j + 1, by omega, by go_num, HQ⟩
      case measure => simp [intOf]; omega
    · obtain rfl : j = n := by omega
      have ht := text_own HR1.out.2.1
      rw [HRn.out] at ht
      go_wp2_with fail
      go_ret
      exact ⟨rfl, HR1.out.1, HR1.out.2.2⟩
end Go.Proofs.YtgodhbliamlclaaDoor
