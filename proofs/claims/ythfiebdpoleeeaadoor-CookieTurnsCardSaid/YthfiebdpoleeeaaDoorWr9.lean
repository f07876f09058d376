/-
  Package cookie: numbers of each size, written to a builder: contracts.
-/
import Derived.Test.YthfiebdpoleeeaaDoorSt
import Derived.Test.YthfiebdpoleeeaaDoorWrite
import Derived.Deep.LoopGhost
namespace Go.Proofs.YthfiebdpoleeeaaDoor
open Go.RowKit
set_option linter.unusedVariables false

theorem cell_in {w : World} {g i : Nat} {cs : Array Value} {t : TypeId} {fz : Nat × Nat} (h : w.heap[g]? = some (.cells cs t fz)) : w.cell? ⟨g, i, none⟩ = cs[i]? := by simp [World.cell?, h]
theorem flat9_take (k : Nat) (ns : List Nat) (i : Nat) (h : i < ns.length) : (ns.take (i + 1)).flatMap (beN k) = (ns.take i).flatMap (beN k) ++ beN k ns[i] := by
  rw [List.take_succ_eq_append_getElem h, List.flatMap_append, List.flatMap_cons, List.flatMap_nil, List.append_nil]
theorem flat9_length (k : Nat) (ns : List Nat) : (ns.flatMap (beN k)).length = k * ns.length := by
  induction ns with
  | nil => rfl
  | cons n ns ih => rw [List.flatMap_cons, List.length_append, beN_length, ih, List.length_cons, Nat.mul_succ]; omega

theorem be_32 (x : Nat) : beN 4 x = [UInt8.ofNat (x / 16777216), UInt8.ofNat (x / 65536), UInt8.ofNat (x / 256), UInt8.ofNat (x)] := by simp [beN]
set_option maxHeartbeats 4000000 in
theorem wr_32 (B b g : Nat) (l : List UInt8) (ns : List Nat) (hn : ∀ n ∈ ns, n < 4294967296) (fz : Nat × Nat) (w : World) (h : Bd w B b l) (hg : w.heap[g]? = some (.cells (ns.map fun (n : Nat) => Value.int .u32 (n : Int)).toArray 22 fz)) (hgb : g ≠ b)
    (hlen : l.length + 8 * ns.length < 90000000) (hBw : B ≤ w.heap.size) :
    Calls Tryd.prog 40 #[.pointer (some ⟨b, 0, none⟩), .int .i64 4, .slice (some ⟨g, 0, none⟩) ns.length ns.length] w fun e w' => e = .returned (.tuple #[]) ∧ Bd w' B b (l ++ ns.flatMap (beN 4)) ∧ Wrote B b w w' := by
  have HI0 := Lib.hid h
  have HS := Lib.hid hBw
  have HG := Lib.hid hg
  obtain ⟨F, hF⟩ : ∃ F : Nat → List UInt8, F = fun i => (ns.take i).flatMap (beN 4) := ⟨_, rfl⟩
  obtain ⟨X, hX⟩ : ∃ X : Nat → Nat, X = fun i => ns.getD i 0 := ⟨_, rfl⟩
  obtain ⟨m, hm⟩ : ∃ m : Nat, m = ns.length := ⟨_, rfl⟩
  have HF0 := Lib.hid (show F 0 = [] by rw [hF]; rfl)
  have HFm := Lib.hid (show ns.flatMap (beN 4) = F m by rw [hF, hm]; show _ = (ns.take ns.length).flatMap _; rw [List.take_length])
  have HFs := Lib.hid (show ∀ i, i < m → F (i + 1) = F i ++ beN 4 (X i) from fun i hi => by
    rw [hF, hX]
    show (ns.take (i + 1)).flatMap _ = (ns.take i).flatMap _ ++ beN 4 (ns.getD i 0)
    rw [flat9_take 4 ns i (by omega), List.getD_eq_getElem?_getD, List.getElem?_eq_getElem (by omega)]
    rfl)
  have HFl := Lib.hid (show ∀ i, i ≤ m → (F i).length ≤ 8 * m from fun i hi => by
    rw [hF]
    show ((ns.take i).flatMap _).length ≤ _
    rw [flat9_length, List.length_take]
    omega)
  have HXb := Lib.hid (show ∀ i, i < m → X i < 4294967296 from fun i hi => by
    rw [hX]
    show ns.getD i 0 < _
    rw [List.getD_eq_getElem?_getD, List.getElem?_eq_getElem (by omega)]
    exact hn _ (List.getElem_mem _))
  have HC := Lib.hid (show ∀ i W, i < m → Wrote B b w W → W.cell? ⟨g, i, none⟩ = some (.int .u32 (X i : Nat)) from fun i W hi hw => by
    rw [cell_in (hw.block HG.out hgb (by decide)), hX, List.getElem?_toArray, List.getElem?_map, List.getElem?_eq_getElem (by omega)]
    show some _ = some (Value.int .u32 ((ns.getD i 0 : Nat) : Int))
    rw [List.getD_eq_getElem?_getD, List.getElem?_eq_getElem (by omega)]
    rfl)
  rw [HFm.out, ← hm]
  have HL := Lib.hid (show l.length + 8 * m < 90000000 by omega)
  have hm9 : m < 90000000 := by omega
  clear h hBw hg hF hX hm hn hlen HFm
  go_enter Tryd.func40, Tryd.ntmps40
  go_wp2_with fail
  go_loopw [11] (fun i wr => ∃ k : Nat, k ≤ m ∧ i = .int .i64 k ∧ Hid (Bd wr B b (l ++ F k) ∧ Wrote B b w wr)) (fun i _ => m - (intOf i).toNat)
  case atStart => exact ⟨0, by omega, rfl, Lib.hid ⟨by rw [HF0.out, List.append_nil]; exact HI0.out, Wrote.refl _ _ _⟩⟩
  case round =>
    obtain ⟨k, hk, rfl, HR⟩ := hrel
    by_cases hlt : k < m
    · have hc := HC.out k wr hlt HR.out.2
      have hx := HXb.out k hlt
      have HFk := Lib.hid (HFs.out k hlt)
      have HI := Lib.hid HR.out.1
      have HW := Lib.hid HR.out.2
      have HK := Lib.hid (show (l ++ F k).length < 90000000 by rw [List.length_append]; have := HFl.out k hk; have := HL.out; omega)
      clear HR
      have HE := Lib.hid (show l ++ F (k + 1) = (l ++ F k) ++ beN 4 (X k) by rw [HFk.out, List.append_assoc])
      rw [be_32] at HE
      generalize X k = x at *
      generalize l ++ F k = lk at *
      have q0 : (0 : Int) ≤ (x : Int) := by omega
      go_wp2_with fail
      refine wp_loop_rounds 5 ?_
      rw [rounds_succ]
      go_wp2_with fail
      refine (byte_any B b _ _ (UInt8.ofNat (x / 16777216)) ?_ _ HI.out ?_ (Nat.le_trans HS.out HW.out.size)).mono ?_
      · rw [UInt8.toNat_ofNat']
        omega
      · have := HK.out
        (try simp only [List.length_append, List.length_cons, List.length_nil])
        omega
      rintro e w2 ⟨rfl, hi, hw⟩
      replace HI := Lib.hid hi
      replace HW := Lib.hid (HW.out.trans hw)
      clear hi hw
      go_wp2_with fail
      rw [rounds_succ]
      go_wp2_with fail
      refine (byte_any B b _ _ (UInt8.ofNat (x / 65536)) ?_ _ HI.out ?_ (Nat.le_trans HS.out HW.out.size)).mono ?_
      · rw [UInt8.toNat_ofNat']
        omega
      · have := HK.out
        (try simp only [List.length_append, List.length_cons, List.length_nil])
        omega
      rintro e w3 ⟨rfl, hi, hw⟩
      replace HI := Lib.hid hi
      replace HW := Lib.hid (HW.out.trans hw)
      clear hi hw
      go_wp2_with fail
      rw [rounds_succ]
      go_wp2_with fail
      refine (byte_any B b _ _ (UInt8.ofNat (x / 256)) ?_ _ HI.out ?_ (Nat.le_trans HS.out HW.out.size)).mono ?_
      · rw [UInt8.toNat_ofNat']
        omega
      · have := HK.out
        (try simp only [List.length_append, List.length_cons, List.length_nil])
        omega
      rintro e w4 ⟨rfl, hi, hw⟩
      replace HI := Lib.hid hi
      replace HW := Lib.hid (HW.out.trans hw)
      clear hi hw
      go_wp2_with fail
      rw [rounds_succ]
      go_wp2_with fail
      refine (byte_any B b _ _ (UInt8.ofNat (x)) ?_ _ HI.out ?_ (Nat.le_trans HS.out HW.out.size)).mono ?_
      · rw [UInt8.toNat_ofNat']
        omega
      · have := HK.out
        (try simp only [List.length_append, List.length_cons, List.length_nil])
        omega
      rintro e w5 ⟨rfl, hi, hw⟩
      replace HI := Lib.hid hi
      replace HW := Lib.hid (HW.out.trans hw)
      clear hi hw
      go_wp2_with fail
      rw [rounds_succ]
      go_wp2_with fail
      go_roundw
      case rel =>
        exact ⟨k + 1, by omega, by go_num, Lib.hid ⟨by rw [HE.out]; have := HI.out; simpa only [List.append_assoc, List.cons_append, List.nil_append] using this, HW.out⟩⟩
      case measure => simp [intOf]; omega
    · obtain rfl : k = m := by omega
      go_wp2_with fail
      go_end0
      exact ⟨rfl, HR.out.1, HR.out.2⟩
theorem be_16 (x : Nat) : beN 2 x = [UInt8.ofNat (x / 256), UInt8.ofNat (x)] := by simp [beN]
set_option maxHeartbeats 4000000 in
theorem wr_16 (B b g : Nat) (l : List UInt8) (ns : List Nat) (hn : ∀ n ∈ ns, n < 65536) (fz : Nat × Nat) (w : World) (h : Bd w B b l) (hg : w.heap[g]? = some (.cells (ns.map fun (n : Nat) => Value.int .u16 (n : Int)).toArray 23 fz)) (hgb : g ≠ b)
    (hlen : l.length + 8 * ns.length < 90000000) (hBw : B ≤ w.heap.size) :
    Calls Tryd.prog 41 #[.pointer (some ⟨b, 0, none⟩), .int .i64 2, .slice (some ⟨g, 0, none⟩) ns.length ns.length] w fun e w' => e = .returned (.tuple #[]) ∧ Bd w' B b (l ++ ns.flatMap (beN 2)) ∧ Wrote B b w w' := by
  have HI0 := Lib.hid h
  have HS := Lib.hid hBw
  have HG := Lib.hid hg
  obtain ⟨F, hF⟩ : ∃ F : Nat → List UInt8, F = fun i => (ns.take i).flatMap (beN 2) := ⟨_, rfl⟩
  obtain ⟨X, hX⟩ : ∃ X : Nat → Nat, X = fun i => ns.getD i 0 := ⟨_, rfl⟩
  obtain ⟨m, hm⟩ : ∃ m : Nat, m = ns.length := ⟨_, rfl⟩
  have HF0 := Lib.hid (show F 0 = [] by rw [hF]; rfl)
  have HFm := Lib.hid (show ns.flatMap (beN 2) = F m by rw [hF, hm]; show _ = (ns.take ns.length).flatMap _; rw [List.take_length])
  have HFs := Lib.hid (show ∀ i, i < m → F (i + 1) = F i ++ beN 2 (X i) from fun i hi => by
    rw [hF, hX]
    show (ns.take (i + 1)).flatMap _ = (ns.take i).flatMap _ ++ beN 2 (ns.getD i 0)
    rw [flat9_take 2 ns i (by omega), List.getD_eq_getElem?_getD, List.getElem?_eq_getElem (by omega)]
    rfl)
  have HFl := Lib.hid (show ∀ i, i ≤ m → (F i).length ≤ 8 * m from fun i hi => by
    rw [hF]
    show ((ns.take i).flatMap _).length ≤ _
    rw [flat9_length, List.length_take]
    omega)
  have HXb := Lib.hid (show ∀ i, i < m → X i < 65536 from fun i hi => by
    rw [hX]
    show ns.getD i 0 < _
    rw [List.getD_eq_getElem?_getD, List.getElem?_eq_getElem (by omega)]
    exact hn _ (List.getElem_mem _))
  have HC := Lib.hid (show ∀ i W, i < m → Wrote B b w W → W.cell? ⟨g, i, none⟩ = some (.int .u16 (X i : Nat)) from fun i W hi hw => by
    rw [cell_in (hw.block HG.out hgb (by decide)), hX, List.getElem?_toArray, List.getElem?_map, List.getElem?_eq_getElem (by omega)]
    show some _ = some (Value.int .u16 ((ns.getD i 0 : Nat) : Int))
    rw [List.getD_eq_getElem?_getD, List.getElem?_eq_getElem (by omega)]
    rfl)
  rw [HFm.out, ← hm]
  have HL := Lib.hid (show l.length + 8 * m < 90000000 by omega)
  have hm9 : m < 90000000 := by omega
  clear h hBw hg hF hX hm hn hlen HFm
  go_enter Tryd.func41, Tryd.ntmps41
  go_wp2_with fail
  go_loopw [11] (fun i wr => ∃ k : Nat, k ≤ m ∧ i = .int .i64 k ∧ Hid (Bd wr B b (l ++ F k) ∧ Wrote B b w wr)) (fun i _ => m - (intOf i).toNat)
  case atStart => exact ⟨0, by omega, rfl, Lib.hid ⟨by rw [HF0.out, List.append_nil]; exact HI0.out, Wrote.refl _ _ _⟩⟩
  case round =>
    obtain ⟨k, hk, rfl, HR⟩ := hrel
    by_cases hlt : k < m
    · have hc := HC.out k wr hlt HR.out.2
      have hx := HXb.out k hlt
      have HFk := Lib.hid (HFs.out k hlt)
      have HI := Lib.hid HR.out.1
      have HW := Lib.hid HR.out.2
      have HK := Lib.hid (show (l ++ F k).length < 90000000 by rw [List.length_append]; have := HFl.out k hk; have := HL.out; omega)
      clear HR
      have HE := Lib.hid (show l ++ F (k + 1) = (l ++ F k) ++ beN 2 (X k) by rw [HFk.out, List.append_assoc])
      rw [be_16] at HE
      generalize X k = x at *
      generalize l ++ F k = lk at *
      have q0 : (0 : Int) ≤ (x : Int) := by omega
      go_wp2_with fail
      refine wp_loop_rounds 3 ?_
      rw [rounds_succ]
      go_wp2_with fail
      refine (byte_any B b _ _ (UInt8.ofNat (x / 256)) ?_ _ HI.out ?_ (Nat.le_trans HS.out HW.out.size)).mono ?_
      · rw [UInt8.toNat_ofNat']
        omega
      · have := HK.out
        (try simp only [List.length_append, List.length_cons, List.length_nil])
        omega
      rintro e w2 ⟨rfl, hi, hw⟩
      replace HI := Lib.hid hi
      replace HW := Lib.hid (HW.out.trans hw)
      clear hi hw
      go_wp2_with fail
      rw [rounds_succ]
      go_wp2_with fail
      refine (byte_any B b _ _ (UInt8.ofNat (x)) ?_ _ HI.out ?_ (Nat.le_trans HS.out HW.out.size)).mono ?_
      · rw [UInt8.toNat_ofNat']
        omega
      · have := HK.out
        (try simp only [List.length_append, List.length_cons, List.length_nil])
        omega
      rintro e w3 ⟨rfl, hi, hw⟩
      replace HI := Lib.hid hi
      replace HW := Lib.hid (HW.out.trans hw)
      clear hi hw
      go_wp2_with fail
      rw [rounds_succ]
      go_wp2_with fail
      go_roundw
      case rel =>
        exact ⟨k + 1, by omega, by go_num, Lib.hid ⟨by rw [HE.out]; have := HI.out; simpa only [List.append_assoc, List.cons_append, List.nil_append] using this, HW.out⟩⟩
      case measure => simp [intOf]; omega
    · obtain rfl : k = m := by omega
      go_wp2_with fail
      go_end0
      exact ⟨rfl, HR.out.1, HR.out.2⟩
theorem be_64 (x : Nat) : beN 8 x = [UInt8.ofNat (x / 72057594037927936), UInt8.ofNat (x / 281474976710656), UInt8.ofNat (x / 1099511627776), UInt8.ofNat (x / 4294967296), UInt8.ofNat (x / 16777216), UInt8.ofNat (x / 65536), UInt8.ofNat (x / 256), UInt8.ofNat (x)] := by simp [beN]
set_option maxHeartbeats 4000000 in
theorem wr_64 (B b g : Nat) (l : List UInt8) (ns : List Nat) (hn : ∀ n ∈ ns, n < 4611686018427387904) (fz : Nat × Nat) (w : World) (h : Bd w B b l) (hg : w.heap[g]? = some (.cells (ns.map fun (n : Nat) => Value.int .i64 (n : Int)).toArray 3 fz)) (hgb : g ≠ b)
    (hlen : l.length + 8 * ns.length < 90000000) (hBw : B ≤ w.heap.size) :
    Calls Tryd.prog 42 #[.pointer (some ⟨b, 0, none⟩), .int .i64 8, .slice (some ⟨g, 0, none⟩) ns.length ns.length] w fun e w' => e = .returned (.tuple #[]) ∧ Bd w' B b (l ++ ns.flatMap (beN 8)) ∧ Wrote B b w w' := by
  have HI0 := Lib.hid h
  have HS := Lib.hid hBw
  have HG := Lib.hid hg
  obtain ⟨F, hF⟩ : ∃ F : Nat → List UInt8, F = fun i => (ns.take i).flatMap (beN 8) := ⟨_, rfl⟩
  obtain ⟨X, hX⟩ : ∃ X : Nat → Nat, X = fun i => ns.getD i 0 := ⟨_, rfl⟩
  obtain ⟨m, hm⟩ : ∃ m : Nat, m = ns.length := ⟨_, rfl⟩
  have HF0 := Lib.hid (show F 0 = [] by rw [hF]; rfl)
  have HFm := Lib.hid (show ns.flatMap (beN 8) = F m by rw [hF, hm]; show _ = (ns.take ns.length).flatMap _; rw [List.take_length])
  have HFs := Lib.hid (show ∀ i, i < m → F (i + 1) = F i ++ beN 8 (X i) from fun i hi => by
    rw [hF, hX]
    show (ns.take (i + 1)).flatMap _ = (ns.take i).flatMap _ ++ beN 8 (ns.getD i 0)
    rw [flat9_take 8 ns i (by omega), List.getD_eq_getElem?_getD, List.getElem?_eq_getElem (by omega)]
    rfl)
  have HFl := Lib.hid (show ∀ i, i ≤ m → (F i).length ≤ 8 * m from fun i hi => by
    rw [hF]
    show ((ns.take i).flatMap _).length ≤ _
    rw [flat9_length, List.length_take]
    omega)
  have HXb := Lib.hid (show ∀ i, i < m → X i < 4611686018427387904 from fun i hi => by
    rw [hX]
    show ns.getD i 0 < _
    rw [List.getD_eq_getElem?_getD, List.getElem?_eq_getElem (by omega)]
    exact hn _ (List.getElem_mem _))
  have HC := Lib.hid (show ∀ i W, i < m → Wrote B b w W → W.cell? ⟨g, i, none⟩ = some (.int .i64 (X i : Nat)) from fun i W hi hw => by
    rw [cell_in (hw.block HG.out hgb (by decide)), hX, List.getElem?_toArray, List.getElem?_map, List.getElem?_eq_getElem (by omega)]
    show some _ = some (Value.int .i64 ((ns.getD i 0 : Nat) : Int))
    rw [List.getD_eq_getElem?_getD, List.getElem?_eq_getElem (by omega)]
    rfl)
  rw [HFm.out, ← hm]
  have HL := Lib.hid (show l.length + 8 * m < 90000000 by omega)
  have hm9 : m < 90000000 := by omega
  clear h hBw hg hF hX hm hn hlen HFm
  go_enter Tryd.func42, Tryd.ntmps42
  go_wp2_with fail
  go_loopw [11] (fun i wr => ∃ k : Nat, k ≤ m ∧ i = .int .i64 k ∧ Hid (Bd wr B b (l ++ F k) ∧ Wrote B b w wr)) (fun i _ => m - (intOf i).toNat)
  case atStart => exact ⟨0, by omega, rfl, Lib.hid ⟨by rw [HF0.out, List.append_nil]; exact HI0.out, Wrote.refl _ _ _⟩⟩
  case round =>
    obtain ⟨k, hk, rfl, HR⟩ := hrel
    by_cases hlt : k < m
    · have hc := HC.out k wr hlt HR.out.2
      have hx := HXb.out k hlt
      have HFk := Lib.hid (HFs.out k hlt)
      have HI := Lib.hid HR.out.1
      have HW := Lib.hid HR.out.2
      have HK := Lib.hid (show (l ++ F k).length < 90000000 by rw [List.length_append]; have := HFl.out k hk; have := HL.out; omega)
      clear HR
      have HE := Lib.hid (show l ++ F (k + 1) = (l ++ F k) ++ beN 8 (X k) by rw [HFk.out, List.append_assoc])
      rw [be_64] at HE
      generalize X k = x at *
      generalize l ++ F k = lk at *
      have q0 : (0 : Int) ≤ (x : Int) := by omega
      go_wp2_with fail
      refine wp_loop_rounds 9 ?_
      rw [rounds_succ]
      go_wp2_with fail
      refine (byte_any B b _ _ (UInt8.ofNat (x / 72057594037927936)) ?_ _ HI.out ?_ (Nat.le_trans HS.out HW.out.size)).mono ?_
      · rw [UInt8.toNat_ofNat']
        omega
      · have := HK.out
        (try simp only [List.length_append, List.length_cons, List.length_nil])
        omega
      rintro e w2 ⟨rfl, hi, hw⟩
      replace HI := Lib.hid hi
      replace HW := Lib.hid (HW.out.trans hw)
      clear hi hw
      go_wp2_with fail
      rw [rounds_succ]
      go_wp2_with fail
      refine (byte_any B b _ _ (UInt8.ofNat (x / 281474976710656)) ?_ _ HI.out ?_ (Nat.le_trans HS.out HW.out.size)).mono ?_
      · rw [UInt8.toNat_ofNat']
        omega
      · have := HK.out
        (try simp only [List.length_append, List.length_cons, List.length_nil])
        omega
      rintro e w3 ⟨rfl, hi, hw⟩
      replace HI := Lib.hid hi
      replace HW := Lib.hid (HW.out.trans hw)
      clear hi hw
      go_wp2_with fail
      rw [rounds_succ]
      go_wp2_with fail
      refine (byte_any B b _ _ (UInt8.ofNat (x / 1099511627776)) ?_ _ HI.out ?_ (Nat.le_trans HS.out HW.out.size)).mono ?_
      · rw [UInt8.toNat_ofNat']
        omega
      · have := HK.out
        (try simp only [List.length_append, List.length_cons, List.length_nil])
        omega
      rintro e w4 ⟨rfl, hi, hw⟩
      replace HI := Lib.hid hi
      replace HW := Lib.hid (HW.out.trans hw)
      clear hi hw
      go_wp2_with fail
      rw [rounds_succ]
      go_wp2_with fail
      refine (byte_any B b _ _ (UInt8.ofNat (x / 4294967296)) ?_ _ HI.out ?_ (Nat.le_trans HS.out HW.out.size)).mono ?_
      · rw [UInt8.toNat_ofNat']
        omega
      · have := HK.out
        (try simp only [List.length_append, List.length_cons, List.length_nil])
        omega
      rintro e w5 ⟨rfl, hi, hw⟩
      replace HI := Lib.hid hi
      replace HW := Lib.hid (HW.out.trans hw)
      clear hi hw
      go_wp2_with fail
      rw [rounds_succ]
      go_wp2_with fail
      refine (byte_any B b _ _ (UInt8.ofNat (x / 16777216)) ?_ _ HI.out ?_ (Nat.le_trans HS.out HW.out.size)).mono ?_
      · rw [UInt8.toNat_ofNat']
        omega
      · have := HK.out
        (try simp only [List.length_append, List.length_cons, List.length_nil])
        omega
      rintro e w6 ⟨rfl, hi, hw⟩
      replace HI := Lib.hid hi
      replace HW := Lib.hid (HW.out.trans hw)
      clear hi hw
      go_wp2_with fail
      rw [rounds_succ]
      go_wp2_with fail
      refine (byte_any B b _ _ (UInt8.ofNat (x / 65536)) ?_ _ HI.out ?_ (Nat.le_trans HS.out HW.out.size)).mono ?_
      · rw [UInt8.toNat_ofNat']
        omega
      · have := HK.out
        (try simp only [List.length_append, List.length_cons, List.length_nil])
        omega
      rintro e w7 ⟨rfl, hi, hw⟩
      replace HI := Lib.hid hi
      replace HW := Lib.hid (HW.out.trans hw)
      clear hi hw
      go_wp2_with fail
      rw [rounds_succ]
      go_wp2_with fail
      refine (byte_any B b _ _ (UInt8.ofNat (x / 256)) ?_ _ HI.out ?_ (Nat.le_trans HS.out HW.out.size)).mono ?_
      · rw [UInt8.toNat_ofNat']
        omega
      · have := HK.out
        (try simp only [List.length_append, List.length_cons, List.length_nil])
        omega
      rintro e w8 ⟨rfl, hi, hw⟩
      replace HI := Lib.hid hi
      replace HW := Lib.hid (HW.out.trans hw)
      clear hi hw
      go_wp2_with fail
      rw [rounds_succ]
      go_wp2_with fail
      refine (byte_any B b _ _ (UInt8.ofNat (x)) ?_ _ HI.out ?_ (Nat.le_trans HS.out HW.out.size)).mono ?_
      · rw [UInt8.toNat_ofNat']
        omega
      · have := HK.out
        (try simp only [List.length_append, List.length_cons, List.length_nil])
        omega
      rintro e w9 ⟨rfl, hi, hw⟩
      replace HI := Lib.hid hi
      replace HW := Lib.hid (HW.out.trans hw)
      clear hi hw
      go_wp2_with fail
      rw [rounds_succ]
      go_wp2_with fail
      go_roundw
      case rel =>
        exact ⟨k + 1, by omega, by go_num, Lib.hid ⟨by rw [HE.out]; have := HI.out; simpa only [List.append_assoc, List.cons_append, List.nil_append] using this, HW.out⟩⟩
      case measure => simp [intOf]; omega
    · obtain rfl : k = m := by omega
      go_wp2_with fail
      go_end0
      exact ⟨rfl, HR.out.1, HR.out.2⟩
theorem be_1 (x : Nat) : beN 1 x = [UInt8.ofNat (x)] := by simp [beN]
set_option maxHeartbeats 4000000 in
theorem wr_1 (B b g : Nat) (l : List UInt8) (ns : List Nat) (hn : ∀ n ∈ ns, n < 256) (fz : Nat × Nat) (w : World) (h : Bd w B b l) (hg : w.heap[g]? = some (.cells (ns.map fun (n : Nat) => Value.int .i64 (n : Int)).toArray 3 fz)) (hgb : g ≠ b)
    (hlen : l.length + 8 * ns.length < 90000000) (hBw : B ≤ w.heap.size) :
    Calls Tryd.prog 42 #[.pointer (some ⟨b, 0, none⟩), .int .i64 1, .slice (some ⟨g, 0, none⟩) ns.length ns.length] w fun e w' => e = .returned (.tuple #[]) ∧ Bd w' B b (l ++ ns.flatMap (beN 1)) ∧ Wrote B b w w' := by
  have HI0 := Lib.hid h
  have HS := Lib.hid hBw
  have HG := Lib.hid hg
  obtain ⟨F, hF⟩ : ∃ F : Nat → List UInt8, F = fun i => (ns.take i).flatMap (beN 1) := ⟨_, rfl⟩
  obtain ⟨X, hX⟩ : ∃ X : Nat → Nat, X = fun i => ns.getD i 0 := ⟨_, rfl⟩
  obtain ⟨m, hm⟩ : ∃ m : Nat, m = ns.length := ⟨_, rfl⟩
  have HF0 := Lib.hid (show F 0 = [] by rw [hF]; rfl)
  have HFm := Lib.hid (show ns.flatMap (beN 1) = F m by rw [hF, hm]; show _ = (ns.take ns.length).flatMap _; rw [List.take_length])
  have HFs := Lib.hid (show ∀ i, i < m → F (i + 1) = F i ++ beN 1 (X i) from fun i hi => by
    rw [hF, hX]
    show (ns.take (i + 1)).flatMap _ = (ns.take i).flatMap _ ++ beN 1 (ns.getD i 0)
    rw [flat9_take 1 ns i (by omega), List.getD_eq_getElem?_getD, List.getElem?_eq_getElem (by omega)]
    rfl)
  have HFl := Lib.hid (show ∀ i, i ≤ m → (F i).length ≤ 8 * m from fun i hi => by
    rw [hF]
    show ((ns.take i).flatMap _).length ≤ _
    rw [flat9_length, List.length_take]
    omega)
  have HXb := Lib.hid (show ∀ i, i < m → X i < 256 from fun i hi => by
    rw [hX]
    show ns.getD i 0 < _
    rw [List.getD_eq_getElem?_getD, List.getElem?_eq_getElem (by omega)]
    exact hn _ (List.getElem_mem _))
  have HC := Lib.hid (show ∀ i W, i < m → Wrote B b w W → W.cell? ⟨g, i, none⟩ = some (.int .i64 (X i : Nat)) from fun i W hi hw => by
    rw [cell_in (hw.block HG.out hgb (by decide)), hX, List.getElem?_toArray, List.getElem?_map, List.getElem?_eq_getElem (by omega)]
    show some _ = some (Value.int .i64 ((ns.getD i 0 : Nat) : Int))
    rw [List.getD_eq_getElem?_getD, List.getElem?_eq_getElem (by omega)]
    rfl)
  rw [HFm.out, ← hm]
  have HL := Lib.hid (show l.length + 8 * m < 90000000 by omega)
  have hm9 : m < 90000000 := by omega
  clear h hBw hg hF hX hm hn hlen HFm
  go_enter Tryd.func42, Tryd.ntmps42
  go_wp2_with fail
  go_loopw [11] (fun i wr => ∃ k : Nat, k ≤ m ∧ i = .int .i64 k ∧ Hid (Bd wr B b (l ++ F k) ∧ Wrote B b w wr)) (fun i _ => m - (intOf i).toNat)
  case atStart => exact ⟨0, by omega, rfl, Lib.hid ⟨by rw [HF0.out, List.append_nil]; exact HI0.out, Wrote.refl _ _ _⟩⟩
  case round =>
    obtain ⟨k, hk, rfl, HR⟩ := hrel
    by_cases hlt : k < m
    · have hc := HC.out k wr hlt HR.out.2
      have hx := HXb.out k hlt
      have HFk := Lib.hid (HFs.out k hlt)
      have HI := Lib.hid HR.out.1
      have HW := Lib.hid HR.out.2
      have HK := Lib.hid (show (l ++ F k).length < 90000000 by rw [List.length_append]; have := HFl.out k hk; have := HL.out; omega)
      clear HR
      have HE := Lib.hid (show l ++ F (k + 1) = (l ++ F k) ++ beN 1 (X k) by rw [HFk.out, List.append_assoc])
      rw [be_1] at HE
      generalize X k = x at *
      generalize l ++ F k = lk at *
      have q0 : (0 : Int) ≤ (x : Int) := by omega
      go_wp2_with fail
      refine wp_loop_rounds 2 ?_
      rw [rounds_succ]
      go_wp2_with fail
      refine (byte_any B b _ _ (UInt8.ofNat (x)) ?_ _ HI.out ?_ (Nat.le_trans HS.out HW.out.size)).mono ?_
      · rw [UInt8.toNat_ofNat']
        omega
      · have := HK.out
        (try simp only [List.length_append, List.length_cons, List.length_nil])
        omega
      rintro e w2 ⟨rfl, hi, hw⟩
      replace HI := Lib.hid hi
      replace HW := Lib.hid (HW.out.trans hw)
      clear hi hw
      go_wp2_with fail
      rw [rounds_succ]
      go_wp2_with fail
      go_roundw
      case rel =>
        exact ⟨k + 1, by omega, by go_num, Lib.hid ⟨by rw [HE.out]; have := HI.out; simpa only [List.append_assoc, List.cons_append, List.nil_append] using this, HW.out⟩⟩
      case measure => simp [intOf]; omega
    · obtain rfl : k = m := by omega
      go_wp2_with fail
      go_end0
      exact ⟨rfl, HR.out.1, HR.out.2⟩
end Go.Proofs.YthfiebdpoleeeaaDoor
