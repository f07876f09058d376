/-
  The document's digest of a text.
-/
import Derived.Test.YthfiebdpoleeeaaDoorRefC
namespace Go.Proofs.YthfiebdpoleeeaaDoor
open Go.RowKit
set_option linter.unusedVariables false

theorem bytes_ext {a b : ByteArray} (h : a.data.toList = b.data.toList) : a = b := ByteArray.ext (Array.toList_inj.1 h)
theorem size_list (s : ByteArray) : s.size = s.data.toList.length := by simp
theorem extract_list (s : ByteArray) (a b : Nat) : (s.extract a b).data.toList = (s.data.toList.drop a).take (b - a) := by simp
/-- The text and its pad. -/
def allOf (s : ByteArray) : ByteArray := s ++ ⟨(pad s.size).toArray⟩
theorem allOf_list (s : ByteArray) : (allOf s).data.toList = padded s.data.toList := by
  unfold allOf padded
  rw [ByteArray.data_append, Array.toList_append, size_list]
theorem allOf_size (s : ByteArray) : (allOf s).size = s.size + 9 + noughts s.size := by
  rw [size_list, allOf_list, padded, List.length_append, pad_length, ← size_list]; omega
def digestOf (s : ByteArray) : ByteArray := ⟨(digest s.data.toList).toArray⟩

set_option maxHeartbeats 4000000 in
set_option maxRecDepth 100000 in
theorem rsum_any (s : ByteArray) (hs : s.size ≤ 1000000) (w : World) : Calls Tryd.prog 33 #[.string s] w fun e w' => e = .returned (.string (digestOf s)) ∧ Below w.heap.size w w' := by
  obtain ⟨i0, hi0, hz0, hz1, hz2⟩ := info_parts info8
  have HI := Lib.hid hi0
  have HZ0 := Lib.hid hz0
  have HZ1 := Lib.hid hz1
  have HZ2 := Lib.hid hz2
  clear hi0 hz0 hz1 hz2
  have hnb : noughts s.size < 64 := by unfold noughts; omega
  have hps : (⟨(pad s.size).toArray⟩ : ByteArray).size = 9 + noughts s.size := by rw [size_list]; exact pad_length _
  have HPS := Lib.hid hps
  clear hps
  go_enter Tryd.func33, Tryd.ntmps33
  go_wp2_with fail
  obtain ⟨w1, hw1⟩ : ∃ w1, w1 = w.alloc (Obj.cells #[Value.int IntKind.u32 1779033703, Value.int IntKind.u32 3144134277, Value.int IntKind.u32 1013904242, Value.int IntKind.u32 2773480762, Value.int IntKind.u32 1359893119, Value.int IntKind.u32 2600822924, Value.int IntKind.u32 528734635, Value.int IntKind.u32 1541459225] 22) := ⟨_, rfl⟩
  have HR0 := Lib.hid (show RowE enc32 w1 (.slice (some ⟨w.heap.size, 0, none⟩) 8 8) regs0 ∧ Below w.heap.size w w1 by
    subst hw1
    refine ⟨⟨_, _, rfl, Nat.le_refl _, by decide, fun _ => ⟨_, _, rfl, by simp, fun j hj => ?_⟩⟩, (Below.refl _ _).alloc (Nat.le_refl _) _⟩
    rw [Nat.zero_add, cell_of_row _ w.heap.size j _ _ (0, 0) (heap_alloc_new w _)]
    match j, hj with
    | 0, _ => rfl
    | 1, _ => rfl
    | 2, _ => rfl
    | 3, _ => rfl
    | 4, _ => rfl
    | 5, _ => rfl
    | 6, _ => rfl
    | 7, _ => rfl)
  rw [← hw1]
  clear hw1
  refine (rpad_any s.size (by omega) w1).mono ?_
  rintro e w2 ⟨rfl, hb2⟩
  have HR2 := Lib.hid (And.intro (HR0.out.1.below hb2) (HR0.out.2.trans (hb2.mono HR0.out.2.size)))
  clear HR0 hb2
  have hpz := HPS.out
  have hal : s ++ (⟨(pad s.size).toArray⟩ : ByteArray) = allOf s := rfl
  go_wp2_with fail
  have HAL := Lib.hid (allOf_list s)
  have hsz := allOf_size s
  have hN1 : (allOf s).size ≤ 1000072 := by omega
  have hN2 : 64 ≤ (allOf s).size + 64 := by omega
  clear hsz hpz hal HPS
  generalize allOf s = all at *
  generalize (⟨(pad s.size).toArray⟩ : ByteArray) = pd at *
  have HQ0 : Hid (RowE enc32 w2 (.slice (some ⟨w.heap.size, 0, none⟩) 8 8) (regs (padded s.data.toList) 0) ∧ Below w.heap.size w w2) := HR2
  clear HR2
  go_loopw [3, 5] (fun v i wr => ∃ k q : Nat, q = 64 * k ∧ q ≤ all.size ∧ i = .int .i64 q ∧ Hid (RowE enc32 wr v (regs (padded s.data.toList) k) ∧ Below w.heap.size w wr)) (fun _ i _ => all.size - (intOf i).toNat)
  case atStart => exact ⟨0, 0, rfl, Nat.zero_le _, rfl, HQ0⟩
  case round =>
    obtain ⟨k, q, hq, hqn, rfl, HR⟩ := hrel
    have HQK := Lib.hid hq
    clear hq
    by_cases hlt : q + 64 ≤ all.size
    · have hes : (all.extract q (q + 64)).size = 64 := by rw [ByteArray.size_extract]; omega
      have HES := Lib.hid hes
      have HWD := Lib.hid (show words (all.extract q (q + 64)).data.toList 0 = words (padded s.data.toList) (64 * k) by
        rw [extract_list, show q + 64 - q = 64 by omega, words_cut _ _ (by rw [← size_list]; exact hlt), HAL.out, HQK.out])
      clear hes
      have p0 : (0 : Int) ≤ (q : Int) := by omega
      have p1 : (q : Int) + 64 ≤ (all.size : Int) := by omega
      have p2 : (q : Int) ≤ (q : Int) + 64 := by omega
      have p3 : ((q : Int) + 64).toNat = q + 64 := by omega
      go_wp2_with fail
      refine (rblock_any (all.extract q (q + 64)) HES.out (regs (padded s.data.toList) k) (regs_length _ _) _ _ HR.out.1).mono ?_
      rintro e w3 ⟨v3, rfl, hown, hb⟩
      have HR3 : Hid (RowE enc32 w3 v3 (regs (padded s.data.toList) (k + 1)) ∧ Below w.heap.size w w3) := Lib.hid ⟨row_of_own (by rw [show regs (padded s.data.toList) (k + 1) = behindBlock (regs (padded s.data.toList) k) (words (padded s.data.toList) (64 * k)) from rfl, ← HWD.out]; exact hown), HR.out.2.trans (hb.mono HR.out.2.size)⟩
      clear hown hb
      go_wp2_with fail
      go_roundw
      case rel => exact ⟨k + 1, q + 64, by have := HQK.out; omega, hlt, by go_num, HR3⟩
      case measure => simp [intOf]; omega
    · have hk : k = (padded s.data.toList).length / 64 := by
        have h1 := padded_whole s.data.toList
        have h2 := HAL.out
        have h3 := size_list all
        rw [h2] at h3
        have h4 := HQK.out
        omega
      have HK := Lib.hid hk
      have hl8 := regs_length (padded s.data.toList) k
      have HL8 := Lib.hid hl8
      clear hk hl8
      obtain ⟨R, hR⟩ : ∃ R, R = regs (padded s.data.toList) k := ⟨_, rfl⟩
      rw [← hR] at HR HL8
      have HRR := Lib.hid hR
      clear hR
      obtain ⟨A, cap, hv, hcap, hmax, hcells⟩ := HR.out.1
      rw [HL8.out] at hv hcap hcells
      subst hv
      obtain ⟨br, off, rfl, hbr, hrc⟩ := hcells (by omega)
      have HRC := Lib.hid (show ∀ W, Below wr.heap.size wr W → ∀ j, j < 8 → W.cell? ⟨br, off + j, none⟩ = some (.int .u32 (R[j]!.toNat : Int)) from fun W hW j hj => (hW.cell (p := ⟨br, off + j, none⟩) hbr).trans (hrc j hj))
      have HBW := Lib.hid HR.out.2
      clear hrc hcells HR
      go_wp2_with fail
      obtain ⟨wo, hwo⟩ : ∃ wo : World, wo = wr := ⟨_, rfl⟩
      rw [← hwo] at HRC HBW hbr ⊢
      clear hwo
      go_loopw [6, 7] (fun v i wr => ∃ m : Nat, m ≤ 8 ∧ i = .int .i64 m ∧ Hid (wr.ownsRow wo.heap.size 5 1 v (4 * m) (((R.take m).flatMap bytes4).map enc8) ∧ Below wo.heap.size wo wr)) (fun _ i _ => 8 - (intOf i).toNat)
      case atStart => exact ⟨0, by omega, rfl, Lib.hid ⟨World.ownsRow_nil _ _ _ _, Below.refl _ _⟩⟩
      case round =>
        obtain ⟨m, hm, rfl, HR⟩ := hrel
        by_cases hm8 : m < 8
        · have hft := flat_take R m (by rw [HL8.out]; exact hm8)
          have hcm := HRC.out wr HR.out.2 m hm8
          generalize R[m]! = x at *
          have HFT := Lib.hid hft
          clear hft
          obtain ⟨b1, hb1⟩ : ∃ b1 : UInt8, b1 = UInt8.ofNat (x.toNat / 16777216) := ⟨_, rfl⟩
          obtain ⟨b2, hb2⟩ : ∃ b2 : UInt8, b2 = UInt8.ofNat (x.toNat / 65536 % 256) := ⟨_, rfl⟩
          obtain ⟨b3, hb3⟩ : ∃ b3 : UInt8, b3 = UInt8.ofNat (x.toNat / 256 % 256) := ⟨_, rfl⟩
          obtain ⟨b4, hb4⟩ : ∃ b4 : UInt8, b4 = UInt8.ofNat (x.toNat % 256) := ⟨_, rfl⟩
          have HB4 := Lib.hid (show bytes4 x = [b1, b2, b3, b4] by rw [hb1, hb2, hb3, hb4]; rfl)
          have hxl := lt32 x
          have e1 : IntKind.u8.wrap ((x.toNat : Int) / 16777216) = (b1.toNat : Int) := by rw [hb1, UInt8.toNat_ofNat_of_lt' (by show x.toNat / 16777216 < 256; omega), IntKind.wrap_u8']; omega
          have e2 : IntKind.u8.wrap ((x.toNat : Int) / 65536) = (b2.toNat : Int) := by rw [hb2, UInt8.toNat_ofNat_of_lt' (by show x.toNat / 65536 % 256 < 256; omega), IntKind.wrap_u8']; omega
          have e3 : IntKind.u8.wrap ((x.toNat : Int) / 256) = (b3.toNat : Int) := by rw [hb3, UInt8.toNat_ofNat_of_lt' (by show x.toNat / 256 % 256 < 256; omega), IntKind.wrap_u8']; omega
          have e4 : IntKind.u8.wrap (x.toNat : Int) = (b4.toNat : Int) := by rw [hb4, UInt8.toNat_ofNat_of_lt' (by show x.toNat % 256 < 256; omega), IntKind.wrap_u8']; omega
          clear hb1 hb2 hb3 hb4 hxl
          have z1 : (0 : Int) ≤ (m : Int) := by omega
          have z2 : (m : Int) < 8 := by omega
          obtain ⟨wp, hwp⟩ : ∃ wp : World, wp = wr := ⟨_, rfl⟩
          rw [← hwp] at HR hcm ⊢
          clear hwp
          have hs2 := HR.out.2.size
          have HD0 := Lib.hid (show wp.drew.cell? ⟨br, off + m, none⟩ = some (.int .u32 (x.toNat : Int)) ∧ Below wo.heap.size wo wp.drew from ⟨hcm, HR.out.2.drew⟩)
          have HDA := Lib.hid (show ∀ o, (wp.alloc o).drew.cell? ⟨br, off + m, none⟩ = some (.int .u32 (x.toNat : Int)) ∧ Below wo.heap.size wo (wp.alloc o).drew from fun o =>
            ⟨(World.cell?_alloc_lt wp o ⟨br, off + m, none⟩ (Nat.lt_of_lt_of_le hbr hs2)).trans hcm, (HR.out.2.alloc hs2 _).drew⟩)
          have HDZ := Lib.hid (show ∀ W, Below wo.heap.size wo W → W.cell? ⟨br, off + m, none⟩ = some (.int .u32 (x.toNat : Int)) ∧ Below wo.heap.size wo W from fun W hW => by
            have h := hW.cell (p := ⟨br, off + m, none⟩) hbr
            have h' := HR.out.2.cell (p := ⟨br, off + m, none⟩) hbr
            exact ⟨h.trans (h'.symm.trans hcm), hW⟩)
          have HN1 := Lib.hid (show ∀ z ∈ [enc8 b1, enc8 b2, enc8 b3, enc8 b4], z.oneCell' = true from by
            intro z hz
            simp only [List.mem_cons, List.not_mem_nil, or_false] at hz
            rcases hz with rfl | rfl | rfl | rfl <;> rfl)
          have HSR := Lib.hid (show Src (wp.alloc (.cells #[.int .u8 (b1.toNat : Int), .int .u8 (b2.toNat : Int), .int .u8 (b3.toNat : Int), .int .u8 (b4.toNat : Int)] 5)).drew 1 (.slice (some ⟨wp.heap.size, 0, none⟩) 4 4) 4 [enc8 b1, enc8 b2, enc8 b3, enc8 b4] from
            Src.block (cs := [enc8 b1, enc8 b2, enc8 b3, enc8 b4]) (heap_alloc_new wp _) rfl)
          have HOA := Lib.hid (show ∀ o, (wp.alloc o).drew.ownsRow wo.heap.size 5 1 u6 (4 * m) (((R.take m).flatMap bytes4).map enc8) from fun o => (HR.out.1.alloc o).drew)
          go_wp2_with fail
          go_region_held3 (fun w' => w'.cell? ⟨br, off + m, none⟩ = some (.int .u32 (x.toNat : Int)) ∧ Below wo.heap.size wo w')
            (first | exact HD0.out | exact HDA.out _ | (refine HDZ.out _ ?_; assumption))
            ((go_split_ands
              refine step_append_src _ (by rfl) (.tmp 32) (.tmp 56) _ (by rfl) wo 5 i0 _ 1 1 Tryd.underlying78 HI.out HZ0.out HZ1.out HZ2.out rfl (by omega) _ (4 * m) _ (by rfl) (HOA.out _) _ 4 [enc8 b1, enc8 b2, enc8 b3, enc8 b4] (by rfl) HSR.out HN1.out ?_ ?_ ?_ ?_
              · simp only [maxLen]; omega
              · omega
              · assumption
              intro v58 w58 hown58 hg58 hb58))
          all_goals
            have HR2 := Lib.hid (And.intro hown58 hb58)
            clear hown58 hg58 hb58
            go_wp2_with fail
            go_roundw
            case rel =>
              refine ⟨m + 1, by omega, by go_num, Lib.hid ⟨?_, HR2.out.2⟩⟩
              have h := HR2.out.1
              rw [HFT.out, HB4.out, show 4 * (m + 1) = 4 * m + 4 by omega]
              simpa using h
            case measure => simp [intOf]; omega
        · obtain rfl : m = 8 := by omega
          have ht := text_own HR.out.1
          have hd : (⟨((R.take 8).flatMap bytes4).toArray⟩ : ByteArray) = digestOf s := by
            rw [List.take_of_length_le (by rw [HL8.out]; exact Nat.le_refl _), HRR.out, HK.out]
            rfl
          rw [hd] at ht
          clear hd
          rw [show ((8 : Nat) : Int) = 8 from rfl]
          go_wp2_with fail
          go_ret
          exact ⟨rfl, HBW.out.trans (HR.out.2.mono HBW.out.size)⟩
end Go.Proofs.YthfiebdpoleeeaaDoor
