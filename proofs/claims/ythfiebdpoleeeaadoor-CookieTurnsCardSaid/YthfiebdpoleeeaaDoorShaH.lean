/-
  Package sha: the Sum of a Hash; Sum.
-/
import Derived.Test.YthfiebdpoleeeaaDoorShaF
import Derived.Test.YthfiebdpoleeeaaDoorShaG
namespace Go.Proofs.YthfiebdpoleeeaaDoor
open Go.RowKit
set_option linter.unusedVariables false

theorem size10 : (Tryd.prog.info? 109).map (·.size) = some 10 := by kernel_rfl
theorem hashC_size (k : Nat) (R : List UInt32) (s : ByteArray) (h : R.length = 8) : (hashC k R s).size = 10 := by simp [hashC, h]
theorem hashC_one (k : Nat) (R : List UInt32) (s : ByteArray) : (hashC k R s).all (·.oneCell') = true := by
  rw [Array.all_eq_true_iff_forall_mem]
  intro v hv
  simp only [hashC, List.mem_toArray, List.mem_cons, List.mem_append, List.mem_map, List.not_mem_nil, or_false] at hv
  rcases hv with rfl | ⟨u, _, rfl⟩ | rfl <;> rfl
theorem padded_held (l : List UInt8) : held (padded l) ((padded l).length / 64) = regs (padded l) ((padded l).length / 64) := by
  unfold held
  rw [if_neg]
  have := padded_whole l
  unfold padded at this ⊢
  rw [List.length_append, pad_length] at this ⊢
  omega
theorem run_index_8 (cs : Array Value) (k : Nat) (hk : k < 8) (v : Value) (h : cs[k]? = some v) (w : World) :
    (Instr.index 107 (.agg cs) (.int .i64 (k : Int))).run Tryd.prog w = .ok v w := by
  have hu := run_underlying (P := Tryd.prog) Tryd.underlying107
  obtain ⟨i0, hi0, hz0, hz1, hz2⟩ := info_parts info32
  have hu2 := run_underlying (P := Tryd.prog) Tryd.underlying22
  have h0 : (0 : Int) ≤ (k : Int) ∧ (k : Int) < 8 := by omega
  simp [Instr.index, asIntOf, hu, hu2, part, isAgg, sizeOf, typeInfo, hi0, hz1, h, h0, hk]
set_option maxHeartbeats 4000000 in
set_option maxRecDepth 100000 in
theorem hsumM_any (a : Nat) (l : List UInt8) (w : World) (h : HashB w a l) (hK : Kub w) (hl : l.length ≤ 900000000) :
    Calls Tryd.prog 61 #[.pointer (some ⟨a, 0, none⟩)] w fun e w' => e = .returned (.string ⟨(digest l).toArray⟩) ∧ Below w.heap.size w w' := by
  obtain ⟨i0, hi0, hz0, hz1, hz2⟩ := info_parts info8
  have HI := Lib.hid hi0
  have HZ0 := Lib.hid hz0
  have HZ1 := Lib.hid hz1
  have HZ2 := Lib.hid hz2
  clear hi0 hz0 hz1 hz2
  have HK := Lib.hid hK
  have HH := Lib.hid h
  have hlt := h.lt
  unfold HashB HashK at h
  obtain ⟨k0, hk0⟩ : ∃ k0, k0 = l.length / 64 := ⟨_, rfl⟩
  obtain ⟨r0, hr0⟩ : ∃ r0 : ByteArray, r0 = ⟨(l.drop (64 * k0)).toArray⟩ := ⟨_, rfl⟩
  rw [← hk0, ← hr0] at h
  have hr0s : r0.size = l.length - 64 * k0 := by rw [hr0]; show (l.drop (64 * k0)).toArray.size = _; simp
  have HCELL := Lib.hid h
  have HHK : Hid (HashK w a l k0 r0) := Lib.hid h
  have HSZ := Lib.hid (hashC_size k0 (held l k0) r0 (held_length _ _))
  have H10 := Lib.hid (show (Tryd.prog.info? 109).map (·.size) = some (hashC k0 (held l k0) r0).size by rw [HSZ.out]; exact size10)
  have HONE := Lib.hid (hashC_one k0 (held l k0) r0)
  have HK0 := Lib.hid hk0
  have HR0 := Lib.hid hr0
  have hkb : 64 * k0 ≤ l.length := by omega
  have hrb : 64 * k0 + r0.size = l.length := by omega
  have HRB := Lib.hid hrb
  have HRS := Lib.hid hr0s
  clear h hK hk0 hr0 hr0s hrb
  go_enter Tryd.func61, Tryd.ntmps61
  go_wp2_with (first
    | (refine wpList_load_row rfl 109 (.tmp 8) rfl a rfl 109 (hashC k0 (held l k0) r0) (0, 0) _ HCELL.out Tryd.underlying109 rfl H10.out ?_)
    | (refine wpList_store_row rfl 109 (.tmp 3) (.tmp 9) rfl w.heap.size (hashC k0 (held l k0) r0) rfl rfl 109 _ (heap_alloc_new w _) H10.out HSZ.out.symm HONE.out ?_))
  rw [World.setRow_alloc_new]
  obtain ⟨w1, h1⟩ : ∃ w1, w1 = w.alloc (.cells (hashC k0 (held l k0) r0) 109) := ⟨_, rfl⟩
  rw [← h1]
  have HB1 := Lib.hid (show Below w.heap.size w w1 by subst h1; exact (Below.refl _ _).alloc (Nat.le_refl _) _)
  have HN1 : Hid (HashB w1 w.heap.size l) := Lib.hid (by
    unfold HashB HashK
    rw [h1, ← HK0.out, ← HR0.out]
    exact heap_alloc_new w _)
  have HS1 := Lib.hid (show w1.heap.size = w.heap.size + 1 by subst h1; simp)
  have HHK1 := Lib.hid (HHK.out.keep (HB1.out.block a hlt))
  clear h1
  obtain ⟨x0, x1, x2, x3, x4, x5, x6, x7, e, c0, c1, c2, c3, c4, c5, c6, c7, c8, c9⟩ := HHK1.out.cells
  clear e c1 c2 c3 c4 c5 c6 c7 c8
  have hm0 : IntKind.i64.wrap ((k0 : Int) * 64) = (k0 : Int) * 64 := IntWalk.i64_in _ (by omega)
  have hrb := HRB.out
  have hm1 : (k0 : Int) * 64 + (r0.size : Int) = (l.length : Int) := by omega
  have hm2 : IntKind.i64.wrap (l.length : Int) = (l.length : Int) := IntWalk.i64_in _ (by omega)
  clear hrb
  go_simp
  go_still_tail 11, (by kernel_rfl)
  change wpList _ _ _ _ _ w1.drew
  have HN2 : Hid (HashB w1.drew w.heap.size l) := Lib.hid HN1.out
  have HB2 := Lib.hid HB1.out.drew
  have HS2 : Hid (w1.drew.heap.size = w.heap.size + 1) := Lib.hid HS1.out
  clear HN1 HB1 HS1 HHK1 c0 c9 hm0 hm1 hm2
  generalize w1.drew = w2 at *
  go_wp2_with fail
  refine (pad_any l.length (by omega) w2).mono ?_
  rintro e w3 ⟨rfl, hb3⟩
  have HB3 := Lib.hid (HB2.out.trans (hb3.mono HB2.out.size))
  have HN3 : Hid (HashB w3 w.heap.size l) := Lib.hid (HashK.keep HN2.out (hb3.block _ (by rw [HS2.out]; omega)))
  clear hb3 HN2 HB2 HS2
  have hpl : (⟨(pad l.length).toArray⟩ : ByteArray).size ≤ 72 := by
    show (pad l.length).toArray.size ≤ 72
    rw [List.size_toArray, pad_length, noughts]
    omega
  go_wp2_with fail
  refine (hwrite_any w.heap.size l ⟨(pad l.length).toArray⟩ w3 HN3.out ((HK.out).later HB3.out) HK.out.1 (by omega)).mono ?_
  rintro e w4 ⟨rfl, hN4, hg4⟩
  have HB4 := Lib.hid (HB3.out.grown hg4 HB3.out.size fun k hk => by have := Option.some.inj hk; omega)
  have hN4' : HashK w4 w.heap.size (padded l) ((padded l).length / 64) ⟨((padded l).drop (64 * ((padded l).length / 64))).toArray⟩ := hN4
  obtain ⟨x0, x1, x2, x3, x4, x5, x6, x7, e, c0, c1, c2, c3, c4, c5, c6, c7, c8, c9⟩ := hN4'.cells
  rw [padded_held] at e
  have HE := Lib.hid e
  have hs4 := HB4.out.size
  clear e c0 c9 hN4 hg4 HN3 HB3 hpl HK HH HCELL HHK
  obtain ⟨R, hR⟩ : ∃ R, R = [x0, x1, x2, x3, x4, x5, x6, x7] := ⟨_, rfl⟩
  have HR := Lib.hid hR
  have HIX := Lib.hid (show ∀ m, m < 8 → (#[Value.int .u32 (x0.toNat : Int), .int .u32 (x1.toNat : Int), .int .u32 (x2.toNat : Int), .int .u32 (x3.toNat : Int), .int .u32 (x4.toNat : Int), .int .u32 (x5.toNat : Int), .int .u32 (x6.toNat : Int), .int .u32 (x7.toNat : Int)] : Array Value)[m]? = some (.int .u32 (R[m]!.toNat : Int)) from fun m hm => by
    rw [hR]
    exact rowW_at [x0, x1, x2, x3, x4, x5, x6, x7] hm)
  clear hR
  obtain ⟨w5, hmk, ho5, hb5⟩ := make_bytes w4 w4.heap.size (Nat.le_refl _) 32 (by omega)
  rw [show ((32 : Nat) : Int) = 32 from rfl] at hmk
  have hlt4 : w.heap.size < w4.heap.size := (Array.getElem?_eq_some_iff.1 hN4').1
  have k1 := (hb5.cell (p := ⟨w.heap.size, 1, none⟩) hlt4).trans c1
  have k2 := (hb5.cell (p := ⟨w.heap.size, 2, none⟩) hlt4).trans c2
  have k3 := (hb5.cell (p := ⟨w.heap.size, 3, none⟩) hlt4).trans c3
  have k4 := (hb5.cell (p := ⟨w.heap.size, 4, none⟩) hlt4).trans c4
  have k5 := (hb5.cell (p := ⟨w.heap.size, 5, none⟩) hlt4).trans c5
  have k6 := (hb5.cell (p := ⟨w.heap.size, 6, none⟩) hlt4).trans c6
  have k7 := (hb5.cell (p := ⟨w.heap.size, 7, none⟩) hlt4).trans c7
  have k8 := (hb5.cell (p := ⟨w.heap.size, 8, none⟩) hlt4).trans c8
  have HO5 := Lib.hid (ho5.base hs4)
  have HB5 := Lib.hid (HB4.out.trans (hb5.mono hs4))
  clear ho5 hb5 c1 c2 c3 c4 c5 c6 c7 c8 hN4'
  go_wp2_with fail
  have H0 : Hid (OwnB w5 w.heap.size (.slice (some ⟨w4.heap.size, 0, none⟩) 0 32) ((R.take 0).flatMap bytes4) ∧ Below w.heap.size w w5) := Lib.hid ⟨HO5.out, HB5.out⟩
  clear hmk
  go_loopw [4, 26] (fun v i wr => ∃ m : Nat, m ≤ 8 ∧ i = .int .i64 m ∧ Hid (OwnB wr w.heap.size v ((R.take m).flatMap bytes4) ∧ Below w.heap.size w wr)) (fun _ i _ => 8 - (intOf i).toNat)
  case atStart => exact ⟨0, by omega, rfl, H0⟩
  case round =>
    obtain ⟨m, hm, rfl, HT⟩ := hrel
    by_cases hm8 : m < 8
    · have hix := fun W => run_index_8 _ m hm8 _ (HIX.out m hm8) W
      have HFT := Lib.hid (flat_take R m (by rw [HR.out]; exact hm8))
      have hfl : ((R.take m).flatMap bytes4).length ≤ 1000000000 := by rw [flat_length]; simp; omega
      have HFL := Lib.hid hfl
      have hsr := HT.out.2.size
      clear hfl
      generalize R[m]! = x at *
      go_wp2_with fail
      refine (aword_any x _ _ w.heap.size wr HT.out.1 hsr HFL.out).mono ?_
      rintro e w6 ⟨v6, rfl, ho6, hg6, hb6⟩
      have HO6 := Lib.hid ho6
      have HB6 := Lib.hid (HT.out.2.trans hb6)
      clear ho6 hg6 hb6
      go_wp2_with fail
      go_roundw
      case rel => exact ⟨m + 1, by omega, by go_num, Lib.hid ⟨by rw [HFT.out]; exact HO6.out, HB6.out⟩⟩
      case measure => simp [intOf]; omega
    · obtain rfl : m = 8 := by omega
      have ht := HT.out.1.text
      have hd : (⟨((R.take 8).flatMap bytes4).toArray⟩ : ByteArray) = ⟨(digest l).toArray⟩ := by
        rw [List.take_of_length_le (by rw [HR.out]; exact Nat.le_refl _), HR.out, ← HE.out]
        rfl
      rw [hd] at ht
      clear hd
      rw [show ((8 : Nat) : Int) = 8 from rfl]
      go_wp2_with fail
      go_ret
      exact ⟨rfl, HT.out.2⟩
end Go.Proofs.YthfiebdpoleeeaaDoor
