/-
  Package sha: what Write makes of a Hash.
-/
import Derived.Test.YthfiebdpoleeeaaDoorShaE
namespace Go.Proofs.YthfiebdpoleeeaaDoor
open Go.RowKit
set_option linter.unusedVariables false

theorem drop_take_block (L : List UInt8) (off : Nat) : ∀ j, j < 64 → off + 64 ≤ L.length → (((L.drop off).take 64)[j]! : UInt8) = L[off + j]! := by
  intro j hj h
  rw [getElem!_pos _ j (by simp; omega), getElem!_pos L (off + j) (by omega)]
  simp
/-- An empty row of bytes, as a text. -/
theorem text_empty (A : Option Addr) (c : Nat) (w : World) : (convert 78 9 (.slice A 0 c)).run Tryd.prog w = .ok (.string ⟨([] : List UInt8).toArray⟩) w := by
  rw [run_convert_bytes_string _ _ _ 5 _ _ _ Tryd.underlying78 Tryd.underlying5 Tryd.underlying9]
  cases A <;> rfl
set_option maxHeartbeats 4000000 in
set_option maxRecDepth 100000 in
theorem hwrite_any (a : Nat) (l : List UInt8) (s : ByteArray) (w : World) (h : HashB w a l) (hK : Kub w) (ha : 0 < a) (hl : l.length + s.size ≤ 1000000000) :
    Calls Tryd.prog 60 #[.pointer (some ⟨a, 0, none⟩), .string s] w fun e w' => e = .returned (.tuple #[]) ∧ HashB w' a (l ++ s.data.toList) ∧ w.grownBy w' (some a) := by
  obtain ⟨i0, hi0, hz0, hz1, hz2⟩ := info_parts info8
  have HI := Lib.hid hi0
  have HZ0 := Lib.hid hz0
  have HZ1 := Lib.hid hz1
  have HZ2 := Lib.hid hz2
  clear hi0 hz0 hz1 hz2
  have HK := Lib.hid hK
  unfold HashB at h
  obtain ⟨k0, hk0⟩ : ∃ k0, k0 = l.length / 64 := ⟨_, rfl⟩
  rw [← hk0] at h
  obtain ⟨r0, hr0⟩ : ∃ r0 : ByteArray, r0 = ⟨(l.drop (64 * k0)).toArray⟩ := ⟨_, rfl⟩
  rw [← hr0] at h
  have hr0s : r0.size = l.length - 64 * k0 := by rw [hr0]; show (l.drop (64 * k0)).toArray.size = _; simp
  obtain ⟨x0, x1, x2, x3, x4, x5, x6, x7, e, c0, c1, c2, c3, c4, c5, c6, c7, c8, c9⟩ := h.cells
  have hlt := h.lt
  have HH := Lib.hid h
  clear e h hK c0 c1 c2 c3 c4 c5 c6 c7 c8
  have hb := bytes_own (w := w) (B := w.heap.size) (Nat.le_refl _) r0 (by unfold maxLen; omega)
  have hcv := bytes_of w r0
  have hbb := bytes_below (Below.refl w.heap.size w) (Nat.le_refl _) 5 r0
  have HB0 := Lib.hid hb
  have HBB := Lib.hid hbb
  have hws := hbb.size
  clear hb hbb
  generalize grownCap w r0.size 0 5 = cp0 at *
  generalize Lib.bytesWorld w 5 r0 = w0 at *
  have HR0 := Lib.hid hr0
  have HK0 := Lib.hid hk0
  have hr0l : r0.data.toList.length = r0.size := by simp
  have HRL := Lib.hid hr0l
  have hk1 : 64 * k0 ≤ l.length := by omega
  have hk2 : l.length < 64 * k0 + 64 := by omega
  have hr64 : r0.size < 64 := by omega
  have HRS := Lib.hid hr0s
  clear hr0 hk0 hr0l hr0s
  go_enter Tryd.func60, Tryd.ntmps60
  go_wp2_with (at_builtin; go_loud (refine wpList_append_fed _ rfl (.tmp 10) (.tmp 11) 78 9 rfl w.heap.size 5 i0 (.int .u8 0) 1 1 Tryd.underlying78 (.inl str_under) HI.out HZ0.out HZ1.out HZ2.out rfl _ _ _ rfl HB0.out _ s.size _ rfl (fed_text w0 s) ?c1 ?c2 ?c3 ?_))
  case c1 => have := HRL.out; simp only [maxLen]; omega
  case c2 => have := HRL.out; omega
  case c3 => exact hws
  intro v1 w1 ho1 hg1
  obtain ⟨L, hL⟩ : ∃ L, L = l ++ s.data.toList := ⟨_, rfl⟩
  obtain ⟨T, hT⟩ : ∃ T, T = r0.data.toList ++ s.data.toList := ⟨_, rfl⟩
  have hTL : T = L.drop (64 * k0) := by rw [hT, hL, List.drop_append_of_le_length hk1, HR0.out]
  have hLl : L.length = l.length + s.size := by rw [hL]; simp
  have hN : T.length = L.length - 64 * k0 := by rw [hTL]; simp
  have HO1 : OwnB w1 w.heap.size v1 T := OwnB.ofG ho1 (by rw [hT]; simp)
  have HB1 := Lib.hid (HBB.out.grown hg1 hws fun k hk => (HB0.out.lt k hk).1)
  have HH1 : HashK w1 a L k0 r0 := by
    have h := (HH.out).keep (HB1.out.block a hlt)
    unfold HashK at h ⊢
    rw [hL, held_ext l _ k0 hk1]
    exact h
  have hs1 := HB1.out.size
  obtain ⟨A, cap, rfl, hcap, hmax, hA⟩ := HO1.slice
  obtain ⟨g, hg⟩ : ∃ g, 0 < T.length → A = some ⟨g, 0, none⟩ ∧ w.heap.size ≤ g ∧ g < w1.heap.size := by
    by_cases h0 : 0 < T.length
    · obtain ⟨g, h1, h2, h3⟩ := hA h0
      exact ⟨g, fun _ => ⟨h1, h2, h3⟩⟩
    · exact ⟨0, fun h => absurd h h0⟩
  have HC := Lib.hid (show ∀ W, w1.grownBy W (some a) → ∀ j, j < T.length → W.cell? ⟨g, j, none⟩ = some (.int .u8 (T[j]!.toNat : Int)) from fun W hW j hj => by
    obtain ⟨rfl, h2, h3⟩ := hg (by omega)
    refine hW.cell (HO1.cell (by rw [List.getElem?_eq_getElem hj, getElem!_pos T j hj])) ?_
    intro e
    have e' : g = a := Option.some.inj e
    omega)
  have HG := Lib.hid (show 0 < T.length → w.heap.size ≤ g ∧ g < w1.heap.size from fun h => (hg h).2)
  have HK1 := Lib.hid ((HK.out).later HB1.out)
  have H0 : Hid (HashK w1 a L (k0 + 0) r0 ∧ w1.grownBy w1 (some a)) := Lib.hid ⟨HH1, World.grownBy.refl _ _⟩
  have hA0 : 0 < T.length → A = some ⟨g, 64 * 0, none⟩ := fun h => (hg h).1
  have HTL := Lib.hid hTL
  have HN := Lib.hid hN
  have HL := Lib.hid hL
  have HLl := Lib.hid hLl
  have HA0 := Lib.hid hA0
  have HCAP := Lib.hid hcap
  unfold maxLen at hmax
  clear hA hg HO1 ho1 hg1 HH1 hTL hT hL hLl hN HB0 hcv hA0 c9 HH hws
  generalize hNN : T.length = N at *
  have HNN := Lib.hid hNN
  clear hNN
  go_wp2_with fail
  go_loopw [4] (fun v wr => ∃ (q n c : Nat) (A : Option Addr), n + 64 * q = N ∧ n ≤ c ∧ c ≤ 9223372036854775807 ∧ v = .slice A n c ∧ Hid (0 < n → A = some ⟨g, 64 * q, none⟩) ∧ Hid (HashK wr a L (k0 + q) r0 ∧ w1.grownBy wr (some a)))
    (fun v _ => match v with | .slice _ n _ => n | _ => 0)
  case atStart => exact ⟨0, N, cap, A, by omega, HCAP.out, by omega, rfl, HA0, H0⟩
  case round =>
    obtain ⟨q, n, c, A, hq, hnc, hcm, rfl, HA, HR⟩ := hrel
    by_cases h64 : 64 ≤ n
    · obtain rfl := HA.out (by omega)
      have hgg := HG.out (by omega)
      have hNe := HNN.out
      have HBL : Hid (∀ j, j < 64 → (((T.drop (64 * q)).take 64)[j]! : UInt8) = T[64 * q + j]!) := Lib.hid fun j hj => drop_take_block T (64 * q) j hj (by omega)
      have HLEN : Hid (((T.drop (64 * q)).take 64).length = 64) := Lib.hid (by simp; omega)
      have HWD : Hid (words ((T.drop (64 * q)).take 64) 0 = words L (64 * (k0 + q))) := Lib.hid (by
        rw [HTL.out, List.drop_drop, ← Nat.mul_add, words_cut]
        have := HN.out
        omega)
      have HE1 : Hid (behindBlock (regs L (k0 + q)) (words ((T.drop (64 * q)).take 64) 0) = held L (k0 + q + 1)) := Lib.hid (by rw [HWD.out]; rfl)
      obtain ⟨z0, z1, z2, z3, z4, z5, z6, z7, hz⟩ := behind_list (held_length L (k0 + q + 1))
      have HZ := Lib.hid hz
      have HAGG : Hid (rowW (behindBlock (regs L (k0 + q)) (words ((T.drop (64 * q)).take 64) 0)) = #[Value.int .u32 (z0.toNat : Int), .int .u32 (z1.toNat : Int), .int .u32 (z2.toNat : Int), .int .u32 (z3.toNat : Int), .int .u32 (z4.toNat : Int), .int .u32 (z5.toNat : Int), .int .u32 (z6.toNat : Int), .int .u32 (z7.toNat : Int)]) := Lib.hid (by rw [HE1.out, hz]; rfl)
      clear hz hNe
      have y1 : (64 : Int) ≤ (n : Int) := by omega
      have y2 : (64 : Int) ≤ (c : Int) := by omega
      have hkb : k0 + q < 1000000000 := by have := HN.out; have := HLl.out; omega
      generalize hblk : (T.drop (64 * q)).take 64 = blk at *
      clear hblk
      by_cases hc64 : c = 64
      all_goals
        go_wp2_with fail
        refine (regsM_any a L (k0 + q) r0 wr HR.out.1).mono ?_
        rintro e w2 ⟨rfl, hb2⟩
        have HR2 : Hid (HashK w2 a L (k0 + q) r0 ∧ w1.grownBy w2 (some a)) := Lib.hid ⟨HR.out.1.keep (hb2.block a HR.out.1.lt), grown_below HR.out.2 hb2⟩
        clear hb2
        go_wp2_with fail
        refine (behind_any (regs L (k0 + q)) (regs_length _ _) g (64 * q) blk HLEN.out w2 (Nat.lt_of_lt_of_le hgg.2 HR2.out.2.size) (fun j hj => by rw [HBL.out j hj]; exact HC.out w2 HR2.out.2 (64 * q + j) (by omega)) (HK1.out.grown HR2.out.2 ha)).mono ?_
        rintro e w3 ⟨rfl, hb3⟩
        rw [HAGG.out]
        have HR3 : Hid (HashK w3 a L (k0 + q) r0 ∧ w1.grownBy w3 (some a)) := Lib.hid ⟨HR2.out.1.keep (hb3.block a HR2.out.1.lt), grown_below HR2.out.2 hb3⟩
        clear hb3
        obtain ⟨d0, d1, d2, d3, d4, d5, d6, d7, e, c0, c1, c2, c3, c4, c5, c6, c7, c8, c9⟩ := HR3.out.1.cells
        have hfr := HR3.out.1.free
        clear e c9
        go_wp2_with fail
        go_roundw
        case rel =>
          refine ⟨q + 1, n - 64, _, _, by omega, by omega, by omega, rfl, Lib.hid fun h => ?_, Lib.hid ⟨?_, ?_⟩⟩
          · first | exact absurd h (by omega) | rfl
          · exact HR3.out.1.put HZ.out
          · exact grown_setCell (grown_setCell (grown_setCell (grown_setCell (grown_setCell (grown_setCell (grown_setCell (grown_setCell (grown_setCell HR3.out.2))))))))
        case measure => simp; omega
    · have HTX : Hid ((convert 78 9 (.slice A n c)).run Tryd.prog wr = .ok (.string ⟨(T.drop (64 * q)).toArray⟩) wr) := Lib.hid (by
        have hNe := HNN.out
        by_cases h0 : 0 < n
        · obtain rfl := HA.out h0
          have hle : (T.drop (64 * q)).length = n := by simp; omega
          have h := text_of wr g (64 * q) c (T.drop (64 * q)) (fun j u hu => by
            have hj : j < (T.drop (64 * q)).length := (List.getElem?_eq_some_iff.1 hu).1
            rw [HC.out wr HR.out.2 (64 * q + j) (by omega)]
            rw [List.getElem?_drop, List.getElem?_eq_getElem (by omega)] at hu
            rw [getElem!_pos T _ (by omega), Option.some.inj hu])
          rw [hle] at h
          exact h
        · obtain rfl : n = 0 := by omega
          have he : T.drop (64 * q) = [] := List.eq_nil_of_length_eq_zero (by simp; omega)
          rw [he]
          exact text_empty A c wr)
      have htx := HTX.out
      have hfr := HR.out.1.free 9
      obtain ⟨d0, d1, d2, d3, d4, d5, d6, d7, e, c0, c1, c2, c3, c4, c5, c6, c7, c8, c9⟩ := HR.out.1.cells
      clear e c0 c1 c2 c3 c4 c5 c6 c7 c8
      go_wp2_with fail
      go_end0
      have hkq : k0 + q = (l ++ s.data.toList).length / 64 := by
        have h1 := HN.out
        have h2 := HLl.out
        rw [← HL.out, h2]
        omega
      refine ⟨rfl, ?_, grown_setCell (a := a) ?_⟩
      · unfold HashB
        rw [← hkq, ← HL.out]
        have h := HR.out.1.rest ⟨(T.drop (64 * q)).toArray⟩
        rw [HTL.out, List.drop_drop, ← Nat.mul_add] at h
        have e : (⟨(T.drop (64 * q)).toArray⟩ : ByteArray) = ⟨(L.drop (64 * (k0 + q))).toArray⟩ := by rw [HTL.out, List.drop_drop, ← Nat.mul_add]
        rw [e]
        exact h
      · have h1 := HB1.out
        have h2 := HR.out.2
        exact ⟨h2.os.trans h1.os, h2.tape.trans h1.tape, h2.output.trans h1.output, Nat.le_trans h1.size h2.size, fun k hk hne => (h2.block k (Nat.lt_of_lt_of_le hk h1.size) hne).trans (h1.block k hk)⟩
end Go.Proofs.YthfiebdpoleeeaaDoor
