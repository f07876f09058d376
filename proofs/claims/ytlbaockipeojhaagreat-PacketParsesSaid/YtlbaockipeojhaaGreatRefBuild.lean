/-
  The document's answer to layer 6: items' bytes built: contract, whatever items.
-/
import Derived.Test.YtlbaockipeojhaaGreatBuild
import Derived.Test.YtlbaockipeojhaaGreatRSmall
import Derived.BigRegion
namespace Go.Proofs.YtlbaockipeojhaaGreat
open Go.RowKit
set_option linter.unusedVariables false
set_option maxRecDepth 100000

theorem build_wrong {l : List Item} (h : anyWrong l = true) : buildB l = (⟨#[]⟩, 1) := by unfold buildB; rw [if_pos h]
theorem build_long {l : List Item} (h : anyWrong l = false) (h2 : anyLong l = true) : buildB l = (⟨#[]⟩, 4) := by unfold buildB; rw [h, h2]; rfl
theorem build_big {l : List Item} (h : anyWrong l = false) (h2 : anyLong l = false) (h3 : 4000 < (rowL l).length) : buildB l = (⟨#[]⟩, 4) := by unfold buildB; rw [h, h2, if_neg (by decide), if_neg (by decide), if_pos h3]
theorem build_fits {l : List Item} (h : anyWrong l = false) (h2 : anyLong l = false) (h3 : ¬ 4000 < (rowL l).length) : buildB l = (⟨(rowL l).toArray⟩, 0) := by unfold buildB; rw [h, h2, if_neg (by decide), if_neg (by decide), if_neg h3]
/-- The four bytes ahead of a value. -/
def fourB (k n : Nat) : ByteArray := ⟨(be16 k ++ be16 n).toArray⟩
theorem fourB_size (k n : Nat) : (fourB k n).size = 4 := rfl
theorem bytesB_four (k : Nat) (v : ByteArray) : fourB k (4 + v.size) ++ v ++ zerosB (padN v.size) = bytesB ((k : Int), v) := by
  rw [← bytesB_is]
  apply bytes_ext
  simp only [app_list, twoB, zerosB, fourB, padN_head, Int.toNat_natCast]
theorem fourB_text (w : World) (k n : Nat) (hk : k < 65536) (hn : n < 65536) (x0 x1 x2 x3 : Int) (h0 : x0 = ((k / 256 : Nat) : Int)) (h1 : x1 = ((k % 256 : Nat) : Int)) (h2 : x2 = ((n / 256 : Nat) : Int)) (h3 : x3 = ((n % 256 : Nat) : Int)) :
    (convert 47 9 (.slice (some ⟨w.heap.size, 0, none⟩) 4 4)).run Tryz.prog (w.alloc (.cells #[.int .u8 x0, .int .u8 x1, .int .u8 x2, .int .u8 x3] 5)) = .ok (.string (fourB k n)) (w.alloc (.cells #[.int .u8 x0, .int .u8 x1, .int .u8 x2, .int .u8 x3] 5)) := by
  have h := new_text w (be16 k ++ be16 n) 4
  have e1 : (UInt8.ofNat (k / 256)).toNat = k / 256 := UInt8.toNat_ofNat_of_lt' (by show _ < 256; omega)
  have e2 : (UInt8.ofNat k).toNat = k % 256 := UInt8.toNat_ofNat'
  have e3 : (UInt8.ofNat (n / 256)).toNat = n / 256 := UInt8.toNat_ofNat_of_lt' (by show _ < 256; omega)
  have e4 : (UInt8.ofNat n).toNat = n % 256 := UInt8.toNat_ofNat'
  simp only [be16, List.cons_append, List.nil_append, List.map_cons, List.map_nil, enc8, e1, e2, e3, e4, List.length_cons, List.length_nil] at h
  subst h0
  subst h1
  subst h2
  subst h3
  exact h

theorem wrap_u8_mod (x : Int) : IntKind.u8.wrap x = x % 256 := by rw [IntKind.wrap_u8]
set_option maxHeartbeats 4000000 in
theorem rbuild_any (l : List Item) (hl : l.length ≤ 100000) (hs : ∀ x ∈ l, x.2.size ≤ 1000000) (v : Value) (w : World) (hv : RowI w v l) :
    Calls Tryz.prog 84 #[v] w fun e w' => e = .returned (.tuple #[.string (buildB l).1, .int .i64 (buildB l).2]) ∧ Below w.heap.size w w' := by
  obtain ⟨A, cap, rfl, hcap, hmax, hcells⟩ := hv
  have HC := Lib.hid hcells
  have HW1 := Lib.hid (fun k (h : k < l.length) hp => build_wrong (wrong_in l k h hp))
  have HN1 := Lib.hid (fun k (h : k < l.length) h0 hp => wrong_not l k h h0 hp)
  have HW2 := Lib.hid (fun (h0 : anyWrong l = false) k (h : k < l.length) hp => build_long h0 (long_in l k h hp))
  have HN2 := Lib.hid (fun k (h : k < l.length) h0 hp => long_not l k h h0 hp)
  have HWN := Lib.hid (fun (h0 : anyWrong l = false) k (h : k < l.length) => wrong_none h0 k h)
  have HE1 := Lib.hid (show anyWrong (l.take l.length) = anyWrong l by rw [List.take_length])
  have HE2 := Lib.hid (show anyLong (l.take l.length) = anyLong l by rw [List.take_length])
  have HF := Lib.hid (fun h0 h1 h2 => @build_fits l h0 h1 h2)
  have HG := Lib.hid (fun h0 h1 h2 => @build_big l h0 h1 h2)
  have HT := Lib.hid (fun k (h : k < l.length) => rowL_take l k h)
  have HL := Lib.hid (show rowL (l.take l.length) = rowL l by rw [List.take_length])
  have HL0 := Lib.hid (show (⟨(rowL (l.take 0)).toArray⟩ : ByteArray) = ⟨#[]⟩ from rfl)
  have HSX := Lib.hid hs
  have HZL := Lib.hid (fun k => show (rowL (l.take k)).length ≤ 100000 * 1000007 from by
    have h1 := rowL_le (l.take k) 1000000 fun x hx => hs x (List.mem_of_mem_take hx)
    have h2 : (l.take k).length ≤ 100000 := by rw [List.length_take]; omega
    exact Nat.le_trans h1 (Nat.mul_le_mul_right _ h2))
  generalize buildB l = R at *
  clear hcells hs
  have hl' : (l.length : Int) ≤ 100000 := by omega
  go_enter Tryz.func84, Tryz.ntmps84
  go_wp2_with fail
  go_loopw [4] (fun i wr => ∃ k : Nat, k ≤ l.length ∧ i = .int .i64 k ∧ Hid (anyWrong (l.take k) = false) ∧ Below w.heap.size w wr)
    (fun i _ => l.length - (intOf i).toNat)
  case atStart => exact ⟨0, Nat.zero_le _, rfl, Lib.hid rfl, Below.refl _ _⟩
  case round =>
    obtain ⟨k, hk, rfl, HF1, hbr⟩ := hrel
    by_cases hlt : k < l.length
    · obtain ⟨b, off, rfl, hb, hc⟩ := HC.out (by omega)
      obtain ⟨hc0, hc1⟩ := hc k hlt
      have HT1 := Lib.hid (HW1.out k hlt)
      have HU1 := Lib.hid (HN1.out k hlt HF1.out)
      generalize hxe : l[k] = x at *
      obtain ⟨a, t⟩ := x
      dsimp only at hc0 hc1 HT1 HU1
      have hd0 := (hbr.cell (p := ⟨b, off + k * 2, none⟩) hb).trans hc0
      have HB := Lib.hid hbr
      rcases isType_cases a with ⟨hq, h0, h1⟩ | ⟨hq, h0⟩ | ⟨hq, h0, h1⟩
      · rw [hq] at HT1 HU1
        have h2 : ¬ 65535 < a := by omega
        clear hc hc0 hc1 hxe hbr hq h1
        go_wp2_with fail
        go_roundw
        case rel => exact ⟨k + 1, by omega, by go_num, Lib.hid (HU1.out rfl), HB.out⟩
        case measure => simp [intOf]; omega
      · rw [hq] at HT1 HU1
        have h2 : a < 0 := by omega
        clear hc hc0 hc1 hxe hbr hq
        obtain rfl := HT1.out rfl
        go_wp2_with fail
        go_ret2
        exact ⟨rfl, HB.out⟩
      · rw [hq] at HT1 HU1
        have h2 : 65535 < a := by omega
        clear hc hc0 hc1 hxe hbr hq h1
        obtain rfl := HT1.out rfl
        go_wp2_with fail
        go_ret2
        exact ⟨rfl, HB.out⟩
    · obtain rfl : k = l.length := by omega
      rw [HE1.out] at HF1
      have HB := Lib.hid hbr
      clear hbr hk hlt HW1 HN1
      have HW2' := Lib.hid (HW2.out HF1.out)
      have HWN' := Lib.hid (HWN.out HF1.out)
      go_wp2_with fail
      go_loopw [5, 6] (fun s i w2 => ∃ k : Nat, k ≤ l.length ∧ i = .int .i64 k ∧ s = .string ⟨(rowL (l.take k)).toArray⟩ ∧ Hid (anyLong (l.take k) = false) ∧ Below w.heap.size w w2)
        (fun _ i _ => l.length - (intOf i).toNat)
      case atStart => exact ⟨0, Nat.zero_le _, rfl, by rw [HL0.out], Lib.hid rfl, HB.out⟩
      case round =>
        obtain ⟨k, hk, rfl, rfl, HF2, hbr⟩ := hrel
        by_cases hlt : k < l.length
        · obtain ⟨b, off, rfl, hb, hc⟩ := HC.out (by omega)
          obtain ⟨hc0, hc1⟩ := hc k hlt
          obtain ⟨n, hn, hn2⟩ := HWN'.out k hlt
          have hx := HSX.out l[k] (List.getElem_mem hlt)
          have HT1 := Lib.hid (HW2'.out k hlt)
          have HU1 := Lib.hid (HN2.out k hlt HF2.out)
          have HX := Lib.hid (HT.out k hlt)
          generalize hxe : l[k] = x at *
          obtain ⟨a, t⟩ := x
          dsimp only at hc0 hc1 hx HT1 HU1 hn2
          subst hn2
          have hd0 := (hbr.cell (p := ⟨b, off + k * 2, none⟩) hb).trans hc0
          have hd1 := (hbr.cell (p := ⟨b, off + k * 2 + 1, none⟩) hb).trans hc1
          have hblt := Nat.lt_of_lt_of_le hb hbr.size
          have HB2 := Lib.hid hbr
          have hzl := HZL.out k
          by_cases hlong : 1400 < t.size
          · have h2 : (1400 : Int) < (t.size : Int) := by omega
            obtain rfl := HT1.out (decide_eq_true hlong)
            clear hc hc0 hc1 hxe hbr
            go_wp2_with fail
            go_ret2
            exact ⟨rfl, HB2.out⟩
          · have h2 : ¬ (1400 : Int) < (t.size : Int) := by omega
            have HU2 := Lib.hid (HU1.out (decide_eq_false hlong))
            clear HT1 HU1 HW2 HW2' HN2
            obtain ⟨y, hy⟩ : ∃ y : ByteArray, y = ⟨(rowL (l.take k)).toArray⟩ := ⟨_, rfl⟩
            have hys : y.size ≤ 100000 * 1000007 := by rw [hy]; simpa [ByteArray.size] using hzl
            have HY := Lib.hid (show y ++ fourB n (4 + t.size) ++ t ++ zerosB (padN t.size) = ⟨(rowL (l.take (k + 1))).toArray⟩ by
              have h5 := congrArg (fun b : ByteArray => b.data.toList) (bytesB_four n t)
              simp only [app_list] at h5
              apply bytes_ext
              simp only [app_list]
              rw [hy, HX.out]
              show rowL (l.take k) ++ _ ++ _ ++ _ = rowL (l.take k) ++ bytesL ((n : Int), t)
              rw [show bytesL ((n : Int), t) = (bytesB ((n : Int), t)).data.toList from rfl, ← h5]
              simp only [List.append_assoc])
            rw [← hy]
            have hconv : (convert 47 9 (.slice (some ⟨wr.heap.size, 0, none⟩) 4 4)).run Tryz.prog (wr.alloc (.cells #[.int .u8 (IntKind.u8.wrap (IntKind.i64.wrap ((n : Int) / 256))), .int .u8 (IntKind.u8.wrap (n : Int)), .int .u8 (IntKind.u8.wrap (IntKind.i64.wrap (((t.size : Int) + 4).tdiv 256))), .int .u8 (IntKind.u8.wrap ((t.size : Int) + 4))] 5)).drew = .ok (.string (fourB n (4 + t.size))) (wr.alloc (.cells #[.int .u8 (IntKind.u8.wrap (IntKind.i64.wrap ((n : Int) / 256))), .int .u8 (IntKind.u8.wrap (n : Int)), .int .u8 (IntKind.u8.wrap (IntKind.i64.wrap (((t.size : Int) + 4).tdiv 256))), .int .u8 (IntKind.u8.wrap ((t.size : Int) + 4))] 5)).drew :=
              fourB_text wr.drew n (4 + t.size) hn (by omega) _ _ _ _ (by rw [wrap_i64_id _ (by omega) (by omega), wrap_u8_mod]; omega) (by rw [wrap_u8_mod]; omega)
                (by rw [Int.tdiv_eq_ediv_of_nonneg (by omega), wrap_i64_id _ (by omega) (by omega), wrap_u8_mod]; omega) (by rw [wrap_u8_mod]; omega)
            have hpd := padN_lt t.size
            have H1 := Lib.hid (show ∀ W, Calls Tryz.prog 56 #[.int .i64 (t.size : Int)] W fun e w' => e = .returned (.int .i64 (padN t.size : Nat)) ∧ w' = W from fun W => by rw [← padI_nat]; exact rpad_any _ (by omega) (by omega) W)
            have H2 := Lib.hid (fun W => rnoughts_any (padN t.size) (by omega) W)
            have hfs := Nat.le_of_eq (fourB_size n (4 + t.size))
            have hzs := Nat.le_of_eq (zerosB_size (padN t.size))
            generalize padN t.size = p at *
            generalize fourB n (4 + t.size) = f4 at *
            generalize zerosB p = zp at *
            have q1 : ¬ 9223372036854775807 < y.size + f4.size := by omega
            have q2 : ¬ 9223372036854775807 < y.size + f4.size + t.size := by omega
            have q3 : ¬ 9223372036854775807 < y.size + f4.size + t.size + zp.size := by omega
            have q4 : (0 : Int) ≤ (k : Int) := by omega
            have q5 : (k : Int) < (l.length : Int) := by omega
            clear hc hc0 hc1 hxe hbr hy HX
            go_wp2_with fail
            have HK0 := Lib.hid (And.intro ((World.cell?_drew wr ⟨b, off + k * 2, none⟩).trans hd0) (Below.refl wr.heap.size wr).drew)
            have HBW := Lib.hid (fun (W : World) (h : Below wr.heap.size wr W) => HB2.out.trans (h.mono HB2.out.size))
            refine wp_region_noPanic ?_
            refine wp_region_held_drew (S := (fun w' => w'.cell? ⟨b, off + k * 2, none⟩ = some (.int .i64 (n : Int)) ∧ Below wr.heap.size wr w')) (by kernel_rfl) ?_ (fun hHeld => ?_)
            · (first | exact HK0.out | (go_split_ands; refine ⟨?_, ?_⟩ <;> assumption) | (refine ⟨(World.cell?_of_block (heap_alloc_old _ _ hblt)).trans HK0.out.1, Below.alloc HK0.out.2 (Nat.le_refl _) _⟩))
            refine k9 0 ?_ (y := ?_) (h := ?_)
            rotate_left 1
            · (intro w' hSw; (try dsimp only at hSw); go_simp; try with_reducible rfl)
            try simp only [Act.put, p9a, p9z, p9s]
            refine k9 1 ?_ (y := ?_) (h := ?_)
            rotate_left 1
            · (intro w' hSw; (try dsimp only at hSw); go_simp; try with_reducible rfl)
            try simp only [Act.put, p9a, p9z, p9s]
            refine k9 2 ?_ (y := ?_) (h := ?_)
            rotate_left 1
            · (intro w' hSw; (try dsimp only at hSw); go_simp; try with_reducible rfl)
            try simp only [Act.put, p9a, p9z, p9s]
            refine k9 3 ?_ (y := ?_) (h := ?_)
            rotate_left 1
            · (intro w' hSw; (try dsimp only at hSw); go_simp; try with_reducible rfl)
            try simp only [Act.put, p9a, p9z, p9s]
            refine k9 4 ?_ (y := ?_) (h := ?_)
            rotate_left 1
            · (intro w' hSw; (try dsimp only at hSw); go_simp; try with_reducible rfl)
            try simp only [Act.put, p9a, p9z, p9s]
            refine k9 5 ?_ (y := ?_) (h := ?_)
            rotate_left 1
            · (intro w' hSw; (try dsimp only at hSw); go_simp; try with_reducible rfl)
            try simp only [Act.put, p9a, p9z, p9s]
            refine k9 6 ?_ (y := ?_) (h := ?_)
            rotate_left 1
            · (intro w' hSw; (try dsimp only at hSw); go_simp; try with_reducible rfl)
            try simp only [Act.put, p9a, p9z, p9s]
            refine k9 7 ?_ (y := ?_) (h := ?_)
            rotate_left 1
            · (intro w' hSw; (try dsimp only at hSw); go_simp; try with_reducible rfl)
            try simp only [Act.put, p9a, p9z, p9s]
            refine k9 8 ?_ (y := ?_) (h := ?_)
            rotate_left 1
            · (intro w' hSw; (try dsimp only at hSw); go_simp; try with_reducible rfl)
            try simp only [Act.put, p9a, p9z, p9s]
            refine k9 9 ?_ (y := ?_) (h := ?_)
            rotate_left 1
            · (intro w' hSw; (try dsimp only at hSw); go_simp; try with_reducible rfl)
            try simp only [Act.put, p9a, p9z, p9s]
            refine k9 10 ?_ (y := ?_) (h := ?_)
            rotate_left 1
            · (intro w' hSw; (try dsimp only at hSw); go_simp; try with_reducible rfl)
            try simp only [Act.put, p9a, p9z, p9s]
            refine k9 11 ?_ (y := ?_) (h := ?_)
            rotate_left 1
            · (intro w' hSw; (try dsimp only at hSw); go_simp; try with_reducible rfl)
            try simp only [Act.put, p9a, p9z, p9s]
            refine k9 12 ?_ (y := ?_) (h := ?_)
            rotate_left 1
            · (intro w' hSw; (try dsimp only at hSw); go_simp; try with_reducible rfl)
            try simp only [Act.put, p9a, p9z, p9s]
            refine k9 13 ?_ (y := ?_) (h := ?_)
            rotate_left 1
            · (intro w' hSw; (try dsimp only at hSw); go_simp; try with_reducible rfl)
            try simp only [Act.put, p9a, p9z, p9s]
            refine k9 14 ?_ (y := ?_) (h := ?_)
            rotate_left 1
            · (intro w' hSw; (try dsimp only at hSw); go_simp; try with_reducible rfl)
            try simp only [Act.put, p9a, p9z, p9s]
            refine k9 15 ?_ (y := ?_) (h := ?_)
            rotate_left 1
            · (intro w' hSw; (try dsimp only at hSw); go_simp; try with_reducible rfl)
            try simp only [Act.put, p9a, p9z, p9s]
            refine k9 16 ?_ (y := ?_) (h := ?_)
            rotate_left 1
            · (intro w' hSw; (try dsimp only at hSw); go_simp; try with_reducible rfl)
            try simp only [Act.put, p9a, p9z, p9s]
            refine k9 17 ?_ (y := ?_) (h := ?_)
            rotate_left 1
            · (intro w' hSw; (try dsimp only at hSw); go_simp; try with_reducible rfl)
            try simp only [Act.put, p9a, p9z, p9s]
            refine k9 18 ?_ (y := ?_) (h := ?_)
            rotate_left 1
            · (intro w' hSw; (try dsimp only at hSw); go_simp; try with_reducible rfl)
            try simp only [Act.put, p9a, p9z, p9s]
            refine k9 22 ?_ (y := ?_) (h := ?_)
            rotate_left 1
            · (intro w' hSw; (try dsimp only at hSw); go_simp; try with_reducible rfl)
            try simp only [Act.put, p9a, p9z, p9s]
            refine k9 24 ?_ (y := ?_) (h := ?_)
            rotate_left 1
            · (intro w' hSw; (try dsimp only at hSw); go_simp; try with_reducible rfl)
            try simp only [Act.put, p9a, p9z, p9s]
            refine k9 25 ?_ (y := ?_) (h := ?_)
            rotate_left 1
            · (intro w' hSw; (try dsimp only at hSw); go_simp; try with_reducible rfl)
            try simp only [Act.put, p9a, p9z, p9s]
            refine wpAnyH_ready (rs := [19, 26]) (by kernel_rfl) (by simp) ?_
            refine AllReadyH.cons (by simp only [q9a, q9s, q9z]; rfl) (fun K hK => ?_) ?_
            · skip
              go_simp
              refine hK.out _ _ ?_ (fun hHeld => ?_)
              · (first | exact HK0.out | (go_split_ands; refine ⟨?_, ?_⟩ <;> assumption) | (refine ⟨(World.cell?_of_block (heap_alloc_old _ _ hblt)).trans HK0.out.1, Below.alloc HK0.out.2 (Nat.le_refl _) _⟩))
              clear hK K
              try simp only [Act.put, p9a, p9z, p9s]
              refine wpAnyH_ready (rs := [20, 26]) (by kernel_rfl) (by simp) ?_
              refine AllReadyH.cons (by simp only [q9a, q9s, q9z]; rfl) (fun K hK => ?_) ?_
              · skip
                go_simp
                refine hK.out _ _ ?_ (fun hHeld => ?_)
                · (first | exact HK0.out | (go_split_ands; refine ⟨?_, ?_⟩ <;> assumption) | (refine ⟨(World.cell?_of_block (heap_alloc_old _ _ hblt)).trans HK0.out.1, Below.alloc HK0.out.2 (Nat.le_refl _) _⟩))
                clear hK K
                try simp only [Act.put, p9a, p9z, p9s]
                refine k9 21 ?_ (y := ?_) (h := ?_)
                rotate_left 1
                · (intro w' hSw; (try dsimp only at hSw); go_simp; try with_reducible rfl)
                try simp only [Act.put, p9a, p9z, p9s]
                refine k9 23 ?_ (y := ?_) (h := ?_)
                rotate_left 1
                · (intro w' hSw; (try dsimp only at hSw); go_simp; try with_reducible rfl)
                try simp only [Act.put, p9a, p9z, p9s]
                refine wpAnyH_ready (rs := [26]) (by kernel_rfl) (by simp) ?_
                refine AllReadyH.cons (by simp only [q9a, q9s, q9z]; rfl) (fun K hK => ?_) AllReadyH.nil
                go_simp
                (go_at_call 56; (with_reducible refine (H1.out _).mono ?_); rintro e w2 ⟨rfl, rfl⟩)
                go_wp2_with fail
                refine hK.out _ _ ?_ (fun hHeld => ?_)
                · (first | exact HK0.out | (go_split_ands; refine ⟨?_, ?_⟩ <;> assumption) | (refine ⟨(World.cell?_of_block (heap_alloc_old _ _ hblt)).trans HK0.out.1, Below.alloc HK0.out.2 (Nat.le_refl _) _⟩))
                clear hK K
                try simp only [Act.put, p9a, p9z, p9s]
                refine wpAnyH_ready (rs := [27]) (by kernel_rfl) (by simp) ?_
                refine AllReadyH.cons (by simp only [q9a, q9s, q9z]; rfl) (fun K hK => ?_) AllReadyH.nil
                go_simp
                (go_at_call 111; (with_reducible refine (H2.out _).mono ?_); rintro e w2 ⟨rfl, rfl⟩)
                go_wp2_with fail
                refine hK.out _ _ ?_ (fun hHeld => ?_)
                · (first | exact HK0.out | (go_split_ands; refine ⟨?_, ?_⟩ <;> assumption) | (refine ⟨(World.cell?_of_block (heap_alloc_old _ _ hblt)).trans HK0.out.1, Below.alloc HK0.out.2 (Nat.le_refl _) _⟩))
                clear hK K
                try simp only [Act.put, p9a, p9z, p9s]
                refine k9 28 ?_ (y := ?_) (h := ?_)
                rotate_left 1
                · (intro w' hSw; (try dsimp only at hSw); go_simp; try with_reducible rfl)
                try simp only [Act.put, p9a, p9z, p9s]
                refine k9 29 ?_ (y := ?_) (h := ?_)
                rotate_left 1
                · (intro w' hSw; (try dsimp only at hSw); go_simp; try with_reducible rfl)
                try simp only [Act.put, p9a, p9z, p9s]
                refine wpAnyH_done (by kernel_rfl) ?_ _
                refine NoPanic.normal ?_
                clear hHeld
                go_wp2_with fail
                go_roundw
                case rel => exact ⟨k + 1, by omega, by go_num, by rw [HY.out], HU2, HBW.out _ (Below.alloc (Below.refl wr.heap.size wr) (Nat.le_refl _) _).drew⟩
                case measure => simp [intOf]; omega
              refine AllReadyH.cons (by simp only [q9a, q9s, q9z]; rfl) (fun K hK => ?_) AllReadyH.nil
              go_simp
              (go_at_call 56; (with_reducible refine (H1.out _).mono ?_); rintro e w2 ⟨rfl, rfl⟩)
              go_wp2_with fail
              refine hK.out _ _ ?_ (fun hHeld => ?_)
              · (first | exact HK0.out | (go_split_ands; refine ⟨?_, ?_⟩ <;> assumption) | (refine ⟨(World.cell?_of_block (heap_alloc_old _ _ hblt)).trans HK0.out.1, Below.alloc HK0.out.2 (Nat.le_refl _) _⟩))
              clear hK K
              try simp only [Act.put, p9a, p9z, p9s]
              refine wpAnyH_ready (rs := [20, 27]) (by kernel_rfl) (by simp) ?_
              refine AllReadyH.cons (by simp only [q9a, q9s, q9z]; rfl) (fun K hK => ?_) ?_
              · skip
                go_simp
                refine hK.out _ _ ?_ (fun hHeld => ?_)
                · (first | exact HK0.out | (go_split_ands; refine ⟨?_, ?_⟩ <;> assumption) | (refine ⟨(World.cell?_of_block (heap_alloc_old _ _ hblt)).trans HK0.out.1, Below.alloc HK0.out.2 (Nat.le_refl _) _⟩))
                clear hK K
                try simp only [Act.put, p9a, p9z, p9s]
                refine k9 21 ?_ (y := ?_) (h := ?_)
                rotate_left 1
                · (intro w' hSw; (try dsimp only at hSw); go_simp; try with_reducible rfl)
                try simp only [Act.put, p9a, p9z, p9s]
                refine k9 23 ?_ (y := ?_) (h := ?_)
                rotate_left 1
                · (intro w' hSw; (try dsimp only at hSw); go_simp; try with_reducible rfl)
                try simp only [Act.put, p9a, p9z, p9s]
                refine wpAnyH_ready (rs := [27]) (by kernel_rfl) (by simp) ?_
                refine AllReadyH.cons (by simp only [q9a, q9s, q9z]; rfl) (fun K hK => ?_) AllReadyH.nil
                go_simp
                (go_at_call 111; (with_reducible refine (H2.out _).mono ?_); rintro e w2 ⟨rfl, rfl⟩)
                go_wp2_with fail
                refine hK.out _ _ ?_ (fun hHeld => ?_)
                · (first | exact HK0.out | (go_split_ands; refine ⟨?_, ?_⟩ <;> assumption) | (refine ⟨(World.cell?_of_block (heap_alloc_old _ _ hblt)).trans HK0.out.1, Below.alloc HK0.out.2 (Nat.le_refl _) _⟩))
                clear hK K
                try simp only [Act.put, p9a, p9z, p9s]
                refine k9 28 ?_ (y := ?_) (h := ?_)
                rotate_left 1
                · (intro w' hSw; (try dsimp only at hSw); go_simp; try with_reducible rfl)
                try simp only [Act.put, p9a, p9z, p9s]
                refine k9 29 ?_ (y := ?_) (h := ?_)
                rotate_left 1
                · (intro w' hSw; (try dsimp only at hSw); go_simp; try with_reducible rfl)
                try simp only [Act.put, p9a, p9z, p9s]
                refine wpAnyH_done (by kernel_rfl) ?_ _
                refine NoPanic.normal ?_
                clear hHeld
                go_wp2_with fail
                go_roundw
                case rel => exact ⟨k + 1, by omega, by go_num, by rw [HY.out], HU2, HBW.out _ (Below.alloc (Below.refl wr.heap.size wr) (Nat.le_refl _) _).drew⟩
                case measure => simp [intOf]; omega
              refine AllReadyH.cons (by simp only [q9a, q9s, q9z]; rfl) (fun K hK => ?_) AllReadyH.nil
              go_simp
              (go_at_call 111; (with_reducible refine (H2.out _).mono ?_); rintro e w2 ⟨rfl, rfl⟩)
              go_wp2_with fail
              refine hK.out _ _ ?_ (fun hHeld => ?_)
              · (first | exact HK0.out | (go_split_ands; refine ⟨?_, ?_⟩ <;> assumption) | (refine ⟨(World.cell?_of_block (heap_alloc_old _ _ hblt)).trans HK0.out.1, Below.alloc HK0.out.2 (Nat.le_refl _) _⟩))
              clear hK K
              try simp only [Act.put, p9a, p9z, p9s]
              refine wpAnyH_ready (rs := [20]) (by kernel_rfl) (by simp) ?_
              refine AllReadyH.cons (by simp only [q9a, q9s, q9z]; rfl) (fun K hK => ?_) AllReadyH.nil
              go_simp
              refine hK.out _ _ ?_ (fun hHeld => ?_)
              · (first | exact HK0.out | (go_split_ands; refine ⟨?_, ?_⟩ <;> assumption) | (refine ⟨(World.cell?_of_block (heap_alloc_old _ _ hblt)).trans HK0.out.1, Below.alloc HK0.out.2 (Nat.le_refl _) _⟩))
              clear hK K
              try simp only [Act.put, p9a, p9z, p9s]
              refine k9 21 ?_ (y := ?_) (h := ?_)
              rotate_left 1
              · (intro w' hSw; (try dsimp only at hSw); go_simp; try with_reducible rfl)
              try simp only [Act.put, p9a, p9z, p9s]
              refine k9 23 ?_ (y := ?_) (h := ?_)
              rotate_left 1
              · (intro w' hSw; (try dsimp only at hSw); go_simp; try with_reducible rfl)
              try simp only [Act.put, p9a, p9z, p9s]
              refine k9 28 ?_ (y := ?_) (h := ?_)
              rotate_left 1
              · (intro w' hSw; (try dsimp only at hSw); go_simp; try with_reducible rfl)
              try simp only [Act.put, p9a, p9z, p9s]
              refine k9 29 ?_ (y := ?_) (h := ?_)
              rotate_left 1
              · (intro w' hSw; (try dsimp only at hSw); go_simp; try with_reducible rfl)
              try simp only [Act.put, p9a, p9z, p9s]
              refine wpAnyH_done (by kernel_rfl) ?_ _
              refine NoPanic.normal ?_
              clear hHeld
              go_wp2_with fail
              go_roundw
              case rel => exact ⟨k + 1, by omega, by go_num, by rw [HY.out], HU2, HBW.out _ (Below.alloc (Below.refl wr.heap.size wr) (Nat.le_refl _) _).drew⟩
              case measure => simp [intOf]; omega
            refine AllReadyH.cons (by simp only [q9a, q9s, q9z]; rfl) (fun K hK => ?_) AllReadyH.nil
            go_simp
            (go_at_call 56; (with_reducible refine (H1.out _).mono ?_); rintro e w2 ⟨rfl, rfl⟩)
            go_wp2_with fail
            refine hK.out _ _ ?_ (fun hHeld => ?_)
            · (first | exact HK0.out | (go_split_ands; refine ⟨?_, ?_⟩ <;> assumption) | (refine ⟨(World.cell?_of_block (heap_alloc_old _ _ hblt)).trans HK0.out.1, Below.alloc HK0.out.2 (Nat.le_refl _) _⟩))
            clear hK K
            try simp only [Act.put, p9a, p9z, p9s]
            refine wpAnyH_ready (rs := [19, 27]) (by kernel_rfl) (by simp) ?_
            refine AllReadyH.cons (by simp only [q9a, q9s, q9z]; rfl) (fun K hK => ?_) ?_
            · skip
              go_simp
              refine hK.out _ _ ?_ (fun hHeld => ?_)
              · (first | exact HK0.out | (go_split_ands; refine ⟨?_, ?_⟩ <;> assumption) | (refine ⟨(World.cell?_of_block (heap_alloc_old _ _ hblt)).trans HK0.out.1, Below.alloc HK0.out.2 (Nat.le_refl _) _⟩))
              clear hK K
              try simp only [Act.put, p9a, p9z, p9s]
              refine wpAnyH_ready (rs := [20, 27]) (by kernel_rfl) (by simp) ?_
              refine AllReadyH.cons (by simp only [q9a, q9s, q9z]; rfl) (fun K hK => ?_) ?_
              · skip
                go_simp
                refine hK.out _ _ ?_ (fun hHeld => ?_)
                · (first | exact HK0.out | (go_split_ands; refine ⟨?_, ?_⟩ <;> assumption) | (refine ⟨(World.cell?_of_block (heap_alloc_old _ _ hblt)).trans HK0.out.1, Below.alloc HK0.out.2 (Nat.le_refl _) _⟩))
                clear hK K
                try simp only [Act.put, p9a, p9z, p9s]
                refine k9 21 ?_ (y := ?_) (h := ?_)
                rotate_left 1
                · (intro w' hSw; (try dsimp only at hSw); go_simp; try with_reducible rfl)
                try simp only [Act.put, p9a, p9z, p9s]
                refine k9 23 ?_ (y := ?_) (h := ?_)
                rotate_left 1
                · (intro w' hSw; (try dsimp only at hSw); go_simp; try with_reducible rfl)
                try simp only [Act.put, p9a, p9z, p9s]
                refine wpAnyH_ready (rs := [27]) (by kernel_rfl) (by simp) ?_
                refine AllReadyH.cons (by simp only [q9a, q9s, q9z]; rfl) (fun K hK => ?_) AllReadyH.nil
                go_simp
                (go_at_call 111; (with_reducible refine (H2.out _).mono ?_); rintro e w2 ⟨rfl, rfl⟩)
                go_wp2_with fail
                refine hK.out _ _ ?_ (fun hHeld => ?_)
                · (first | exact HK0.out | (go_split_ands; refine ⟨?_, ?_⟩ <;> assumption) | (refine ⟨(World.cell?_of_block (heap_alloc_old _ _ hblt)).trans HK0.out.1, Below.alloc HK0.out.2 (Nat.le_refl _) _⟩))
                clear hK K
                try simp only [Act.put, p9a, p9z, p9s]
                refine k9 28 ?_ (y := ?_) (h := ?_)
                rotate_left 1
                · (intro w' hSw; (try dsimp only at hSw); go_simp; try with_reducible rfl)
                try simp only [Act.put, p9a, p9z, p9s]
                refine k9 29 ?_ (y := ?_) (h := ?_)
                rotate_left 1
                · (intro w' hSw; (try dsimp only at hSw); go_simp; try with_reducible rfl)
                try simp only [Act.put, p9a, p9z, p9s]
                refine wpAnyH_done (by kernel_rfl) ?_ _
                refine NoPanic.normal ?_
                clear hHeld
                go_wp2_with fail
                go_roundw
                case rel => exact ⟨k + 1, by omega, by go_num, by rw [HY.out], HU2, HBW.out _ (Below.alloc (Below.refl wr.heap.size wr) (Nat.le_refl _) _).drew⟩
                case measure => simp [intOf]; omega
              refine AllReadyH.cons (by simp only [q9a, q9s, q9z]; rfl) (fun K hK => ?_) AllReadyH.nil
              go_simp
              (go_at_call 111; (with_reducible refine (H2.out _).mono ?_); rintro e w2 ⟨rfl, rfl⟩)
              go_wp2_with fail
              refine hK.out _ _ ?_ (fun hHeld => ?_)
              · (first | exact HK0.out | (go_split_ands; refine ⟨?_, ?_⟩ <;> assumption) | (refine ⟨(World.cell?_of_block (heap_alloc_old _ _ hblt)).trans HK0.out.1, Below.alloc HK0.out.2 (Nat.le_refl _) _⟩))
              clear hK K
              try simp only [Act.put, p9a, p9z, p9s]
              refine wpAnyH_ready (rs := [20]) (by kernel_rfl) (by simp) ?_
              refine AllReadyH.cons (by simp only [q9a, q9s, q9z]; rfl) (fun K hK => ?_) AllReadyH.nil
              go_simp
              refine hK.out _ _ ?_ (fun hHeld => ?_)
              · (first | exact HK0.out | (go_split_ands; refine ⟨?_, ?_⟩ <;> assumption) | (refine ⟨(World.cell?_of_block (heap_alloc_old _ _ hblt)).trans HK0.out.1, Below.alloc HK0.out.2 (Nat.le_refl _) _⟩))
              clear hK K
              try simp only [Act.put, p9a, p9z, p9s]
              refine k9 21 ?_ (y := ?_) (h := ?_)
              rotate_left 1
              · (intro w' hSw; (try dsimp only at hSw); go_simp; try with_reducible rfl)
              try simp only [Act.put, p9a, p9z, p9s]
              refine k9 23 ?_ (y := ?_) (h := ?_)
              rotate_left 1
              · (intro w' hSw; (try dsimp only at hSw); go_simp; try with_reducible rfl)
              try simp only [Act.put, p9a, p9z, p9s]
              refine k9 28 ?_ (y := ?_) (h := ?_)
              rotate_left 1
              · (intro w' hSw; (try dsimp only at hSw); go_simp; try with_reducible rfl)
              try simp only [Act.put, p9a, p9z, p9s]
              refine k9 29 ?_ (y := ?_) (h := ?_)
              rotate_left 1
              · (intro w' hSw; (try dsimp only at hSw); go_simp; try with_reducible rfl)
              try simp only [Act.put, p9a, p9z, p9s]
              refine wpAnyH_done (by kernel_rfl) ?_ _
              refine NoPanic.normal ?_
              clear hHeld
              go_wp2_with fail
              go_roundw
              case rel => exact ⟨k + 1, by omega, by go_num, by rw [HY.out], HU2, HBW.out _ (Below.alloc (Below.refl wr.heap.size wr) (Nat.le_refl _) _).drew⟩
              case measure => simp [intOf]; omega
            refine AllReadyH.cons (by simp only [q9a, q9s, q9z]; rfl) (fun K hK => ?_) AllReadyH.nil
            go_simp
            (go_at_call 111; (with_reducible refine (H2.out _).mono ?_); rintro e w2 ⟨rfl, rfl⟩)
            go_wp2_with fail
            refine hK.out _ _ ?_ (fun hHeld => ?_)
            · (first | exact HK0.out | (go_split_ands; refine ⟨?_, ?_⟩ <;> assumption) | (refine ⟨(World.cell?_of_block (heap_alloc_old _ _ hblt)).trans HK0.out.1, Below.alloc HK0.out.2 (Nat.le_refl _) _⟩))
            clear hK K
            try simp only [Act.put, p9a, p9z, p9s]
            refine wpAnyH_ready (rs := [19]) (by kernel_rfl) (by simp) ?_
            refine AllReadyH.cons (by simp only [q9a, q9s, q9z]; rfl) (fun K hK => ?_) AllReadyH.nil
            go_simp
            refine hK.out _ _ ?_ (fun hHeld => ?_)
            · (first | exact HK0.out | (go_split_ands; refine ⟨?_, ?_⟩ <;> assumption) | (refine ⟨(World.cell?_of_block (heap_alloc_old _ _ hblt)).trans HK0.out.1, Below.alloc HK0.out.2 (Nat.le_refl _) _⟩))
            clear hK K
            try simp only [Act.put, p9a, p9z, p9s]
            refine wpAnyH_ready (rs := [20]) (by kernel_rfl) (by simp) ?_
            refine AllReadyH.cons (by simp only [q9a, q9s, q9z]; rfl) (fun K hK => ?_) AllReadyH.nil
            go_simp
            refine hK.out _ _ ?_ (fun hHeld => ?_)
            · (first | exact HK0.out | (go_split_ands; refine ⟨?_, ?_⟩ <;> assumption) | (refine ⟨(World.cell?_of_block (heap_alloc_old _ _ hblt)).trans HK0.out.1, Below.alloc HK0.out.2 (Nat.le_refl _) _⟩))
            clear hK K
            try simp only [Act.put, p9a, p9z, p9s]
            refine k9 21 ?_ (y := ?_) (h := ?_)
            rotate_left 1
            · (intro w' hSw; (try dsimp only at hSw); go_simp; try with_reducible rfl)
            try simp only [Act.put, p9a, p9z, p9s]
            refine k9 23 ?_ (y := ?_) (h := ?_)
            rotate_left 1
            · (intro w' hSw; (try dsimp only at hSw); go_simp; try with_reducible rfl)
            try simp only [Act.put, p9a, p9z, p9s]
            refine k9 28 ?_ (y := ?_) (h := ?_)
            rotate_left 1
            · (intro w' hSw; (try dsimp only at hSw); go_simp; try with_reducible rfl)
            try simp only [Act.put, p9a, p9z, p9s]
            refine k9 29 ?_ (y := ?_) (h := ?_)
            rotate_left 1
            · (intro w' hSw; (try dsimp only at hSw); go_simp; try with_reducible rfl)
            try simp only [Act.put, p9a, p9z, p9s]
            refine wpAnyH_done (by kernel_rfl) ?_ _
            refine NoPanic.normal ?_
            clear hHeld
            go_wp2_with fail
            go_roundw
            case rel => exact ⟨k + 1, by omega, by go_num, by rw [HY.out], HU2, HBW.out _ (Below.alloc (Below.refl wr.heap.size wr) (Nat.le_refl _) _).drew⟩
            case measure => simp [intOf]; omega
        · obtain rfl : k = l.length := by omega
          rw [HE2.out] at HF2
          rw [HL.out]
          have HB3 := Lib.hid hbr
          have hsz : (⟨(rowL l).toArray⟩ : ByteArray).size = (rowL l).length := by simp [ByteArray.size]
          by_cases hbig : 4000 < (rowL l).length
          · obtain rfl := HG.out HF1.out HF2.out hbig
            have h3 : (4000 : Int) < ((⟨(rowL l).toArray⟩ : ByteArray).size : Int) := by omega
            generalize (⟨(rowL l).toArray⟩ : ByteArray) = y at *
            clear hbr hsz hbig
            go_wp2_with fail
            go_ret2
            exact ⟨rfl, HB3.out⟩
          · have hR := HF.out HF1.out HF2.out hbig
            have h3 : ¬ (4000 : Int) < ((⟨(rowL l).toArray⟩ : ByteArray).size : Int) := by omega
            generalize (⟨(rowL l).toArray⟩ : ByteArray) = y at *
            subst hR
            clear hbr hsz hbig
            go_wp2_with fail
            go_ret2
            exact ⟨rfl, HB3.out⟩
end Go.Proofs.YtlbaockipeojhaaGreat
