/-
  The document's Bytes and Open, the program's Open: contracts.
-/
import Derived.Test.YtblepnbmjehikaaRa
namespace Go.Proofs.Ytblepnbmjehikaa
open Go.RowKit
set_option linter.unusedVariables false
set_option linter.unusedSimpArgs false
set_option maxRecDepth 100000

theorem rowU_of_ownG {w : World} {base n : Nat} {e : TypeId} {v : Value} {l : List UInt32} (h : OwnG w base e 1 v n (l.map enc32)) : RowE enc32 w v l := by
  have hl : l.length = n := by have := h.1; simpa using this
  subst hl
  rcases h.2 with ⟨rfl, h0⟩ | ⟨g, cap, cur, fz, rfl, hb, hh, h1, h2, _⟩
  · exact ⟨none, 0, by rw [h0], by omega, Nat.zero_le _, fun hp => by omega⟩
  · refine ⟨_, cap, rfl, h1, h2, fun _ => ⟨g, 0, rfl, (Array.getElem?_eq_some_iff.1 hh).1, fun j hj => ?_⟩⟩
    rw [Nat.zero_add]
    refine h.cells _ _ ?_
    rw [List.getElem?_map, List.getElem?_eq_getElem hj, getElem!_pos l j hj]
    rfl
theorem one_u32 (t : UInt32) : ∀ u ∈ ([.int .u32 (t.toNat : Int)] : List Value), u.oneCell' = true := by
  intro u hu
  rw [List.mem_singleton.1 hu]; rfl
theorem open_yes {l : List Pc} {j : Nat} (h : j < l.length) (hb : l[j].bg = true) : openL (l.take (j + 1)) = openL (l.take j) ++ [l[j].ts] := by
  unfold openL
  rw [List.take_succ_eq_append_getElem h, List.filter_append, List.map_append]
  simp [hb]
theorem open_no {l : List Pc} {j : Nat} (h : j < l.length) (hb : l[j].bg = false) : openL (l.take (j + 1)) = openL (l.take j) := by
  unfold openL
  rw [List.take_succ_eq_append_getElem h, List.filter_append, List.map_append]
  simp [hb]
theorem open_len (l : List Pc) (j : Nat) : (openL (l.take j)).length ≤ j := by
  unfold openL
  rw [List.length_map]
  exact Nat.le_trans (List.length_filter_le _ _) (by rw [List.length_take]; omega)
def OpenR (w w' : World) (e : Ending) (l : List UInt32) : Prop := ∃ A k, e = .returned (.slice A l.length k) ∧ RowE enc32 w' (.slice A l.length k) l ∧ Below w.heap.size w w'
set_option maxHeartbeats 4000000 in
theorem open_any (l : List Pc) (hl : l.length ≤ 1000) (v : Value) (w : World) (h : RowP w v l) :
    Calls Try.prog 17 #[.agg #[v]] w fun e w' => OpenR w w' e (openL l) := by
  obtain ⟨W, hW, HA, HB, hs⟩ := one_open w 32 #[v]
  have HV := Lib.hid h
  obtain ⟨A, cap, rfl, _, _, _⟩ := id h
  have c0 := HA.out.cell 0 (.slice A l.length cap) rfl
  have HFU : Hid (openL (l.take l.length) = openL l) := Lib.hid (by rw [List.take_length])
  obtain ⟨i0, hi0, hz0, hz1, hz2⟩ := info_parts infoUZ
  have HI := Lib.hid hi0
  have HZ0 := Lib.hid hz0
  have HZ1 := Lib.hid hz1
  have HZ2 := Lib.hid hz2
  clear hi0 hz0 hz1 hz2 h
  go_enter Try.func17, Try.ntmps17
  go_wp2_with fail
  clear c0 hW
  go_loopw [3, 9] (fun v3 v9 wr => ∃ (j : Nat) (acc : List UInt32) (A' : Option Addr) (c : Nat), j ≤ l.length ∧ v3 = .slice A' acc.length c ∧ v9 = .int .i64 j ∧ Hid (openL (l.take j) = acc) ∧ Hid (OwnG wr w.heap.size 36 1 (.slice A' acc.length c) acc.length (acc.map enc32)) ∧ Hid (Below w.heap.size w wr))
    (fun _ i _ => l.length - (intOf i).toNat)
  case atStart => exact ⟨0, [], none, 0, Nat.zero_le _, rfl, rfl, Lib.hid rfl, Lib.hid (OwnG.nil _ _ _ _), HB⟩
  case round =>
    clear HB HA hs
    obtain ⟨j, acc, A', c, hj, rfl, rfl, HE, HO, HW⟩ := hrel
    have hws := HW.out.size
    by_cases hlt : j < l.length
    · obtain ⟨b, off, c', e9, hb, -, -, hrg⟩ := HV.out.at hlt
      cases e9
      have HRG := Lib.hid (range_below hrg hb HW.out)
      have hal : acc.length ≤ 1000 := by have := open_len l j; rw [HE.out] at this; omega
      have HOY := Lib.hid (open_yes hlt)
      have HON := Lib.hid (open_no hlt)
      have q1 : (0 : Int) ≤ (j : Int) := by omega
      have q2 : (j : Int) < (l.length : Int) := by omega
      clear hrg
      generalize l[j] = x at *
      obtain ⟨W3, hW3, HT, HB3, hs3⟩ := one_open wr 43 #[.int .u32 0, .bool false, .bool false, .bool false, .int .u16 0, .int .u16 0, .int .u32 0, .string ⟨#[]⟩]
      cases hbg : x.bg with
      | true =>
        have HE2 : Hid (openL (l.take (j + 1)) = acc ++ [x.ts]) := Lib.hid (by rw [HOY.out hbg, HE.out])
        have HLN : Hid ((acc ++ [x.ts]).length = acc.length + 1) := Lib.hid (by simp)
        have HMP : Hid ((acc ++ [x.ts]).map enc32 = acc.map enc32 ++ [.int .u32 (x.ts.toNat : Int)]) := Lib.hid (by rw [List.map_append]; rfl)
        clear HOY HON
        go_wp2_with (first
          | ((with_reducible refine gate9 ?_); refine ldPc (ty := 43) rfl rfl rfl HRG.out Try.underlying43 rfl infoP ?_)
          | ((with_reducible refine gate9 ?_); refine stB (ty := 43) (cellsPc x) rfl rfl rfl rfl HT.out infoP rfl (cellsPc_one _) ?_; intro w4 ht hg; replace HB3 := Lib.hid (below_of_grown1 HB3.out hg HB3.out.size (Nat.le_refl _)); have t1 := (show Bx w4 wr.heap.size 43 (cellsPc x) from ht).cell 1 (.bool x.bg) rfl; rw [hbg] at t1; have t0 := (show Bx w4 wr.heap.size 43 (cellsPc x) from ht).cell 0 (.int .u32 (x.ts.toNat : Int)) rfl; replace HO := Lib.hid (HO.out.later HB3.out); replace HW := Lib.hid (HW.out.trans (HB3.out.mono hws)); replace hws := HW.out.size; clear ht hg)
          | (at_builtin; refine wpList_append_fed _ rfl (.tmp 15) (.tmp 18) 49 49 rfl w.heap.size 36 i0 _ 1 4 Try.underlying49 (.inr ⟨_, Try.underlying49⟩) HI.out HZ0.out HZ1.out HZ2.out rfl _ _ _ rfl (HO.out.alloc _) _ 1 [.int .u32 (x.ts.toNat : Int)] rfl (Fed.block (heap_alloc_new _ _) rfl (one_u32 _)) (by unfold maxLen; omega) (by omega) (by rw [World.size_alloc]; omega) ?_; intro v8 w8 hown hgr; replace HW := Lib.hid (((HW.out.alloc (by omega) _).grown hgr (by rw [World.size_alloc]; omega) (fun z hz => by have := (HO.out.lt z hz).1; omega))); obtain ⟨A8, k8, rfl, -, -, -⟩ := id hown.slice; have HO8 := Lib.hid hown; clear hown hgr))
        go_roundw
        case rel => exact ⟨j + 1, acc ++ [x.ts], A8, k8, by omega, by rw [HLN.out], by go_num, HE2, by rw [HLN.out, HMP.out]; exact HO8, HW⟩
        case measure => simp [intOf]; omega
      | false =>
        have HE2 : Hid (openL (l.take (j + 1)) = acc) := Lib.hid (by rw [HON.out hbg, HE.out])
        clear HOY HON
        go_wp2_with (first
          | ((with_reducible refine gate9 ?_); refine ldPc (ty := 43) rfl rfl rfl HRG.out Try.underlying43 rfl infoP ?_)
          | ((with_reducible refine gate9 ?_); refine stB (ty := 43) (cellsPc x) rfl rfl rfl rfl HT.out infoP rfl (cellsPc_one _) ?_; intro w4 ht hg; replace HB3 := Lib.hid (below_of_grown1 HB3.out hg HB3.out.size (Nat.le_refl _)); have t1 := (show Bx w4 wr.heap.size 43 (cellsPc x) from ht).cell 1 (.bool x.bg) rfl; rw [hbg] at t1; replace HO := Lib.hid (HO.out.later HB3.out); replace HW := Lib.hid (HW.out.trans (HB3.out.mono hws)); replace hws := HW.out.size; clear ht hg))
        go_roundw
        case rel => exact ⟨j + 1, acc, A', c, by omega, by first | rfl | trivial, by go_num, HE2, HO, HW⟩
        case measure => simp [intOf]; omega
    · obtain rfl : j = l.length := by omega
      have HE2 : Hid (openL l = acc) := Lib.hid (by rw [← HFU.out]; exact HE.out)
      go_wp2_with fail
      go_ret
      exact ⟨A', c, by rw [HE2.out]; rfl, by rw [HE2.out]; exact rowU_of_ownG HO.out, HW.out⟩
set_option maxHeartbeats 4000000 in
theorem ropen_any (l : List Pc) (hl : l.length ≤ 1000) (v : Value) (w : World) (h : RowP w v l) :
    Calls Try.prog 18 #[.agg #[v]] w fun e w' => OpenR w w' e (openL l) := by
  obtain ⟨W, hW, HA, HB, hs⟩ := one_open w 35 #[v]
  have HV := Lib.hid h
  obtain ⟨A, cap, rfl, _, _, _⟩ := id h
  have HFU : Hid (openL (l.take l.length) = openL l) := Lib.hid (by rw [List.take_length])
  obtain ⟨i0, hi0, hz0, hz1, hz2⟩ := info_parts infoUZ
  have HI := Lib.hid hi0
  have HZ0 := Lib.hid hz0
  have HZ1 := Lib.hid hz1
  have HZ2 := Lib.hid hz2
  replace HV : Hid (RowP W (.slice A l.length cap) l) := Lib.hid (RowP.below h HB.out)
  have HGW : Hid (w.heap.size ≤ W.heap.size) := Lib.hid HB.out.size
  clear hi0 hz0 hz1 hz2 h hs
  go_enter Try.func18, Try.ntmps18
  go_wp2_with fail
  clear hW
  go_loopw [3, 4] (fun v3 v9 wr => ∃ (j : Nat) (acc : List UInt32) (A' : Option Addr) (c : Nat), j ≤ l.length ∧ v3 = .slice A' acc.length c ∧ v9 = .int .i64 j ∧ Hid (openL (l.take j) = acc) ∧ Hid (OwnG wr W.heap.size 36 1 (.slice A' acc.length c) acc.length (acc.map enc32)) ∧ Hid (Below W.heap.size W wr))
    (fun _ i _ => l.length - (intOf i).toNat)
  case atStart => exact ⟨0, [], none, 0, Nat.zero_le _, rfl, rfl, Lib.hid rfl, Lib.hid (OwnG.nil _ _ _ _), Lib.hid (Below.refl _ _)⟩
  case round =>
    obtain ⟨j, acc, A', c, hj, rfl, rfl, HE, HO, HW⟩ := hrel
    have hws := HW.out.size
    have c0 := (HA.out.later HW.out).cell 0 (.slice A l.length cap) rfl
    by_cases hlt : j < l.length
    · have q1 : (0 : Int) ≤ (j : Int) := by omega
      have q2 : (j : Int) < (l.length : Int) := by omega
      have hal : acc.length ≤ 1000 := by have := open_len l j; rw [HE.out] at this; omega
      obtain ⟨b, off, c', e9, hb, -, -, hrg0⟩ := HV.out.at hlt
      cases e9
      have hrg := range_below hrg0 hb HW.out
      have e1 := hrg 1 (.bool l[j].bg) rfl
      have e0 := hrg 0 (.int .u32 (l[j].ts.toNat : Int)) rfl
      rw [Nat.add_zero] at e0
      have HOY := Lib.hid (open_yes hlt)
      have HON := Lib.hid (open_no hlt)
      clear hrg hrg0
      generalize l[j] = x at *
      cases hbg : x.bg with
      | true =>
        have HE2 : Hid (openL (l.take (j + 1)) = acc ++ [x.ts]) := Lib.hid (by rw [HOY.out hbg, HE.out])
        have HLN : Hid ((acc ++ [x.ts]).length = acc.length + 1) := Lib.hid (by simp)
        have HMP : Hid ((acc ++ [x.ts]).map enc32 = acc.map enc32 ++ [.int .u32 (x.ts.toNat : Int)]) := Lib.hid (by rw [List.map_append]; rfl)
        rw [hbg] at e1
        clear HOY HON hbg
        go_wp2_with (at_builtin; refine wpList_append_fed _ rfl (.tmp 18) (.tmp 25) 49 49 rfl W.heap.size 36 i0 _ 1 4 Try.underlying49 (.inr ⟨_, Try.underlying49⟩) HI.out HZ0.out HZ1.out HZ2.out rfl _ _ _ rfl (HO.out.alloc _) _ 1 [.int .u32 (x.ts.toNat : Int)] rfl (Fed.block (heap_alloc_new _ _) rfl (one_u32 _)) (by unfold maxLen; omega) (by omega) (by rw [World.size_alloc]; omega) ?_; intro v8 w8 hown hgr; replace HW := Lib.hid (((HW.out.alloc (by omega) _).grown hgr (by rw [World.size_alloc]; omega) (fun z hz => by have := (HO.out.lt z hz).1; omega))); obtain ⟨A8, k8, rfl, -, -, -⟩ := id hown.slice; have HO8 := Lib.hid hown; clear hown hgr)
        go_roundw
        case rel => exact ⟨j + 1, acc ++ [x.ts], A8, k8, by omega, by rw [HLN.out], by go_num, HE2, by rw [HLN.out, HMP.out]; exact HO8, HW⟩
        case measure => simp [intOf]; omega
      | false =>
        have HE2 : Hid (openL (l.take (j + 1)) = acc) := Lib.hid (by rw [HON.out hbg, HE.out])
        rw [hbg] at e1
        clear HOY HON hbg
        go_wp2_with fail
        go_roundw
        case rel => exact ⟨j + 1, acc, A', c, by omega, by first | rfl | trivial, by go_num, HE2, HO, HW⟩
        case measure => simp [intOf]; omega
    · obtain rfl : j = l.length := by omega
      have HE2 : Hid (openL l = acc) := Lib.hid (by rw [← HFU.out]; exact HE.out)
      go_wp2_with fail
      go_ret
      exact ⟨A', c, by rw [HE2.out]; rfl, by rw [HE2.out]; exact rowU_of_ownG HO.out, HB.out.trans (HW.out.mono HGW.out)⟩
set_option maxHeartbeats 1000000 in
theorem rbytes_any (l : List Pc) (hl : l.length ≤ 100000) (hz : bytesL l ≤ 1000000000) (v : Value) (w : World) (h : RowP w v l) :
    Calls Try.prog 22 #[.agg #[v]] w fun e w' => e = .returned (.int .i64 (bytesL l : Int)) ∧ Below w.heap.size w w' := by
  obtain ⟨W, hW, HA, HB, hs⟩ := one_open w 35 #[v]
  obtain ⟨A, cap, rfl, _, _, _⟩ := id h
  have c0 := HA.out.cell 0 (.slice A l.length cap) rfl
  have HV : Hid (RowP W (.slice A l.length cap) l) := Lib.hid (RowP.below h HB.out)
  have HBT := Lib.hid (bytes_take l)
  have HFU : Hid (bytesL (l.take l.length) = bytesL l) := Lib.hid (by rw [List.take_length])
  have HNX : Hid (∀ j (h : j < l.length), bytesL (l.take (j + 1)) = bytesL (l.take j) + l[j].tx.size) := Lib.hid (fun j h => by rw [List.take_succ_eq_append_getElem h, bytes_add])
  have hlI : (l.length : Int) ≤ 100000 := by omega
  clear h
  go_enter Try.func22, Try.ntmps22
  go_wp2_with fail
  clear hW
  go_loopw [3, 4] (fun s i wr => ∃ j : Nat, j ≤ l.length ∧ s = .int .i64 (bytesL (l.take j) : Int) ∧ i = .int .i64 j ∧ wr = W)
    (fun _ i _ => l.length - (intOf i).toNat)
  case atStart => exact ⟨0, Nat.zero_le _, rfl, rfl, rfl⟩
  case round =>
    obtain ⟨j, hj, rfl, rfl, rfl⟩ := hrel
    by_cases hlt : j < l.length
    · obtain ⟨b, off, c, e9, hb, -, -, hrg⟩ := HV.out.at hlt
      cases e9
      have e7 := hrg 7 (.string l[j].tx) rfl
      have hbt := HBT.out j hlt
      have hnx := HNX.out j hlt
      have q1 : (0 : Int) ≤ (j : Int) := by omega
      have q2 : (j : Int) < (l.length : Int) := by omega
      clear hrg
      generalize l[j] = x at *
      obtain ⟨u, hu⟩ : ∃ u, bytesL (l.take j) = u := ⟨_, rfl⟩
      rw [hu] at hbt hnx ⊢
      have HN := Lib.hid hnx
      have s1 : IntKind.i64.wrap ((u : Int) + (x.tx.size : Int)) = ((u + x.tx.size : Nat) : Int) := by rw [IntKind.wrap_i64]; omega
      clear hu hnx
      go_wp2_with fail
      go_roundw
      case rel => exact ⟨j + 1, by omega, (by rw [HN.out]; first | rfl | (congr 1)), by go_num, by first | rfl | trivial⟩
      case measure => simp [intOf]; omega
    · obtain rfl : j = l.length := by omega
      go_wp2_with fail
      go_ret
      exact ⟨ret_i64 (by rw [HFU.out]), HB.out⟩
end Go.Proofs.Ytblepnbmjehikaa
