/-
  Package sent: what is given up: contract.
-/
import Derived.Test.YtpgdofhnpiefjaaSc
namespace Go.Proofs.Ytpgdofhnpiefjaa
open Go.RowKit
set_option linter.unusedVariables false
set_option linter.unusedSimpArgs false
set_option maxRecDepth 100000

theorem freshE_of {w : World} {B n : Nat} {T : TypeId} {v : Value} {xs : List Value} (h : OwnG w B T 1 v n xs) : Fresh B v := by
  intro a n' c' e
  subst e
  rcases h.2 with ⟨e, _⟩ | ⟨g, cap2, cur, fz, e, hb, _⟩
  · cases e
  · cases e; exact hb
theorem own_lt {w : World} {B size n cap : Nat} {T : TypeId} {A : Option Addr} {xs : List Value} (h : w.ownsRow B T size (.slice A n cap) n xs) : ∀ a, A = some a → a.block < w.heap.size := by
  intro a e
  subst e
  rcases h.2 with ⟨e, _⟩ | ⟨g, cap2, cur, e, hb, hh, _⟩
  · cases e
  · cases e; exact (Array.getElem?_eq_some_iff.1 hh).1
theorem lose_at (g cap n i : Nat) (l : List Pc) (x : Pc) (hi : i < n) (hx : l[i]? = some x) (w : World) (h : OwnS w g 58 cap n l) : Calls Try.prog 25 #[.pointer (some ⟨g, i * 7, none⟩)] w fun e w' => e = .returned (.tuple #[]) ∧ OwnS w' g 58 cap n (l.set i (lostX x)) ∧ w.grownBy w' (some g) := by
  have e : l[i]'(by rw [h.len]; exact hi) = x := (List.getElem?_eq_some_iff.1 hx).2
  have h2 := lose_any g cap n i l hi w h
  rw [e] at h2
  exact h2
theorem OwnS.rangeq {W : World} {g cap n i : Nat} {T : TypeId} {l : List Pc} {x : Pc} (h : OwnS W g T cap n l) (hi : i < n) (hx : l[i]? = some x) : W.rangeAt g (i * 7) (cellsPc x).toList := by
  have e : l[i]'(by rw [h.len]; exact hi) = x := (List.getElem?_eq_some_iff.1 hx).2
  rw [← e]
  exact h.range hi
theorem OwnS.cellq {W : World} {g cap n i : Nat} {T : TypeId} {l : List Pc} {x : Pc} (h : OwnS W g T cap n l) (hi : i < n) (hx : l[i]? = some x) (k : Nat) (v : Value) (hk : k < 7) (hv : (cellsPc x)[k]? = some v) : W.cell? ⟨g, i * 7 + k, none⟩ = some v := by
  have e : l[i]'(by rw [h.len]; exact hi) = x := (List.getElem?_eq_some_iff.1 hx).2
  refine h.cell hi k v hk ?_
  rw [e]
  exact hv
theorem mix_atq (f : Pc → Pc) (l : List Pc) (j : Nat) (h : j < l.length) : (mixL f l j)[j]? = some l[j] := by
  have h' : j < (mixL f l j).length := by rw [mix_len f l j (by omega)]; exact h
  rw [List.getElem?_eq_getElem h', mix_at f l j h h']
theorem mix_setq (f : Pc → Pc) (l : List Pc) (j : Nat) (h : j < l.length) : (mixL f l (j + 1))[j]? = some (f l[j]) := by
  rw [← mix_next f l j h, List.getElem?_set_self (by rw [mix_len f l j (by omega)]; exact h)]
set_option maxHeartbeats 2000000 in
theorem drop_any (c : UInt32) (l : List Pc) (p : Int) (hl : l.length ≤ 1000) (v : Value) (w : World) (h : RowP w v l) :
    Calls Try.prog 10 #[.agg #[.int .u32 (c.toNat : Int), v], .int .i64 p] w fun e w' => ∃ A k A' k', e = .returned (.tuple #[.agg #[.int .u32 (c.toNat : Int), .slice A l.length k], .slice A' (dropN p l).length k']) ∧ RowP w' (.slice A l.length k) (dropL p l) ∧ Fresh w.heap.size (.slice A l.length k) ∧ RowE enc32 w' (.slice A' (dropN p l).length k') (dropN p l) ∧ Fresh w.heap.size (.slice A' (dropN p l).length k') ∧ Below w.heap.size w w' := by
  obtain ⟨W, hW, HA, HZ, HB, hs⟩ := two_open w 27 27 #[.int .u32 (c.toNat : Int), v] #[.int .u32 0, .slice none 0 0]
  have HC := Lib.hid (copied_any c l (by omega) v W (h.below HB.out))
  obtain ⟨A, cap, rfl, _, hmx, _⟩ := id h
  have HOUT := Lib.hid (fun x W => out_any x p W)
  have HEND := Lib.hid (show dropN p (l.take l.length) = dropN p l by rw [List.take_length])
  have HST := Lib.hid (show dropN p (l.take 0) = [] from rfl)
  have HM0 := Lib.hid (mix_0 (dropX p) l)
  have HM := Lib.hid (show mixL (dropX p) l l.length = dropL p l from mix_all (dropX p) l)
  obtain ⟨i0, hi0, hz0, hz1, hz2⟩ := info_parts infoUZ
  have HI := Lib.hid hi0
  have HZ0 := Lib.hid hz0
  have HZ1 := Lib.hid hz1
  have HZ2 := Lib.hid hz2
  clear h hi0 hz0 hz1 hz2
  go_enter Try.func10, Try.ntmps10
  go_wp2_with (first
    | ((with_reducible refine gate9 ?_); refine ldB rfl rfl rfl HA.out Try.underlying27 rfl infoS ?_))
  refine HC.out.mono ?_
  rintro e w1 ⟨A1, k1, rfl, hown, hb⟩
  replace HZ := Lib.hid (HZ.out.later hb)
  replace HB := Lib.hid (HB.out.trans (hb.mono (by omega)))
  have HO := Lib.hid (OwnV.of_own (own_base hown (show w.heap.size + 2 ≤ W.heap.size by omega)))
  have hsw1 : w.heap.size + 2 ≤ w1.heap.size := by have := hb.size; omega
  have HLT := Lib.hid (own_lt hown)
  clear hb hown HC HA hW hs
  obtain ⟨W6, hW6, HZ6, HB6, hs6⟩ := one_open w1 27 #[.int .u32 0, .slice none 0 0]
  obtain ⟨g6, hg6⟩ : ∃ g, w1.heap.size = g := ⟨_, rfl⟩
  rw [hg6] at HZ6 hsw1 hs6 HLT
  replace HO := Lib.hid (HO.out.later HB6.out)
  replace HZ := Lib.hid (HZ.out.later HB6.out)
  replace HB := Lib.hid (HB.out.trans (HB6.out.mono HB.out.size))
  clear HB6
  go_wp2_with (first
    | ((with_reducible refine gate9 ?_); refine stB (ty := 27) #[.int .u32 (c.toNat : Int), .slice A1 l.length k1] rfl rfl rfl rfl HZ6.out infoS rfl (cellsS_one _ _ _ _) ?_; intro w7 ht hg; replace HO := Lib.hid (HO.out.grown hg (fun k e _ => by intro e2; cases e2; have := HLT.out _ e; simp at this)); replace HZ := Lib.hid (HZ.out.kept hg (by omega)); replace HB := Lib.hid (below_of_grown1 HB.out hg HB.out.size (by omega)); replace HZ6 := Lib.hid ht; clear ht hg; have c61 := HZ6.out.cell 1 (.slice A1 l.length k1) rfl))
  clear hW6 hs6
  have hg67 := HZ6.out.lt
  go_loopw [7, 15] (fun s i wr => ∃ (j : Nat) (A2 : Option Addr) (k2 : Nat), j ≤ l.length ∧ s = .slice A2 (dropN p (l.take j)).length k2 ∧ i = .int .i64 j ∧ Hid (OwnV wr (w.heap.size + 2) 58 A1 k1 l.length (mixL (dropX p) l j)) ∧ Hid (OwnG wr w7.heap.size 22 1 (.slice A2 (dropN p (l.take j)).length k2) (dropN p (l.take j)).length ((dropN p (l.take j)).map enc32)) ∧ Hid (Ch (fun k => A1 = some ⟨k, 0, none⟩) w7 wr))
    (fun _ i _ => l.length - (intOf i).toNat)
  case atStart => exact ⟨0, none, 0, Nat.zero_le _, by rw [HST.out]; rfl, rfl, Lib.hid (by rw [HM0.out]; exact HO.out), Lib.hid (OwnG.nil _ _ _ _), Lib.hid (Ch.refl _ _)⟩
  case round =>
    clear c61 HO
    obtain ⟨j, A2, k2, hj, rfl, rfl, HO, HO2, HC3⟩ := hrel
    by_cases hlt : j < l.length
    · have hml := mix_len (dropX p) l j hj
      obtain ⟨g, rfl, hgB, hgl, hos⟩ := HO.out.low (by omega)
      have hgg6 : g < g6 := HLT.out _ rfl
      have HS := Lib.hid hos
      clear hos hgl
      have HXX := Lib.hid (mix_atq (dropX p) l j hlt)
      have HRG := Lib.hid (HS.out.rangeq hlt HXX.out)
      have HNX9 := Lib.hid (mix_next (dropX p) l j hlt)
      have HNT := Lib.hid (dropN_take p l j hlt)
      have hln := dropN_le p l j
      have HLS := Lib.hid (fun W h => lose_at g k1 l.length j (mixL (dropX p) l j) _ hlt HXX.out W h)
      have c61 := (HZ6.out.ch HC3.out (by intro e; cases e; omega)).cell 1 (.slice (some ⟨g, 0, none⟩) l.length k1) rfl
      have q1 : (0 : Int) ≤ (j : Int) := by omega
      have q2 : (j : Int) < (l.length : Int) := by omega
      have q3 : (l.length : Int) ≤ 1000 := by omega
      have hws := HC3.out.size
      cases hbo : outB p l[j] with
      | true =>
        have HBO := Lib.hid hbo
        have hdx : dropX p l[j] = lostX l[j] := by unfold dropX; rw [if_pos hbo]
        have HNX : Hid ((mixL (dropX p) l j).set j (lostX l[j]) = mixL (dropX p) l (j + 1)) := Lib.hid (by rw [← HNX9.out, hdx])
        have HT0 : Hid (∀ W, OwnS W g 58 k1 l.length (mixL (dropX p) l (j + 1)) → W.cell? ⟨g, j * 7, none⟩ = some (.int .u32 (l[j].ts.toNat : Int))) := Lib.hid (fun W h => by
          have h9 := h.cellq hlt (mix_setq (dropX p) l j hlt) 0 (.int .u32 (l[j].ts.toNat : Int)) (by decide) (by rw [hdx]; rfl)
          simpa using h9)
        clear hdx
        replace HNT : Hid (dropN p (l.take (j + 1)) = dropN p (l.take j) ++ [l[j].ts]) := Lib.hid (by rw [HNT.out, if_pos hbo])
        clear hbo HXX HNX9 HO hml
        generalize hts : l[j].ts = tt at *
        generalize ht9 : tt.toNat = t at *
        generalize l[j] = x at *
        generalize dropN p (l.take j) = m at *
        go_wp2_with (first
          | ((with_reducible refine gate9 ?_); refine ldPc (ty := 58) rfl rfl rfl HRG.out Try.underlying58 rfl infoP ?_)
          | (go_at_call 17; (with_reducible refine (HOUT.out _ _).mono ?_); rintro e w4 ⟨rfl, hb5⟩; (try rw [HBO.out]); replace HS := Lib.hid (HS.out.later hb5); replace HC3 := Lib.hid (HC3.out.below hb5); have HO3 := Lib.hid (HO2.out.later hb5); have hs4 := hb5.size; clear hb5)
          | (go_at_call 25; (with_reducible refine (HLS.out _ HS.out).mono ?_); rintro e w5 ⟨rfl, hs9, hg5⟩; rw [HNX.out] at hs9; replace HS := Lib.hid hs9; clear hs9; replace HO3 := Lib.hid (HO3.out.keep (fun k hk => hg5.block k (HO3.out.lt k hk).2 (by intro e; cases e; have := (HO3.out.lt _ hk).1; omega))); replace HC3 := Lib.hid (HC3.out.grown hg5 (fun k hk _ => by cases hk; rfl)); have hs5 := hg5.size; have t0 := HT0.out _ HS.out; clear hg5)
          | (at_builtin; refine wpList_append_fed _ rfl (.tmp 29) (.tmp 34) 39 39 rfl w7.heap.size 22 i0 _ 1 4 Try.underlying39 (.inr ⟨_, Try.underlying39⟩) HI.out HZ0.out HZ1.out HZ2.out rfl _ _ _ rfl (HO3.out.alloc _) _ 1 [.int .u32 (t : Int)] rfl (Fed.block (heap_alloc_new _ _) rfl (one_u32 _)) (by unfold maxLen; omega) (by omega) (by simp; omega) ?_; intro v8 w8 hown hgr; have HS8 := Lib.hid ((HS.out.later (below_one _ _)).same (hgr.block g (by have := HS.out.lt; simp; omega) (fun e => by have := (HO3.out.lt g e.symm).1; omega))); have HC8 := Lib.hid ((HC3.out.below (below_one _ _)).grown hgr (fun k hk hk2 => by have := (HO3.out.lt k hk).1; omega))))
        go_roundw
        case rel =>
          rw [← ht9] at hown
          obtain ⟨A4, k4, rfl, ho4⟩ := own_snoc tt hown
          exact ⟨j + 1, A4, k4, by omega, by rw [HNT.out], by go_num, Lib.hid ⟨HS8.out.len, by have := HS8.out; obtain ⟨_, _, _, h, _⟩ := this; exact h, by have := HS8.out; obtain ⟨_, _, _, _, h, _⟩ := this; exact h, fun a e => by cases e; exact hgB, fun _ => ⟨g, rfl, hgB, HS8.out⟩⟩, by rw [HNT.out]; exact Lib.hid ho4, HC8⟩
        case measure => simp [intOf]; omega
      | false =>
        have HBO := Lib.hid hbo
        have HNX : Hid (mixL (dropX p) l (j + 1) = mixL (dropX p) l j) := Lib.hid (mix_same (dropX p) l j hlt (by unfold dropX; rw [if_neg (by rw [hbo]; decide)]))
        replace HNT : Hid (dropN p (l.take (j + 1)) = dropN p (l.take j)) := Lib.hid (by rw [HNT.out, if_neg (by rw [hbo]; decide), List.append_nil])
        clear hbo HXX HNX9 hml
        generalize l[j] = x at *
        generalize dropN p (l.take j) = m at *
        go_wp2_with (first
          | ((with_reducible refine gate9 ?_); refine ldPc (ty := 58) rfl rfl rfl HRG.out Try.underlying58 rfl infoP ?_)
          | (go_at_call 17; (with_reducible refine (HOUT.out _ _).mono ?_); rintro e w4 ⟨rfl, hb5⟩; replace HO := Lib.hid (HO.out.later hb5); (try rw [HBO.out]); replace HS := Lib.hid (HS.out.later hb5); replace HC3 := Lib.hid (HC3.out.below hb5); have HO3 := Lib.hid (HO2.out.later hb5); have hs4 := hb5.size; clear hb5))
        go_roundw
        case rel => exact ⟨j + 1, A2, k2, by omega, by rw [HNT.out], by go_num, by rw [HNX.out]; exact HO, by rw [HNT.out]; exact HO3, HC3⟩
        case measure => simp [intOf]; omega
    · obtain rfl : j = l.length := by omega
      rw [HEND.out] at HO2 ⊢
      rw [HM.out] at HO
      have hn1 : ¬ (A1 = some ⟨w.heap.size + 1, 0, none⟩) := by intro e; have := HO.out.base _ e; simp at this; try omega
      have hn6 : ¬ (A1 = some ⟨g6, 0, none⟩) := by intro e; have := HLT.out _ e; simp at this
      replace HB := Lib.hid (below_ch HB.out HC3.out (by omega) (fun k e => by have := HO.out.base _ e; simp at this; try omega))
      replace HZ := Lib.hid (HZ.out.ch HC3.out hn1)
      replace HZ6 := Lib.hid (HZ6.out.ch HC3.out hn6)
      go_wp2_with (first
        | ((with_reducible refine gate9 ?_); refine ldB rfl rfl rfl HZ6.out Try.underlying27 rfl infoS ?_)
        | ((with_reducible refine gate9 ?_); refine stB (ty := 27) #[.int .u32 (c.toNat : Int), .slice A1 l.length k1] rfl rfl rfl rfl HZ.out infoS rfl (cellsS_one _ _ _ _) ?_; intro w9 ht hg; replace HO := Lib.hid (HO.out.grown hg (fun k e _ => by intro e2; cases e2; exact hn1 e)); replace HO2 := Lib.hid (HO2.out.keep (fun k hk => hg.block k (HO2.out.lt k hk).2 (by intro e; cases e; have := (HO2.out.lt _ hk).1; omega))); replace HB := Lib.hid (below_of_grown1 HB.out hg HB.out.size (by omega)); replace HZ := Lib.hid ht; clear ht hg))
      exact bodyPost_ret (retST rfl rfl rfl rfl HZ.out) rfl ⟨_, _, _, _, rfl, HO.out.row, HO.out.fresh.less (by omega), rowE_of_ownG HO2.out, (freshE_of HO2.out).less (by omega), HB.out⟩
end Go.Proofs.Ytpgdofhnpiefjaa
