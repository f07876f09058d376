/-
  Package sent: what is missed: contract.
-/
import Derived.Test.YtpgdofhnpiefjaaSi
namespace Go.Proofs.Ytpgdofhnpiefjaa
open Go.RowKit
set_option linter.unusedVariables false
set_option linter.unusedSimpArgs false
set_option maxRecDepth 100000

theorem missN_take (l : List Pc) (j : Nat) (h : j < l.length) : missN (l.take (j + 1)) = missN (l.take j) ++ if missB l[j] then [l[j].ts] else [] := by
  unfold missN
  rw [filter_take _ l j h, List.map_append]
  by_cases hf : missB l[j] = true
  · rw [if_pos hf, if_pos hf]; rfl
  · rw [if_neg hf, if_neg hf]; rfl
theorem missN_le (l : List Pc) (j : Nat) : (missN (l.take j)).length ≤ l.length := by
  unfold missN
  rw [List.length_map]
  have h1 := List.length_filter_le missB (l.take j)
  rw [List.length_take] at h1
  omega
theorem mix_self (f : Pc → Pc) (l : List Pc) (j : Nat) (h : j < l.length) : (mixL f l j).set j l[j] = mixL f l j := by
  have h' : j < (mixL f l j).length := by rw [mix_len f l j (by omega)]; exact h
  have := mix_at f l j h h'
  rw [← this, List.set_getElem_self]
theorem OwnV.putS {W' : World} {B : Nat} {T : TypeId} {cap n g : Nat} {l' : List Pc} (hg : B ≤ g) (h : OwnS W' g T cap n l') : OwnV W' B T (some ⟨g, 0, none⟩) cap n l' := by
  obtain ⟨cur, h1, h2, h3, h4, h5⟩ := id h
  exact ⟨h.len, h3, h4, fun a e => by cases e; exact hg, fun _ => ⟨g, rfl, hg, h⟩⟩
set_option maxHeartbeats 2000000 in
theorem miss_any (L : List Pc) (n m c B : Nat) (A : Option Addr) (hm : m ≤ n) (hn : n ≤ 1000) (w : World) (h : OwnV w B 58 A c n L) :
    Calls Try.prog 24 #[.slice A m c] w fun e w' => ∃ A2 k2, e = .returned (.slice A2 (missN (L.take m)).length k2) ∧ OwnV w' B 58 A c n (mixL missX L m) ∧ OwnG w' w.heap.size 22 1 (.slice A2 (missN (L.take m)).length k2) (missN (L.take m)).length ((missN (L.take m)).map enc32) ∧ Ch (fun z => A = some ⟨z, 0, none⟩) w w' := by
  have hL := h.len
  have hcap := h.le
  have hcm := h.max
  have HO := Lib.hid h
  have HST := Lib.hid (show missN (L.take 0) = [] from rfl)
  have HM0 := Lib.hid (mix_0 missX L)
  obtain ⟨i0, hi0, hz0, hz1, hz2⟩ := info_parts infoUZ
  have HI := Lib.hid hi0
  have HZ0 := Lib.hid hz0
  have HZ1 := Lib.hid hz1
  have HZ2 := Lib.hid hz2
  clear h hi0 hz0 hz1 hz2
  have hcm' : (c : Int) ≤ 9223372036854775807 := by unfold maxLen at hcm; omega
  go_enter Try.func24, Try.ntmps24
  go_wp2_with fail
  go_loopw [3, 8] (fun s i wr => ∃ (j : Nat) (A2 : Option Addr) (k2 : Nat), j ≤ m ∧ s = .slice A2 (missN (L.take j)).length k2 ∧ i = .int .i64 j ∧ Hid (OwnV wr B 58 A c n (mixL missX L j)) ∧ Hid (OwnG wr w.heap.size 22 1 (.slice A2 (missN (L.take j)).length k2) (missN (L.take j)).length ((missN (L.take j)).map enc32)) ∧ Hid (Ch (fun z => A = some ⟨z, 0, none⟩) w wr))
    (fun _ i _ => m - (intOf i).toNat)
  case atStart => exact ⟨0, none, 0, Nat.zero_le _, by rw [HST.out]; rfl, rfl, Lib.hid (by rw [HM0.out]; exact HO.out), Lib.hid (OwnG.nil _ _ _ _), Lib.hid (Ch.refl _ _)⟩
  case round =>
    have HLT0 := Lib.hid (fun (hn0 : 0 < n) => HO.out.low hn0)
    clear HO
    obtain ⟨j, A2, k2, hj, rfl, rfl, HO, HO2, HC3⟩ := hrel
    by_cases hlt : j < m
    · have hjn : j < n := by omega
      have hjl : j < L.length := by omega
      obtain ⟨g, rfl, hgB, hgl, hos⟩ := HO.out.low (by omega)
      obtain ⟨g', e9, -, hgw, -⟩ := HLT0.out (by omega)
      cases e9
      have HS : Hid (OwnS wr g 58 c n ((mixL missX L j).set j L[j])) := Lib.hid (by rw [mix_self missX L j hjl]; exact hos)
      have HNX := Lib.hid (mix_next missX L j hjl)
      have HNT := Lib.hid (missN_take L j hjl)
      have hln := missN_le L j
      have HLS := Lib.hid (fun x W h => lose_at g c n j ((mixL missX L j).set j x) x hjn (List.getElem?_set_self (by rw [mix_len _ _ _ (by omega)]; exact hjl)) W h)
      have HMS := Lib.hid (mix_same missX L j hjl)
      have q1 : (0 : Int) ≤ (j : Int) := by omega
      have q2 : (j : Int) < (m : Int) := by omega
      have q3 : (m : Int) ≤ 1000 := by omega
      have q4 : (n : Int) ≤ 1000 := by omega
      have hws := HC3.out.size
      have HO3 := HO2
      clear hos hgl HLT0
      generalize hxx : L[j] = x at *
      obtain ⟨ts, sz, st, mi, ti, pa, tm⟩ := x
      have c2 := HS.out.celli hjn 2 (.int .i64 st) (by decide) rfl
      have c3 := HS.out.celli hjn 3 (.int .i64 mi) (by decide) rfl
      by_cases h1 : st = 1
      · subst h1
        obtain ⟨y, hy⟩ : ∃ y, IntKind.i64.wrap (mi + 1) = y := ⟨_, rfl⟩
        have hy2 : wrap64 (mi + 1) = y := by rw [← hy, IntKind.wrap_i64]; unfold wrap64; rfl
        by_cases h3 : y = 3
        · subst h3
          have HX : Hid (missX ⟨ts, sz, 1, mi, ti, pa, tm⟩ = ⟨ts, sz, 3, 0, ti, pa, tm⟩) := Lib.hid (by unfold missX lostX; rw [if_pos rfl, if_pos hy])
          have HB : Hid (missN (L.take (j + 1)) = missN (L.take j) ++ [ts]) := Lib.hid (by rw [HNT.out, if_pos (by unfold missB; simp [hy])])
          rw [HX.out] at HNX
          clear HNT HMS hy hxx HX HO HO2
          generalize ht9 : ts.toNat = t at *
          generalize missN (L.take j) = mm at *
          go_wp2_with (first
            | ((with_reducible refine gate9 ?_); refine stI j 3 (.int .i64 (wrap64 (mi + 1))) (⟨ts, sz, 1, 3, ti, pa, tm⟩) rfl rfl rfl rfl HS.out hjn (by decide) infoI rfl (by rw [hy2]; rfl) ?_; intro w4 ht hg; replace HO3 := Lib.hid (HO3.out.keep (fun k hk => hg.block k (HO3.out.lt k hk).2 (by intro e; cases e; have := (HO3.out.lt _ hk).1; omega))); replace HC3 := Lib.hid (HC3.out.grown hg (fun k hk _ => by cases hk; rfl)); replace HS := Lib.hid ht; have hs4 := hg.size; clear ht hg; have c3 := HS.out.celli hjn 3 (.int .i64 3) (by decide) rfl)
            | (go_at_call 25; (with_reducible refine (HLS.out _ _ HS.out).mono ?_); rintro e w5 ⟨rfl, hs9, hg5⟩; rw [List.set_set] at hs9; replace HS := Lib.hid hs9; clear hs9; replace HO3 := Lib.hid (HO3.out.keep (fun k hk => hg5.block k (HO3.out.lt k hk).2 (by intro e; cases e; have := (HO3.out.lt _ hk).1; omega))); replace HC3 := Lib.hid (HC3.out.grown hg5 (fun k hk _ => by cases hk; rfl)); have hs5 := hg5.size; clear hg5 c3; have t0 : w5.cell? ⟨g, j * 7, none⟩ = some (.int .u32 (t : Int)) := (by have h9 := HS.out.celli hjn 0 (.int .u32 (ts.toNat : Int)) (by decide) rfl; rw [ht9] at h9; simpa using h9))
            | (at_builtin; refine wpList_append_fed _ rfl (.tmp 33) (.tmp 38) 39 39 rfl w.heap.size 22 i0 _ 1 4 Try.underlying39 (.inr ⟨_, Try.underlying39⟩) HI.out HZ0.out HZ1.out HZ2.out rfl _ _ _ rfl (HO3.out.alloc _) _ 1 [.int .u32 (t : Int)] rfl (Fed.block (heap_alloc_new _ _) rfl (one_u32 _)) (by unfold maxLen; omega) (by omega) (by simp; omega) ?_; intro v8 w8 hown hgr; have HS8 := Lib.hid ((HS.out.later (below_one _ _)).same (hgr.block g (by have := HS.out.lt; simp; omega) (fun e => by have := (HO3.out.lt g e.symm).1; omega))); have HC8 := Lib.hid ((HC3.out.below (below_one _ _)).grown hgr (fun k hk hk2 => by have := (HO3.out.lt k hk).1; omega))))
          go_roundw
          case rel =>
            rw [← ht9] at hown
            obtain ⟨A4, k4, rfl, ho4⟩ := own_snoc ts hown
            exact ⟨j + 1, A4, k4, by omega, by rw [HB.out], by go_num, Lib.hid (by rw [← HNX.out]; exact OwnV.putS hgB HS8.out), by rw [HB.out]; exact Lib.hid ho4, HC8⟩
          case measure => simp [intOf]; omega
        · have HX : Hid (missX ⟨ts, sz, 1, mi, ti, pa, tm⟩ = ⟨ts, sz, 1, y, ti, pa, tm⟩) := Lib.hid (by unfold missX; rw [if_pos rfl, if_neg (by rw [hy]; exact h3), hy])
          have HB : Hid (missN (L.take (j + 1)) = missN (L.take j)) := Lib.hid (by rw [HNT.out, if_neg (by unfold missB; simp [hy, h3]), List.append_nil])
          have q9 : (y == 3) = false := by rw [beq_eq_false_iff_ne]; exact h3
          rw [HX.out] at HNX
          clear HNT HMS hy hxx HX HO HO2 h3
          generalize missN (L.take j) = mm at *
          go_wp2_with (first
            | ((with_reducible refine gate9 ?_); refine stI j 3 (.int .i64 (wrap64 (mi + 1))) (⟨ts, sz, 1, y, ti, pa, tm⟩) rfl rfl rfl rfl HS.out hjn (by decide) infoI rfl (by rw [hy2]; rfl) ?_; intro w4 ht hg; replace HO3 := Lib.hid (HO3.out.keep (fun k hk => hg.block k (HO3.out.lt k hk).2 (by intro e; cases e; have := (HO3.out.lt _ hk).1; omega))); replace HC3 := Lib.hid (HC3.out.grown hg (fun k hk _ => by cases hk; rfl)); replace HS := Lib.hid ht; have hs4 := hg.size; clear ht hg; have c3 := HS.out.celli hjn 3 (.int .i64 y) (by decide) rfl))
          go_roundw
          case rel => exact ⟨j + 1, A2, k2, by omega, by rw [HB.out], by go_num, Lib.hid (by rw [← HNX.out]; exact OwnV.putS hgB HS.out), by rw [HB.out]; exact HO3, HC3⟩
          case measure => simp [intOf]; omega
      · have HX : Hid (mixL missX L (j + 1) = mixL missX L j) := Lib.hid (HMS.out (by unfold missX; rw [if_neg h1]))
        have HB : Hid (missN (L.take (j + 1)) = missN (L.take j)) := Lib.hid (by rw [HNT.out, if_neg (by unfold missB; simp [h1]), List.append_nil])
        have q9 : (st == 1) = false := by rw [beq_eq_false_iff_ne]; exact h1
        clear HNT HMS HNX h1 HS hxx
        generalize missN (L.take j) = mm at *
        go_wp2_with fail
        go_roundw
        case rel => exact ⟨j + 1, A2, k2, by omega, by rw [HB.out], by go_num, by rw [HX.out]; exact HO, by rw [HB.out]; exact HO3, HC3⟩
        case measure => simp [intOf]; omega
    · obtain rfl : j = m := by omega
      go_wp2_with fail
      go_ret
      exact ⟨A2, k2, rfl, HO.out, HO2.out, HC3.out⟩
end Go.Proofs.Ytpgdofhnpiefjaa
