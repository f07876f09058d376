/-
  Package sent: what is lost, what is given up: contracts.
-/
import Derived.Test.YtpgdofhnpiefjaaSb
namespace Go.Proofs.Ytpgdofhnpiefjaa
open Go.RowKit
set_option linter.unusedVariables false
set_option linter.unusedSimpArgs false
set_option maxRecDepth 100000

theorem retST {fn : Func} {p u : Tmp} (h : fn.results = #[.cell p 27, .tmp u]) {tmps : Array Value} {w : World} {g : Nat} {cs : Array Value} {v : Value} (hz : cs.size = 2) (hp : tmps.getD p undef = .pointer (some ⟨g, 0, none⟩)) (hu : tmps.getD u undef = v) (hg : Bx w g 27 cs) : (results fn tmps).run Try.prog w = .ok (.tuple #[.agg cs, v]) w := by
  have hp' : tmps[p]?.getD undef = .pointer (some ⟨g, 0, none⟩) := by simpa using hp
  have hu' : tmps[u]?.getD undef = v := by simpa using hu
  simp [results, h, hp', hu', asAddr, run_loadVar_row w g 27 27 cs (0, 0) _ hg Try.underlying27 rfl (by rw [hz]; exact infoS)]
/-- The first j pieces are done. -/
def mixL (f : Pc → Pc) (l : List Pc) (j : Nat) : List Pc := (l.take j).map f ++ l.drop j
theorem mix_0 (f : Pc → Pc) (l : List Pc) : mixL f l 0 = l := by simp [mixL]
theorem mix_all (f : Pc → Pc) (l : List Pc) : mixL f l l.length = l.map f := by simp [mixL]
theorem mix_len (f : Pc → Pc) (l : List Pc) (j : Nat) (h : j ≤ l.length) : (mixL f l j).length = l.length := by simp [mixL]; omega
theorem mix_at (f : Pc → Pc) (l : List Pc) (j : Nat) (h : j < l.length) (h' : j < (mixL f l j).length) : (mixL f l j)[j] = l[j] := by
  have e : mixL f l j = (l.take j).map f ++ l[j] :: l.drop (j + 1) := by unfold mixL; rw [drop_at l j h]
  have h2 : j < ((l.take j).map f ++ l[j] :: l.drop (j + 1)).length := by rw [← e]; exact h'
  have := get_at ((l.take j).map f) (l.drop (j + 1)) l[j] j (by simp; omega) h2
  rw [← this]
  congr 1
theorem mix_next (f : Pc → Pc) (l : List Pc) (j : Nat) (h : j < l.length) : (mixL f l j).set j (f l[j]) = mixL f l (j + 1) := by
  have e : mixL f l j = (l.take j).map f ++ l[j] :: l.drop (j + 1) := by unfold mixL; rw [drop_at l j h]
  rw [e, set_at _ _ _ _ j (by simp; omega)]
  unfold mixL
  rw [List.take_succ_eq_append_getElem h, List.map_append]
  rfl
theorem mix_same (f : Pc → Pc) (l : List Pc) (j : Nat) (h : j < l.length) (hf : f l[j] = l[j]) : mixL f l (j + 1) = mixL f l j := by
  rw [← mix_next f l j h, hf]
  have h' : j < (mixL f l j).length := by rw [mix_len f l j (by omega)]; exact h
  have := mix_at f l j h h'
  rw [← this, List.set_getElem_self]
theorem own_snoc {w : World} {B : Nat} {T : TypeId} {v : Value} {m : List UInt32} (x : UInt32) (h : OwnG w B T 1 v (m.length + 1) (m.map enc32 ++ [.int .u32 (x.toNat : Int)])) : ∃ A k, v = .slice A (m ++ [x]).length k ∧ OwnG w B T 1 (.slice A (m ++ [x]).length k) (m ++ [x]).length ((m ++ [x]).map enc32) := by
  obtain ⟨A, k, rfl, -, -, -⟩ := id h.slice
  have e : (m ++ [x]).length = m.length + 1 := by simp
  have e2 : (m ++ [x]).map enc32 = m.map enc32 ++ [.int .u32 (x.toNat : Int)] := by rw [List.map_append]; rfl
  rw [e, e2]
  exact ⟨A, k, rfl, h⟩
theorem one_u32 (x : Nat) : ∀ u ∈ ([.int .u32 (x : Int)] : List Value), u.oneCell' = true := by intro u hu; simp at hu; subst hu; rfl
theorem lossL_take (l : List Pc) (j : Nat) (h : j < l.length) : lossL (l.take (j + 1)) = lossL (l.take j) ++ if l[j].st = 3 then [l[j].ts] else [] := by
  unfold lossL
  rw [filter_take _ l j h, List.map_append]
  by_cases hf : l[j].st = 3
  · rw [if_pos (by simpa using hf), if_pos hf]; rfl
  · rw [if_neg (by simpa using hf), if_neg hf]; rfl
theorem dropN_take (p : Int) (l : List Pc) (j : Nat) (h : j < l.length) : dropN p (l.take (j + 1)) = dropN p (l.take j) ++ if outB p l[j] then [l[j].ts] else [] := by
  unfold dropN
  rw [filter_take _ l j h, List.map_append]
  by_cases hf : outB p l[j] = true
  · rw [if_pos hf, if_pos hf]; rfl
  · rw [if_neg hf, if_neg hf]; rfl
theorem lossL_le (l : List Pc) (j : Nat) : (lossL (l.take j)).length ≤ l.length := by
  unfold lossL
  rw [List.length_map]
  have h1 := List.length_filter_le (fun x : Pc => decide (x.st = 3)) (l.take j)
  rw [List.length_take] at h1
  omega
theorem dropN_le (p : Int) (l : List Pc) (j : Nat) : (dropN p (l.take j)).length ≤ l.length := by
  unfold dropN
  rw [List.length_map]
  have h1 := List.length_filter_le (outB p) (l.take j)
  rw [List.length_take] at h1
  omega
set_option maxHeartbeats 1000000 in
theorem losses_any (c : UInt32) (l : List Pc) (hl : l.length ≤ 1000) (v : Value) (w : World) (h : RowP w v l) :
    Calls Try.prog 11 #[.agg #[.int .u32 (c.toNat : Int), v]] w fun e w' => ∃ A k, e = .returned (.slice A (lossL l).length k) ∧ OwnG w' w.heap.size 22 1 (.slice A (lossL l).length k) (lossL l).length ((lossL l).map enc32) ∧ Below w.heap.size w w' := by
  obtain ⟨W, hW, HA, HB, hs⟩ := one_open w 27 #[.int .u32 (c.toNat : Int), v]
  have HR := Lib.hid (h.below HB.out)
  obtain ⟨A, cap, rfl, _, hmx, _⟩ := id h
  have c1 := HA.out.cell 1 (.slice A l.length cap) rfl
  have HEND := Lib.hid (show lossL (l.take l.length) = lossL l by rw [List.take_length])
  have HST := Lib.hid (show lossL (l.take 0) = [] from rfl)
  obtain ⟨i0, hi0, hz0, hz1, hz2⟩ := info_parts infoUZ
  have HI := Lib.hid hi0
  have HZ0 := Lib.hid hz0
  have HZ1 := Lib.hid hz1
  have HZ2 := Lib.hid hz2
  clear h hi0 hz0 hz1 hz2
  go_enter Try.func11, Try.ntmps11
  go_wp2_with fail
  go_loopw [3, 9] (fun s i wr => ∃ (j : Nat) (A1 : Option Addr) (k1 : Nat), j ≤ l.length ∧ s = .slice A1 (lossL (l.take j)).length k1 ∧ i = .int .i64 j ∧ Hid (OwnG wr W.heap.size 22 1 (.slice A1 (lossL (l.take j)).length k1) (lossL (l.take j)).length ((lossL (l.take j)).map enc32)) ∧ Hid (Below W.heap.size W wr))
    (fun _ i _ => l.length - (intOf i).toNat)
  case atStart => exact ⟨0, none, 0, Nat.zero_le _, by rw [HST.out]; rfl, rfl, Lib.hid (OwnG.nil _ _ _ _), Lib.hid (Below.refl _ _)⟩
  case round =>
    obtain ⟨j, A1, k1, hj, rfl, rfl, HO, HW⟩ := hrel
    by_cases hlt : j < l.length
    · obtain ⟨b, off, cap', e9, hb, hc1, hc2, hrg⟩ := HR.out.at hlt
      cases e9
      have HRG := Lib.hid (range_below hrg hb HW.out)
      have HNX := Lib.hid (lossL_take l j hlt)
      have hln := lossL_le l j
      clear hrg
      generalize l[j] = x at *
      obtain ⟨W3, hW3, HT, HB3, hs3⟩ := one_open wr 58 #[.int .u32 0, .int .i64 0, .int .i64 0, .int .i64 0, .int .i64 0, .int .i64 0, .int .i64 0]
      have q1 : (0 : Int) ≤ (j : Int) := by omega
      have q2 : (j : Int) < (l.length : Int) := by omega
      have q3 : (l.length : Int) ≤ 1000 := by omega
      have hws := HW.out.size
      have HO3 := Lib.hid (HO.out.later HB3.out)
      by_cases h3 : x.st = 3
      · have HNX2 : Hid (lossL (l.take (j + 1)) = lossL (l.take j) ++ [x.ts]) := Lib.hid (by rw [HNX.out, if_pos h3])
        have HS3 := Lib.hid h3
        clear HNX h3
        generalize lossL (l.take j) = m at *
        generalize hts : x.ts.toNat = t at *
        go_wp2_with (first
          | ((with_reducible refine gate9 ?_); refine ldPc (ty := 58) rfl rfl rfl HRG.out Try.underlying58 rfl infoP ?_)
          | ((with_reducible refine gate9 ?_); refine stB (ty := 58) (cellsPc x) rfl rfl rfl rfl HT.out infoP rfl (cellsPc_one _) ?_; intro w4 ht hg; replace HB3 := Lib.hid (below_of_grown1 HB3.out hg HB3.out.size (Nat.le_refl _)); replace HT := Lib.hid ht; clear ht hg; replace HO3 := Lib.hid (HO.out.later HB3.out); have hs4 := HB3.out.size; have t2 : w4.cell? ⟨wr.heap.size, 2, none⟩ = some (.int .i64 3) := (by have h9 := HT.out.cell 2 (.int .i64 x.st) rfl; rw [HS3.out] at h9; exact h9); have t0 : w4.cell? ⟨wr.heap.size, 0, none⟩ = some (.int .u32 (t : Int)) := (by have h9 := HT.out.cell 0 (.int .u32 (x.ts.toNat : Int)) rfl; rw [hts] at h9; exact h9))
          | (at_builtin; refine wpList_append_fed _ rfl (.tmp 16) (.tmp 19) 39 39 rfl W.heap.size 22 i0 _ 1 4 Try.underlying39 (.inr ⟨_, Try.underlying39⟩) HI.out HZ0.out HZ1.out HZ2.out rfl _ _ _ rfl (HO3.out.alloc _) _ 1 [.int .u32 (t : Int)] rfl (Fed.block (heap_alloc_new _ _) rfl (one_u32 _)) (by unfold maxLen; omega) (by omega) (by simp; omega) ?_; intro v8 w8 hown hgr; have HB8 := Lib.hid (((HW.out.trans (HB3.out.mono hws)).alloc (by omega) _).grown hgr (by simp; omega) (fun k hk => (HO3.out.lt k hk).1))))
        go_roundw
        case rel =>
          rw [← hts] at hown
          obtain ⟨A4, k4, rfl, ho4⟩ := own_snoc x.ts hown
          exact ⟨j + 1, A4, k4, by omega, by rw [HNX2.out], by go_num, by rw [HNX2.out]; exact Lib.hid ho4, HB8⟩
        case measure => simp [intOf]; omega
      · have HNX2 : Hid (lossL (l.take (j + 1)) = lossL (l.take j)) := Lib.hid (by rw [HNX.out, if_neg h3, List.append_nil])
        have h3' : (x.st == 3) = false := by rw [beq_eq_false_iff_ne]; exact h3
        obtain ⟨s, hst⟩ : ∃ s, x.st = s := ⟨_, rfl⟩
        rw [hst] at h3'
        have HST2 := Lib.hid hst
        clear HNX h3 hst
        generalize lossL (l.take j) = m at *
        go_wp2_with (first
          | ((with_reducible refine gate9 ?_); refine ldPc (ty := 58) rfl rfl rfl HRG.out Try.underlying58 rfl infoP ?_)
          | ((with_reducible refine gate9 ?_); refine stB (ty := 58) (cellsPc x) rfl rfl rfl rfl HT.out infoP rfl (cellsPc_one _) ?_; intro w4 ht hg; replace HB3 := Lib.hid (below_of_grown1 HB3.out hg HB3.out.size (Nat.le_refl _)); replace HT := Lib.hid ht; clear ht hg; replace HO3 := Lib.hid (HO.out.later HB3.out); have hs4 := HB3.out.size; have HB3' := Lib.hid (Below.refl w4.heap.size w4); have t2 : w4.cell? ⟨wr.heap.size, 2, none⟩ = some (.int .i64 s) := (by have h9 := HT.out.cell 2 (.int .i64 x.st) rfl; rw [HST2.out] at h9; exact h9)))
        go_roundw
        case rel => exact ⟨j + 1, A1, k1, by omega, by rw [HNX2.out], by go_num, by rw [HNX2.out]; exact Lib.hid (HO3.out.later (HB3'.out)), Lib.hid (HW.out.trans (HB3.out.mono hws))⟩
        case measure => simp [intOf]; omega
    · obtain rfl : j = l.length := by omega
      rw [HEND.out] at HO ⊢
      go_wp2_with fail
      go_ret
      exact ⟨A1, k1, rfl, HO.out.base (by omega), HB.out.trans (HW.out.mono (by omega))⟩
end Go.Proofs.Ytpgdofhnpiefjaa
