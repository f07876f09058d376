/-
  Package order: without: contract.
-/
import Derived.Test.YtondgdacjbfihaaOf
namespace Go.Proofs.Ytondgdacjbfihaa
open Go.RowKit
set_option linter.unusedVariables false
set_option linter.unusedSimpArgs false
set_option maxRecDepth 100000

def encB (b : Bool) : Value := .bool b
/-- What is not taken. -/
def keepT (l : List Mg) (tk : List Bool) : List Mg := ((l.zip tk).filter fun p => !p.2).map (·.1)
theorem keepT_next (l : List Mg) (tk : List Bool) (j : Nat) (h : j < l.length) (h' : j < tk.length) : keepT (l.take (j + 1)) (tk.take (j + 1)) = keepT (l.take j) (tk.take j) ++ (if tk[j] then [] else [l[j]]) := by
  unfold keepT
  rw [List.take_succ_eq_append_getElem h, List.take_succ_eq_append_getElem h', List.zip_append (by rw [List.length_take, List.length_take]; omega), List.filter_append, List.map_append]
  congr 1
  cases hb : tk[j] <;> simp [hb]
theorem keepT_le (l : List Mg) (tk : List Bool) : (keepT l tk).length ≤ l.length := by
  unfold keepT
  rw [List.length_map]
  exact Nat.le_trans (List.length_filter_le ..) (by rw [List.length_zip]; omega)
theorem flatM_add (l : List Mg) (x : Mg) : flatM (l ++ [x]) = flatM l ++ (cellsMg x).toList := by rw [flatM_append]; simp [flatM]
theorem cellsM_one {x : Mg} {u : Value} (h : u ∈ (cellsMg x).toList) : u.oneCell' = true := cells_one h
theorem rowM_of_ownG {w : World} {base n : Nat} {e : TypeId} {v : Value} {l : List Mg} (h : OwnG w base e 6 v n (flatM l)) : RowM w v l := by
  have hl : l.length = n := by have := h.1; rw [flatM_length] at this; omega
  subst hl
  rcases h.2 with ⟨rfl, h0⟩ | ⟨g, cap, cur, fz, rfl, hb, hh, h1, h2, _⟩
  · exact ⟨none, 0, by rw [h0], by omega, Nat.zero_le _, fun hp => by omega⟩
  · refine ⟨_, cap, rfl, h1, h2, fun _ => ⟨g, 0, rfl, (Array.getElem?_eq_some_iff.1 hh).1, fun j hj t u hu => ?_⟩⟩
    have ht : t < 6 := by have := (List.getElem?_eq_some_iff.1 hu).1; rw [lenMg] at this; exact this
    rw [Nat.zero_add]
    exact h.cells _ _ (by rw [flatM_at l j t hj ht, hu])
set_option maxHeartbeats 4000000 in
theorem without_any (l : List Mg) (tk : List Bool) (h1 : l.length ≤ 100000) (h2 : tk.length = l.length) (v vt : Value) (w : World) (h : RowM w v l) (ht : RowE encB w vt tk) :
    Calls Try.prog 38 #[v, vt] w fun e w' => ∃ A k, e = .returned (.slice A (keepT l tk).length k) ∧ OwnG w' w.heap.size 40 6 (.slice A (keepT l tk).length k) (keepT l tk).length (flatM (keepT l tk)) ∧ Below w.heap.size w w' := by
  have HV := Lib.hid h
  have HT9 := Lib.hid ht
  obtain ⟨A, c, rfl, _, _, _⟩ := id h
  obtain ⟨At, ct, rfl, _, _, _⟩ := id ht
  obtain ⟨i0, hi0, hz0, hz1, hz2⟩ := info_parts infoMZ
  have HI := Lib.hid hi0
  have HZ0 := Lib.hid hz0
  have HZ1 := Lib.hid hz1
  have HZ2 := Lib.hid hz2
  have HNX := Lib.hid (fun j h h' => keepT_next l tk j h h')
  have HLE : Hid (∀ j, (keepT (l.take j) (tk.take j)).length ≤ l.length) := Lib.hid (fun j => Nat.le_trans (keepT_le _ _) (by rw [List.length_take]; omega))
  have HFU : Hid (keepT (l.take l.length) (tk.take l.length) = keepT l tk) := Lib.hid (by rw [List.take_length, ← h2, List.take_length])
  have hlI : (l.length : Int) ≤ 100000 := by omega
  have H2 := Lib.hid h2
  clear h ht hi0 hz0 hz1 hz2 h2
  go_enter Try.func38, Try.ntmps38
  go_wp2_with fail
  go_loopw [5, 10] (fun v5 v10 wr => ∃ (j n : Nat) (A5 : Option Addr) (k5 : Nat), j ≤ l.length ∧ v5 = .slice A5 n k5 ∧ v10 = .int .i64 j ∧ Hid ((keepT (l.take j) (tk.take j)).length = n) ∧ Hid (OwnG wr w.heap.size 40 6 (.slice A5 n k5) n (flatM (keepT (l.take j) (tk.take j)))) ∧ Hid (Below w.heap.size w wr))
    (fun _ v10 _ => l.length - (intOf v10).toNat)
  case atStart => exact ⟨0, 0, none, 0, Nat.zero_le _, rfl, rfl, Lib.hid rfl, Lib.hid (OwnG.nil _ _ _ _), Lib.hid (Below.refl _ _)⟩
  case round =>
    obtain ⟨j, n, A5, k5, hj, rfl, rfl, HN, HO, HB⟩ := hrel
    by_cases hlt : j < l.length
    · obtain ⟨b, off, c', e9, hb, -, -, hrg⟩ := HV.out.at hlt
      cases e9
      have HRG := Lib.hid (range_below hrg hb HB.out)
      have hltt : j < tk.length := by rw [H2.out]; exact hlt
      obtain ⟨At', ct', e9, hct, hcm, hcell⟩ := HT9.out
      cases e9
      obtain ⟨bt, ot, rfl, hbt, hce⟩ := hcell (by omega)
      have et : w.cell? ⟨bt, ot + j, none⟩ = some (.bool tk[j]) := by
        have := hce j hltt
        rw [getElem!_pos tk j hltt] at this
        exact this
      have hn1 := HLE.out j
      have hn2 := HN.out
      rw [hn2] at hn1
      have HNJ := Lib.hid (HNX.out j hlt hltt)
      have q1 : (0 : Int) ≤ (j : Int) := by omega
      have q2 : (j : Int) < (l.length : Int) := by omega
      have q3 : (j : Int) < (tk.length : Int) := by omega
      have q4 : (n : Int) ≤ 100000 := by omega
      clear hrg hcell hce hn2 hct hcm
      generalize l[j] = x at *
      generalize tk[j] = tb at *
      clear hltt
      obtain ⟨W4, hW4, HT0, HB3, hs3⟩ := one_open wr 40 #[.int .u32 0, .bool false, .int .u16 0, .int .u16 0, .int .u32 0, .string ⟨#[]⟩]
      obtain ⟨g8, hg8⟩ : ∃ g, wr.heap.size = g := ⟨_, rfl⟩
      rw [hg8] at HT0
      have hcz : (cellsMg x).size = 6 := rfl
      cases tb with
      | true =>
        go_wp2_with (first
          | ((with_reducible refine gate9 ?_); refine ldMg (ty := 40) rfl rfl rfl HRG.out Try.underlying40 rfl infoM ?_)
          | ((with_reducible refine gate9 ?_); refine stB (ty := 40) (cellsMg x) rfl rfl rfl rfl HT0.out infoM rfl (cellsMg_one _) ?_; intro w4 ht hg; replace HB3 := Lib.hid (below_of_grown1 HB3.out hg HB3.out.size (Nat.le_of_eq hg8)); have HT := Lib.hid (show Bx w4 g8 40 (cellsMg x) from ht); have hb := HB3.out; replace HO := Lib.hid (HO.out.later hb); replace HB := Lib.hid (HB.out.trans (hb.mono HB.out.size)); have hw4 := HB.out.size; have tk1 := (HB.out.cell (p := ⟨bt, ot + j, none⟩) hbt).trans et; clear ht hg hb))
        go_roundw
        case rel => exact ⟨j + 1, n, A5, k5, by omega, rfl, by go_num, Lib.hid (by rw [HNJ.out, if_pos rfl, List.append_nil]; exact HN.out), Lib.hid (by rw [HNJ.out, if_pos rfl, List.append_nil]; exact HO.out), HB⟩
        case measure => simp [intOf]; omega
      | false =>
        go_wp2_with (first
          | ((with_reducible refine gate9 ?_); refine ldMg (ty := 40) rfl rfl rfl HRG.out Try.underlying40 rfl infoM ?_)
          | ((with_reducible refine gate9 ?_); refine stB (ty := 40) (cellsMg x) rfl rfl rfl rfl HT0.out infoM rfl (cellsMg_one _) ?_; intro w4 ht hg; replace HB3 := Lib.hid (below_of_grown1 HB3.out hg HB3.out.size (Nat.le_of_eq hg8)); have HT := Lib.hid (show Bx w4 g8 40 (cellsMg x) from ht); have hb := HB3.out; replace HO := Lib.hid (HO.out.later hb); replace HB := Lib.hid (HB.out.trans (hb.mono HB.out.size)); have hw4 := HB.out.size; have tk1 := (HB.out.cell (p := ⟨bt, ot + j, none⟩) hbt).trans et; clear ht hg hb)
          | ((with_reducible refine gate9 ?_); refine ldB (ty := 40) (cs := cellsMg x) rfl rfl rfl HT.out Try.underlying40 rfl infoM ?_)
          | (at_builtin; refine wpList_append_fed _ rfl (.tmp 20) (.tmp 22) 25 25 rfl w.heap.size 40 i0 _ 6 32 Try.underlying25 (.inr ⟨_, Try.underlying25⟩) HI.out HZ0.out HZ1.out HZ2.out rfl _ _ _ rfl (HO.out.alloc _) _ 1 (cellsMg x).toList rfl (Fed.block (heap_alloc_new _ _) rfl (fun u hu => cells_one hu)) (by unfold maxLen; omega) (by omega) (by rw [World.size_alloc]; omega) ?_; intro v8 w8 hown hgr; replace HB := Lib.hid ((HB.out.alloc HB.out.size _).grown hgr (by rw [World.size_alloc]; omega) (fun z hz => by have := (HO.out.lt z hz).1; omega)); obtain ⟨A8, k8, rfl, -, -, -⟩ := id hown.slice; have HO8 := Lib.hid hown; clear hown hgr))
        go_roundw
        case rel => exact ⟨j + 1, n + 1, A8, k8, by omega, rfl, by go_num, Lib.hid (by rw [HNJ.out, if_neg (by decide), List.length_append, HN.out]; rfl), Lib.hid (by rw [HNJ.out, if_neg (by decide), flatM_add]; exact HO8.out), HB⟩
        case measure => simp [intOf]; omega
    · obtain rfl : j = l.length := by omega
      have h5 := HO.out
      have h6 := HN.out
      rw [HFU.out] at h5 h6
      subst h6
      have HO9 := Lib.hid h5
      clear h5
      go_wp2_with fail
      go_ret
      exact ⟨_, _, rfl, HO9.out, HB.out⟩
end Go.Proofs.Ytondgdacjbfihaa
