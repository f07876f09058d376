/-
  Package order: New, and the document's: contracts.
-/
import Derived.Test.YtondgdacjbfihaaOg
namespace Go.Proofs.Ytondgdacjbfihaa
open Go.RowKit
set_option linter.unusedVariables false
set_option linter.unusedSimpArgs false
set_option maxRecDepth 100000

theorem below_none {w w' : World} (hg : w.grownBy w' none) : Below w.heap.size w w' := (Below.refl _ _).grown hg (Nat.le_refl _) (fun k hk => by cases hk)
/-- What New tells. -/
def newN (n : Int) : List UInt16 := if n < 1 ∨ 16 < n then [] else List.replicate n.toNat 0
def newE (n : Int) : Int := if n < 1 ∨ 16 < n then 1 else 0
theorem zeros16 (n : Nat) : (madeCells (Value.int .u16 0).cells (n * 1)).toList = (List.replicate n (0 : UInt16)).map enc16 := by
  rw [Nat.mul_one, List.map_replicate]
  exact toList_madeCells_one _ n
theorem retQE {fn : Func} {p u : Tmp} (h : fn.results = #[.cell p 27, .tmp u]) {tmps : Array Value} {w : World} {g : Nat} {cs : Array Value} {v : Value} (hz : cs.size = 2) (hp : tmps.getD p undef = .pointer (some ⟨g, 0, none⟩)) (hu : tmps.getD u undef = v) (hg : Bx w g 27 cs) : (results fn tmps).run Try.prog w = .ok (.tuple #[.agg cs, v]) w := by
  have hp' : tmps[p]?.getD undef = .pointer (some ⟨g, 0, none⟩) := by simpa using hp
  have hu' : tmps[u]?.getD undef = v := by simpa using hu
  simp [results, h, hp', hu', asAddr, run_loadVar_row w g 27 27 cs (0, 0) _ hg Try.underlying27 rfl (by rw [hz]; exact infoQ)]
set_option maxHeartbeats 2000000 in
theorem new_any (n : Int) (w : World) : Calls Try.prog 9 #[.int .i64 n] w fun e w' => ∃ A c, e = .returned (.tuple #[.agg #[.slice A (newN n).length c, .slice none 0 0], .int .i64 (newE n)]) ∧ w'.ownsRow w.heap.size 38 1 (.slice A (newN n).length c) (newN n).length ((newN n).map enc16) ∧ Below w.heap.size w w' := by
  obtain ⟨W, hW, HR, HB, hs⟩ := one_open w 27 #[.slice none 0 0, .slice none 0 0]
  obtain ⟨i0, hi0, hz0, hz1, hz2⟩ := info_parts infoHZ
  have HI := Lib.hid hi0
  have HZ0 := Lib.hid hz0
  have HZ1 := Lib.hid hz1
  have HZ2 := Lib.hid hz2
  clear hi0 hz0 hz1 hz2
  by_cases c1 : n < 1
  · have e1 : newN n = [] := by unfold newN; rw [if_pos (.inl c1)]
    have e2 : newE n = 1 := by unfold newE; rw [if_pos (.inl c1)]
    rw [e1, e2]
    go_enter Try.func9, Try.ntmps9
    go_wp2_with ((with_reducible refine gate9 ?_); refine stB (ty := 27) #[.slice none 0 0, .slice none 0 0] rfl rfl rfl rfl HR.out infoQ rfl (cellsQ_one _ _ _ _ _ _) ?_; intro w6 ht hg; have HZ := Lib.hid ht; replace HB := Lib.hid (below_of_grown1 HB.out hg HB.out.size (Nat.le_refl _)); clear ht hg)
    exact bodyPost_ret (retQE rfl rfl rfl rfl HZ.out) rfl ⟨none, 0, rfl, ⟨rfl, .inl ⟨rfl, rfl⟩⟩, HB.out⟩
  · by_cases c2 : 16 < n
    · have e1 : newN n = [] := by unfold newN; rw [if_pos (.inr c2)]
      have e2 : newE n = 1 := by unfold newE; rw [if_pos (.inr c2)]
      rw [e1, e2]
      go_enter Try.func9, Try.ntmps9
      go_wp2_with ((with_reducible refine gate9 ?_); refine stB (ty := 27) #[.slice none 0 0, .slice none 0 0] rfl rfl rfl rfl HR.out infoQ rfl (cellsQ_one _ _ _ _ _ _) ?_; intro w6 ht hg; have HZ := Lib.hid ht; replace HB := Lib.hid (below_of_grown1 HB.out hg HB.out.size (Nat.le_refl _)); clear ht hg)
      exact bodyPost_ret (retQE rfl rfl rfl rfl HZ.out) rfl ⟨none, 0, rfl, ⟨rfl, .inl ⟨rfl, rfl⟩⟩, HB.out⟩
    · obtain ⟨k, rfl⟩ : ∃ k : Nat, n = (k : Int) := ⟨n.toNat, by omega⟩
      have e1 : newN (k : Int) = List.replicate k 0 := by unfold newN; rw [if_neg (by omega)]; rfl
      have e2 : newE (k : Int) = 0 := by unfold newE; rw [if_neg (by omega)]
      have HN : Hid (newN (k : Int) = List.replicate k 0) := Lib.hid e1
      have HE : Hid (newE (k : Int) = 0) := Lib.hid e2
      have HLN : Hid ((List.replicate k (0 : UInt16)).length = k) := Lib.hid List.length_replicate
      have hk0 : (0 : Int) ≤ (k : Int) := by omega
      have hsW : w.heap.size + 1 ≤ W.heap.size := by omega
      clear e1 e2 hs
      go_enter Try.func9, Try.ntmps9
      go_wp2_with (first
        | (at_make; (refine wpList_make_full _ rfl (.tmp 11) (.tmp 11) 24 rfl (w.heap.size + 1) 38 i0 _ 1 Try.underlying24 HI.out HZ0.out HZ1.out .i64 .i64 _ _ k rfl rfl rfl rfl (by rw [HZ2.out]; omega) (by unfold maxLen; omega) (by omega) ?_; intro w5 hown hg5; rw [zeros16] at hown; have HO := Lib.hid hown; have hb5 := below_none hg5; replace HR := Lib.hid (HR.out.later hb5); replace HB := Lib.hid (HB.out.trans (hb5.mono HB.out.size)); clear hown hg5 hb5))
        | ((with_reducible refine gate9 ?_); refine stB (ty := 27) #[.slice (some ⟨W.heap.size, 0, none⟩) k k, .slice none 0 0] rfl rfl rfl rfl HR.out infoQ rfl (cellsQ_one _ _ _ _ _ _) ?_; intro w6 ht hg; have HZ := Lib.hid ht; have HO6 := Lib.hid (own_base (ownM_keep HO.out hg (by omega)) (show w.heap.size ≤ w.heap.size + 1 by omega)); replace HB := Lib.hid (below_of_grown1 HB.out hg HB.out.size (Nat.le_refl _)); clear ht hg))
      exact bodyPost_ret (retQE rfl rfl rfl rfl HZ.out) rfl ⟨some ⟨W.heap.size, 0, none⟩, k, by rw [HN.out, HE.out, HLN.out]; rfl, by rw [HN.out, HLN.out]; exact HO6.out, HB.out⟩
theorem retRQE {fn : Func} {p u : Tmp} (h : fn.results = #[.cell p 33, .tmp u]) {tmps : Array Value} {w : World} {g : Nat} {cs : Array Value} {v : Value} (hz : cs.size = 2) (hp : tmps.getD p undef = .pointer (some ⟨g, 0, none⟩)) (hu : tmps.getD u undef = v) (hg : Bx w g 33 cs) : (results fn tmps).run Try.prog w = .ok (.tuple #[.agg cs, v]) w := by
  have hp' : tmps[p]?.getD undef = .pointer (some ⟨g, 0, none⟩) := by simpa using hp
  have hu' : tmps[u]?.getD undef = v := by simpa using hu
  simp [results, h, hp', hu', asAddr, run_loadVar_row w g 33 33 cs (0, 0) _ hg Try.underlying33 rfl (by rw [hz]; exact infoRQ)]
set_option maxHeartbeats 2000000 in
theorem rnew_any (n : Int) (w : World) : Calls Try.prog 10 #[.int .i64 n] w fun e w' => ∃ A c, e = .returned (.tuple #[.agg #[.slice A (newN n).length c, .slice none 0 0], .int .i64 (newE n)]) ∧ w'.ownsRow w.heap.size 38 1 (.slice A (newN n).length c) (newN n).length ((newN n).map enc16) ∧ Below w.heap.size w w' := by
  obtain ⟨W, hW, HR, HB, hs⟩ := one_open w 33 #[.slice none 0 0, .slice none 0 0]
  obtain ⟨i0, hi0, hz0, hz1, hz2⟩ := info_parts infoHZ
  have HI := Lib.hid hi0
  have HZ0 := Lib.hid hz0
  have HZ1 := Lib.hid hz1
  have HZ2 := Lib.hid hz2
  clear hi0 hz0 hz1 hz2
  by_cases c1 : n < 1
  · have e1 : newN n = [] := by unfold newN; rw [if_pos (.inl c1)]
    have e2 : newE n = 1 := by unfold newE; rw [if_pos (.inl c1)]
    rw [e1, e2]
    go_enter Try.func10, Try.ntmps10
    go_wp2_with ((with_reducible refine gate9 ?_); refine stB (ty := 33) #[.slice none 0 0, .slice none 0 0] rfl rfl rfl rfl HR.out infoRQ rfl (cellsQ_one _ _ _ _ _ _) ?_; intro w6 ht hg; have HZ := Lib.hid ht; replace HB := Lib.hid (below_of_grown1 HB.out hg HB.out.size (Nat.le_refl _)); clear ht hg)
    exact bodyPost_ret (retRQE rfl rfl rfl rfl HZ.out) rfl ⟨none, 0, rfl, ⟨rfl, .inl ⟨rfl, rfl⟩⟩, HB.out⟩
  · by_cases c2 : 16 < n
    · have e1 : newN n = [] := by unfold newN; rw [if_pos (.inr c2)]
      have e2 : newE n = 1 := by unfold newE; rw [if_pos (.inr c2)]
      rw [e1, e2]
      go_enter Try.func10, Try.ntmps10
      go_wp2_with ((with_reducible refine gate9 ?_); refine stB (ty := 33) #[.slice none 0 0, .slice none 0 0] rfl rfl rfl rfl HR.out infoRQ rfl (cellsQ_one _ _ _ _ _ _) ?_; intro w6 ht hg; have HZ := Lib.hid ht; replace HB := Lib.hid (below_of_grown1 HB.out hg HB.out.size (Nat.le_refl _)); clear ht hg)
      exact bodyPost_ret (retRQE rfl rfl rfl rfl HZ.out) rfl ⟨none, 0, rfl, ⟨rfl, .inl ⟨rfl, rfl⟩⟩, HB.out⟩
    · obtain ⟨k, rfl⟩ : ∃ k : Nat, n = (k : Int) := ⟨n.toNat, by omega⟩
      have e1 : newN (k : Int) = List.replicate k 0 := by unfold newN; rw [if_neg (by omega)]; rfl
      have e2 : newE (k : Int) = 0 := by unfold newE; rw [if_neg (by omega)]
      have HN : Hid (newN (k : Int) = List.replicate k 0) := Lib.hid e1
      have HE : Hid (newE (k : Int) = 0) := Lib.hid e2
      have HLN : Hid ((List.replicate k (0 : UInt16)).length = k) := Lib.hid List.length_replicate
      have hk0 : (0 : Int) ≤ (k : Int) := by omega
      have hsW : w.heap.size + 1 ≤ W.heap.size := by omega
      clear e1 e2 hs
      go_enter Try.func10, Try.ntmps10
      go_wp2_with (first
        | (at_make; (refine wpList_make_full _ rfl (.tmp 11) (.tmp 11) 24 rfl (w.heap.size + 1) 38 i0 _ 1 Try.underlying24 HI.out HZ0.out HZ1.out .i64 .i64 _ _ k rfl rfl rfl rfl (by rw [HZ2.out]; omega) (by unfold maxLen; omega) (by omega) ?_; intro w5 hown hg5; rw [zeros16] at hown; have HO := Lib.hid hown; have hb5 := below_none hg5; replace HR := Lib.hid (HR.out.later hb5); replace HB := Lib.hid (HB.out.trans (hb5.mono HB.out.size)); clear hown hg5 hb5))
        | ((with_reducible refine gate9 ?_); refine stB (ty := 33) #[.slice (some ⟨W.heap.size, 0, none⟩) k k, .slice none 0 0] rfl rfl rfl rfl HR.out infoRQ rfl (cellsQ_one _ _ _ _ _ _) ?_; intro w6 ht hg; have HZ := Lib.hid ht; have HO6 := Lib.hid (own_base (ownM_keep HO.out hg (by omega)) (show w.heap.size ≤ w.heap.size + 1 by omega)); replace HB := Lib.hid (below_of_grown1 HB.out hg HB.out.size (Nat.le_refl _)); clear ht hg))
      exact bodyPost_ret (retRQE rfl rfl rfl rfl HZ.out) rfl ⟨some ⟨W.heap.size, 0, none⟩, k, by rw [HN.out, HE.out, HLN.out]; rfl, by rw [HN.out, HLN.out]; exact HO6.out, HB.out⟩
end Go.Proofs.Ytondgdacjbfihaa
