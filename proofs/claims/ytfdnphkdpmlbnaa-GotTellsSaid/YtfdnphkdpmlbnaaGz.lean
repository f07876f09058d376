/-
  The document's Gaps: a contract.
-/
import Derived.Test.YtfdnphkdpmlbnaaGw
import Derived.Test.YtfdnphkdpmlbnaaGj
namespace Go.Proofs.Ytfdnphkdpmlbnaa
open Go.RowKit Go.Lib
set_option linter.unusedVariables false
set_option linter.unusedSimpArgs false
set_option maxRecDepth 100000

/-- A number as how far it is above c. -/
def encK (c x : UInt32) : Value := .int .u16 ((key c x % 65536 : Nat) : Int)
theorem flat_gaps (c : UInt32) (rs : List (UInt32 × UInt32)) : flatG (rs.map (gapOf c)) = flat (encK c) rs := by
  unfold flatG flat
  rw [List.flatMap_map]
  rfl
theorem flatK_cells {c : UInt32} {rs : List (UInt32 × UInt32)} : ∀ u ∈ flat (encK c) rs, u.oneCell' = true := by
  intro u hu
  obtain ⟨p, _, hp⟩ := List.mem_flatMap.1 hu
  simp at hp
  rcases hp with rfl | rfl <;> rfl
theorem undrew_heap2 {w : World} {n : Nat} {o : Option Obj} (h : w.heap[n]? = o) : w.drew.heap[n]? = o := h
theorem strict_take2 (f : UInt32) (s : List UInt32) (hs : Strict f s) (k : Nat) (hk : k < s.length) (y : UInt32) (hy : y ∈ s.take k) : key f y < key f s[k]! := by
  obtain ⟨j, hj, rfl⟩ := List.getElem_of_mem hy
  rw [List.length_take] at hj
  have h := strict_at f s hs j k (by omega) hk
  rw [List.getElem_take, ← getElem!_pos s j (by omega)]
  exact UInt32.lt_iff_toNat_lt.1 h
set_option maxHeartbeats 4000000 in
theorem rgaps_any (c : UInt32) (ab du : List UInt32) (ha : ab.length ≤ 100) (hd : du.length ≤ 1000000) (va vd : Value) (w : World) (h1 : RowE enc32 w va ab) (h2 : RowE enc32 w vd du) (hr : RightG ⟨c, ab, du⟩) : Calls Try.prog 20 #[.agg #[.int .u32 (c.toNat : Int), va, vd]] w fun e w' => ∃ v', e = .returned v' ∧ OwnG w' w.heap.size 59 2 v' (gapsG ⟨c, ab, du⟩).length (flatG (gapsG ⟨c, ab, du⟩)) ∧ Below w.heap.size w w' := by
  obtain ⟨W, hW, HA, HB, hs⟩ := one_open w 28 #[.int .u32 (c.toNat : Int), va, vd]
  have HV := Lib.hid (h1.below HB.out)
  have HD := Lib.hid (h2.below HB.out)
  obtain ⟨A, k, rfl, -, -, hcells⟩ := id HV.out
  obtain ⟨A', k', rfl, -, -, -⟩ := id HD.out
  have HC := Lib.hid hcells
  have c0 := HA.out.cell 0 (.int .u32 (c.toNat : Int)) rfl
  have c1 := HA.out.cell 1 (.slice A ab.length k) rfl
  have c2 := HA.out.cell 2 (.slice A' du.length k') rfl
  obtain ⟨i0, hi0, hz0, hz1, hz2⟩ := info_parts infoG2
  have HI := Lib.hid hi0
  have HZ0 := Lib.hid hz0
  have HZ1 := Lib.hid hz1
  have HZ2 := Lib.hid hz2
  have hst : Strict c ab := hr.strict
  have hnear : ∀ x ∈ ab, 2 ≤ key c x ∧ key c x ≤ 4000 := hr.near
  have HSR := Lib.hid (srt_eq c ab ab hst (fun z => Iff.rfl))
  have HLE := Lib.hid (length_runs_le ab)
  have HST := Lib.hid hst
  have HNE := Lib.hid hnear
  have hgw := HA.out.lt
  obtain ⟨w1, hw1⟩ : ∃ z, z = W := ⟨_, rfl⟩
  have hcl := c.toNat_lt
  clear hcells hr hst hnear hi0 hz0 hz1 hz2
  subst hw1
  go_enter Try.func20, Try.ntmps20
  go_wp2_with fail
  go_loopw [3, 4, 5, 6] (fun vo i _ _ wr => ∃ j : Nat, j ≤ ab.length ∧ i = .int .i64 j ∧ Hid (OwnG wr w1.heap.size 59 2 vo (runs (ab.take j)).length (flat (encK c) (runs (ab.take j)))) ∧ Hid (Below w1.heap.size w1 wr))
    (fun _ i _ _ _ => ab.length - (intOf i).toNat)
  case atStart => exact ⟨0, Nat.zero_le _, rfl, Lib.hid (OwnG.nil _ _ _ _), Lib.hid (Below.refl _ _)⟩
  case round =>
    clear c0 c1 c2
    obtain ⟨j, hj, rfl, HO, HW⟩ := hrel
    have HA1 := Lib.hid (HA.out.later HW.out)
    have c0 := HA1.out.cell 0 (.int .u32 (c.toNat : Int)) rfl
    have c1 := HA1.out.cell 1 (.slice A ab.length k) rfl
    have hszw := HW.out.size
    obtain ⟨Ao, co, rfl, hco, hmco, hal⟩ := HO.out.slice
    have HAL := Lib.hid hal
    clear hal
    by_cases hlt : j < ab.length
    · obtain ⟨b, off, rfl, hb, hc⟩ := HC.out (by omega)
      have hck : wr.cell? ⟨b, off + j, none⟩ = some (.int .u32 (ab[j]!.toNat : Int)) := (HW.out.cell (p := ⟨b, off + j, none⟩) hb).trans (hc j hlt)
      clear hc
      have HTS := Lib.hid (show runs (ab.take (j + 1)) = runStep (runs (ab.take j)) ab[j]! by rw [take_succ' ab j hlt, runs_snoc])
      obtain ⟨_, _, _, _, h5⟩ := runs_facts c (ab.take j) (List.Pairwise.sublist (List.take_sublist j ab) HST.out)
      have HKEY := Lib.hid (show ∀ q ∈ runs (ab.take j), key c q.2 < key c ab[j]! ∧ key c q.2 ≤ 4000 from fun q hq => ⟨strict_take2 c ab HST.out j hlt q.2 (h5 q hq), (HNE.out _ (List.mem_of_mem_take (h5 q hq))).2⟩)
      have hkx : key c ab[j]! ≤ 4000 := (HNE.out _ (by rw [getElem!_pos ab j hlt]; exact List.getElem_mem hlt)).2
      have hrl := length_runs_le (ab.take j)
      rw [List.length_take] at hrl
      clear h5
      generalize ab[j]! = x at *
      have hxl := x.toNat_lt
      have s1 : ((x.toNat : Int) - (c.toNat : Int)) % 4294967296 = (key c x : Int) := sub_toNat32 _ _
      have s1' : IntKind.u32.wrap ((x.toNat : Int) - (c.toNat : Int)) = (key c x : Int) := by rw [← s1]; rfl
      have c5 : (key c x : Int) % 65536 = (key c x : Int) := by omega
      have c5' : IntKind.u16.wrap (key c x : Int) = (key c x : Int) := by rw [u16_wrap, Nat.mod_eq_of_lt (by omega)]
      have HEX : Hid (encK c x = .int .u16 (key c x : Int)) := Lib.hid (by unfold encK; rw [Nat.mod_eq_of_lt (by omega)])
      have i0' : (0 : Int) ≤ (j : Int) := Int.natCast_nonneg _
      have i1' : (j : Int) < (ab.length : Int) := by omega
      rcases List.eq_nil_or_concat (runs (ab.take j)) with hr | ⟨rs, p, hr⟩
      · rw [hr] at HO HTS hco hrl
        rw [hr]
        have HTN : Hid (runs (ab.take (j + 1)) = [(x, x)]) := Lib.hid (HTS.out.trans (runStep_nil x))
        clear HKEY HAL hr HTS hco hmco
        generalize key c x = kx at *
        go_wp2_with fail
        go_quiet (fail)
        go_wp2_with (at_builtin; refine wpList_append_fed _ rfl (.tmp 54) (.tmp 58) 39 39 rfl w1.heap.size 59 i0 _ 2 4 Try.underlying39 (.inr ⟨_, Try.underlying39⟩) HI.out HZ0.out HZ1.out HZ2.out rfl _ 0 _ rfl ((HO.out.drewN _).alloc _) _ 1 [.int .u16 (kx : Int), .int .u16 (kx : Int)] rfl (Fed.block (heap_alloc_new _ _) rfl (by intro u hu; simp at hu; subst hu; rfl)) (by unfold maxLen; omega) (by omega) (by simp; omega) ?_; intro v8 w8 hown hgr; have HO8 := Lib.hid hown; have HB8 := Lib.hid (((below_drewN HW.out _).alloc (by simp; omega) _).grown hgr (by simp; omega) (fun k hk => (HO.out.lt k hk).1)); clear hown hgr)
        go_roundw
        case rel => exact ⟨j + 1, by omega, by go_num, Lib.hid (by have h9 := HO8.out; rw [HTN.out]; rw [show flat (encK c) [(x, x)] = [.int .u16 (kx : Int), .int .u16 (kx : Int)] from by simp [flat, HEX.out]]; exact h9), HB8⟩
        case measure => simp [intOf]; omega
      · rw [hr, List.concat_eq_append] at HO HTS hco hrl HKEY HAL
        rw [hr, List.concat_eq_append]
        clear hr
        have hkp := HKEY.out p (by simp)
        have hksucc := key_succ c p.2 x hkp.1
        have hlen : (rs ++ [p]).length = rs.length + 1 := by simp
        have hfs := flat_snd (encK c) (rs ++ [p]) rs.length (by simp)
        have hff := flat_fst (encK c) (rs ++ [p]) rs.length (by simp)
        rw [List.getElem_concat_length (by rfl)] at hfs hff
        rw [hlen] at HO hco hrl HAL
        obtain ⟨g, rfl, hgB, hgl⟩ := HAL.out (by omega)
        have HEP : Hid (encK c p.2 = .int .u16 (key c p.2 : Int)) := Lib.hid (by unfold encK; rw [Nat.mod_eq_of_lt (by omega)])
        have hcp : wr.cell? ⟨g, rs.length * 2 + 1, none⟩ = some (.int .u16 (key c p.2 : Int)) := (HO.out.cells _ _ hfs).trans (by rw [HEP.out])
        obtain ⟨a1, ha1⟩ : ∃ a : Nat, key c p.1 % 65536 = a := ⟨_, rfl⟩
        have HE1 : Hid (encK c p.1 = .int .u16 (a1 : Int)) := Lib.hid (by unfold encK; rw [ha1])
        have hcf : wr.cell? ⟨g, rs.length * 2, none⟩ = some (.int .u16 (a1 : Int)) := (HO.out.cells _ _ hff).trans (by rw [HE1.out])
        have HS1 := Lib.hid (show ∀ V, Below wr.heap.size wr V → Src V 2 (.slice (some ⟨g, 0, none⟩) rs.length co) rs.length (flat (encK c) rs) from fun V hV => Src.row (by rw [length_flat]) (fun j hj => by
          have hj2 : j < (flat (encK c) rs).length := by rw [length_flat]; exact hj
          rw [Nat.zero_add, hV.cell (p := ⟨g, j, none⟩) hgl, List.getElem?_eq_getElem hj2]
          refine HO.out.cells j _ ?_
          rw [flat_append, List.getElem?_append_left hj2, List.getElem?_eq_getElem hj2]))
        have HYES : Hid (p.2 + 1 = x → runs (ab.take (j + 1)) = rs ++ [(p.1, x)]) := Lib.hid (fun e => HTS.out.trans (runStep_yes rs p x e))
        have HNO : Hid (¬ p.2 + 1 = x → runs (ab.take (j + 1)) = (rs ++ [p]) ++ [(x, x)]) := Lib.hid (fun e => HTS.out.trans (runStep_no rs p x e))
        have a1b : a1 < 65536 := by omega
        clear ha1 HKEY HAL HTS hlen hfs hff
        obtain ⟨m, hm⟩ : ∃ m, rs.length = m := ⟨_, rfl⟩
        rw [hm] at HO hco hrl hcp hcf HS1
        have HM := Lib.hid hm
        have hg2 : (⟨g, m * 2, none⟩ : Addr).block < wr.heap.size := hgl
        have hm0 : (0 : Int) ≤ (m : Int) := Int.natCast_nonneg _
        obtain ⟨kp, hkpe⟩ : ∃ q, key c p.2 = q := ⟨_, rfl⟩
        rw [hkpe] at hkp hksucc hcp
        obtain ⟨kq, hkq⟩ : ∃ q, kp + 1 = q := ⟨_, rfl⟩
        have s4 : ((kp : Int) + 1) % 65536 = (kq : Int) := by omega
        have s4' : IntKind.u16.wrap ((kp : Int) + 1) = (kq : Int) := by rw [show (kp : Int) + 1 = (kq : Nat) by omega, u16_wrap, Nat.mod_eq_of_lt (by omega)]
        have T2 : decide ((0 : Int) < (m : Int) + 1) = true := decide_eq_true (by omega)
        have hmw : IntKind.i64.wrap (m : Int) = (m : Int) := IntWalk.i64_in _ (by omega)
        have hmlt : (m : Int) < (m : Int) + 1 := by omega
        have hmc : (m : Int) ≤ (co : Int) := by omega
        have hmco2 : (co : Int) ≤ 9223372036854775807 := by unfold maxLen at hmco; omega
        have hlenE : (rs ++ [p]).length = m + 1 := by rw [List.length_append, List.length_singleton, hm]
        rw [hlenE]
        by_cases hpx : p.2 + 1 = x
        · have HTN := Lib.hid (HYES.out hpx)
          have hkk : key c x = kq := by rw [hksucc.1 hpx]; exact hkq
          have T1 : ((kq : Int) == (key c x : Int)) = true := by rw [hkk]; simp
          clear hpx hksucc hkp HYES HNO hkpe hkq hlenE hkk
          generalize key c x = kx at *
          go_wp2_with fail
          go_quiet (fail)
          go_wp2_with fail
          have hb9 : Below wr.heap.size wr (wr.drewN nq) := below_drewN (Below.refl _ _) _
          generalize wr.drewN nq = w9 at hb9 ⊢
          have hs9 := hb9.size
          have HP := Lib.hid (show ∀ V, Below wr.heap.size wr V → V.cell? ⟨g, m * 2, none⟩ = some (.int .u16 (a1 : Int)) ∧ Below wr.heap.size wr V from fun V hV => ⟨(hV.cell (p := ⟨g, m * 2, none⟩) hg2).trans hcf, hV⟩)
          go_region_held3 (fun w' => w'.cell? ⟨g, m * 2, none⟩ = some (.int .u16 (a1 : Int)) ∧ Below wr.heap.size wr w')
            (first
              | exact HP.out _ hb9.drew
              | (go_split_ands; refine HP.out _ ?_; assumption)
              | (go_split_ands; refine HP.out _ (Below.drew (Below.alloc (undrew ?_) (Below.size (B := wr.heap.size) (undrew ?_)) _)) <;> assumption)
              | (go_split_ands; refine HP.out _ (Below.alloc ?_ (Below.size (B := wr.heap.size) ?_) _) <;> assumption))
            (first
              | (go_split_ands
                 refine step_append_src _ (by rfl) (.tmp 38) (.tmp 42) _ (by rfl) wr 59 i0 _ 2 4 Try.underlying39 HI.out HZ0.out HZ1.out HZ2.out rfl (by omega) _ 0 [] (by rfl) ?_ _ _ _ (by rfl) (HS1.out _ ?_) flatK_cells ?_ ?_ ?_ ?_
                 first | exact (own_none (heap_new_at _ _ (by simp)) (by first | omega | (simp; omega))).drew | exact (own_none (heap_second_at _ _ _ (by simp)) (by first | omega | (simp; omega))).drew
                 · assumption
                 · simp only [maxLen]; omega
                 · omega
                 · assumption
                 intro v45 w45 hown45 hg45 hb45)
              | (go_split_ands
                 refine step_append_src _ (by rfl) (.tmp 43) (.tmp 52) _ (by rfl) wr 59 i0 _ 2 4 Try.underlying39 HI.out HZ0.out HZ1.out HZ2.out rfl (by omega) _ (0 + m) ([] ++ flat (encK c) rs) (by rfl) ?_ _ 1 [.int .u16 (a1 : Int), .int .u16 (kx : Int)] (by rfl) ?_ ?_ ?_ ?_ ?_ ?_
                 · first | exact hown45 | exact hown45.alloc _
                 · first | exact Src.block (t := 59) (heap_new_at _ _ (by simp)) rfl | exact Src.grown (t := 59) (undrew_heap2 (heap_new_at _ _ (by simp))) rfl hg45 (by show some _ ≠ some _; simp) | exact Src.grown (t := 59) (undrew_heap2 (heap_second_at _ _ _ (by simp))) rfl hg45 (by show some _ ≠ some _; simp)
                 · intro u hu; simp at hu; rcases hu with rfl | rfl <;> rfl
                 · simp only [maxLen]; omega
                 · omega
                 · assumption
                 intro v58 w58 hown58 hg58 hb58))
          all_goals
            go_wp2
            go_roundw
            case rel =>
              refine ⟨j + 1, by omega, by go_num, Lib.hid ?_, Lib.hid (HW.out.trans (hb58.mono hszw))⟩
              rw [HTN.out]
              have h := (OwnG.of hown58).base (B' := w1.heap.size) hszw
              rw [show (rs ++ [(p.1, x)]).length = 0 + m + 1 by have := HM.out; simp; omega, show flat (encK c) (rs ++ [(p.1, x)]) = ([] ++ flat (encK c) rs) ++ [.int .u16 (a1 : Int), .int .u16 (kx : Int)] by rw [flat_append]; simp [flat, HE1.out, HEX.out]]
              exact h
            case measure => simp [intOf]; omega
        · have HTN := Lib.hid (HNO.out hpx)
          have T1 : ((kq : Int) == (key c x : Int)) = false := by rw [beq_eq_false_iff_ne]; intro h; exact hpx (hksucc.2 (by omega))
          clear hpx hksucc hkp HYES HNO hkpe hkq hlenE
          generalize key c x = kx at *
          go_wp2_with fail
          go_quiet (fail)
          go_wp2_with (at_builtin; refine wpList_append_fed _ rfl (.tmp 54) (.tmp 58) 39 39 rfl w1.heap.size 59 i0 _ 2 4 Try.underlying39 (.inr ⟨_, Try.underlying39⟩) HI.out HZ0.out HZ1.out HZ2.out rfl _ (m + 1) _ rfl ((HO.out.drewN _).alloc _) _ 1 [.int .u16 (kx : Int), .int .u16 (kx : Int)] rfl (Fed.block (heap_alloc_new _ _) rfl (by intro u hu; simp at hu; subst hu; rfl)) (by unfold maxLen; omega) (by omega) (by simp; omega) ?_; intro v8 w8 hown hgr; have HO8 := Lib.hid hown; have HB8 := Lib.hid (((below_drewN HW.out _).alloc (by simp; omega) _).grown hgr (by simp; omega) (fun k hk => (HO.out.lt k hk).1)); clear hown hgr)
          go_roundw
          case rel => exact ⟨j + 1, by omega, by go_num, Lib.hid (by have h9 := HO8.out; rw [HTN.out]; rw [flat_append _ (rs ++ [p]) _, show flat (encK c) [(x, x)] = [.int .u16 (kx : Int), .int .u16 (kx : Int)] from by simp [flat, HEX.out], show ((rs ++ [p]) ++ [(x, x)]).length = m + 1 + 1 from by have := HM.out; simp; omega]; exact h9), HB8⟩
          case measure => simp [intOf]; omega
    · obtain rfl : j = ab.length := by omega
      rw [List.take_length] at HO ⊢
      have hle := HLE.out
      have HGE : Hid ((gapsG ⟨c, ab, du⟩).length = (runs ab).length ∧ flatG (gapsG ⟨c, ab, du⟩) = flat (encK c) (runs ab)) := Lib.hid (by
        have h9 : gapsG ⟨c, ab, du⟩ = (runs ab).map (gapOf c) := by
          show List.take 100 (List.map (gapOf c) (runs (srt c ab))) = _
          rw [← HSR.out, List.take_of_length_le (by rw [List.length_map]; omega)]
        rw [h9, List.length_map, flat_gaps]
        exact ⟨rfl, rfl⟩)
      generalize (runs ab).length = n at *
      have q9 : ¬ (100 : Int) < (n : Int) := by omega
      go_wp2_with fail
      go_ret
      exact ⟨_, rfl, by rw [HGE.out.1, HGE.out.2]; exact HO.out.base (by omega), HB.out.trans (HW.out.mono (by omega))⟩
end Go.Proofs.Ytfdnphkdpmlbnaa
