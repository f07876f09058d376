/-
  The document's digest: the registers behind a block.
-/
import Derived.Test.YthfiebdpoleeeaaDoorRefB
import Derived.StillTailTactics
namespace Go.Proofs.YthfiebdpoleeeaaDoor
open Go.RowKit
set_option linter.unusedVariables false

theorem enc32_map_at (l : List UInt32) {j : Nat} (h : j < l.length) : (l.map enc32)[j]? = some (.int .u32 (l[j]!.toNat : Int)) := by
  rw [List.getElem?_map, List.getElem?_eq_getElem h, getElem!_pos l j h]; rfl
/-- What the call owns, cell by cell. -/
theorem own_cells {w : World} {base n : Nat} {e : TypeId} {g cap : Nat} {l : List UInt32} (h : w.ownsRow base e 1 (.slice (some ⟨g, 0, none⟩) n cap) n (l.map enc32)) {j : Nat} (hj : j < n) : w.cell? ⟨g, j, none⟩ = some (.int .u32 (l[j]!.toNat : Int)) := by
  have hl : l.length = n := by have := h.1; simpa using this
  rw [h.cellAt j (by omega), enc32_map_at l (by omega)]
set_option maxHeartbeats 4000000 in
set_option maxRecDepth 100000 in
theorem rblock_any (b : ByteArray) (hb : b.size = 64) (l : List UInt32) (hl : l.length = 8) (v : Value) (w : World) (hv : RowE enc32 w v l) : Calls Tryd.prog 55 #[v, .string b] w fun e w' => ∃ v', e = .returned v' ∧ w'.ownsRow w.heap.size 22 1 v' 8 ((behindBlock l (words b.data.toList 0)).map enc32) ∧ Below w.heap.size w w' := by
  obtain ⟨i0, hi0, hz0, hz1, hz2⟩ := info_parts info32
  have HI := Lib.hid hi0
  have HZ0 := Lib.hid hz0
  have HZ1 := Lib.hid hz1
  have HZ2 := Lib.hid hz2
  clear hi0 hz0 hz1 hz2
  have HV := Lib.hid hv
  obtain ⟨A, cap, rfl, hcap, hmax, hcells⟩ := hv
  rw [hl] at hcap HV ⊢
  obtain ⟨br, off, rfl, hbr, hrc⟩ := hcells (by omega)
  rw [hl] at hrc
  have HRC := Lib.hid hrc
  have HL := Lib.hid hl
  clear hrc hl
  go_enter Tryd.func55, Tryd.ntmps55
  go_wp2_with fail
  refine (rwords_any b hb w).mono ?_
  rintro e w1 ⟨vw, rfl, how, hb1⟩
  have HB1 := Lib.hid hb1
  have HOW := Lib.hid how
  clear hb1 how hb
  go_wp2_with fail
  refine (constants_any w1).mono ?_
  rintro e w2 ⟨rfl, hw2⟩
  have HB2 := Lib.hid (show Below w.heap.size w w2 by rw [hw2]; exact HB1.out.alloc HB1.out.size _)
  have HC2 := Lib.hid (show w2.heap[w1.heap.size]? = some (.cells constCells 22 (0, 0)) by rw [hw2]; exact heap_alloc_new w1 _)
  have HOW2 := Lib.hid (show w2.ownsRow w.heap.size 22 1 vw 64 ((sched 48 (words b.data.toList 0)).map enc32) by rw [hw2]; exact HOW.out.alloc _)
  have hs2 := HB2.out.size
  have hsw : w1.heap.size < w2.heap.size := by rw [hw2]; simp
  clear hw2
  have HSRC := Lib.hid (show ∀ j u, (l.map enc32)[j]? = some u → (w2.alloc (.cells #[] 22)).cell? ((⟨br, off, none⟩ : Addr).add j) = some u from fun j u hu => by
    have hj : j < l.length := by have := (List.getElem?_eq_some_iff.1 hu).1; simpa using this
    rw [addr_plain, World.cell?_alloc_lt _ _ ⟨br, off + j, none⟩ (Nat.lt_of_lt_of_le hbr hs2), HB2.out.cell (p := ⟨br, off + j, none⟩) hbr, HRC.out j (by have := HL.out; omega), ← hu, enc32_map_at l hj]
    rfl)
  clear hcells
  go_wp2_with (at_builtin; refine wpList_append_own _ rfl (.tmp 17) (.tmp 18) 98 rfl w.heap.size 22 i0 (.int .u32 0) 1 4 Tryd.underlying98 HI.out HZ0.out HZ1.out HZ2.out rfl (by decide) _ 0 [] rfl (own_none (size := 1) (heap_alloc_new w2 _) hs2) ⟨br, off, none⟩ 8 cap (l.map enc32) rfl (by rw [List.length_map, HL.out]) HSRC.out ?c2 ?c3 ?c4 ?c5 ?_)
  case c2 => intro u hu; obtain ⟨z, _, rfl⟩ := List.mem_map.1 hu; rfl
  case c3 => simp [maxLen]
  case c4 => omega
  case c5 => simp; omega
  intro v3 w3 hown3 hg3 _
  have hown3' : w3.ownsRow w.heap.size 22 1 v3 8 (l.map enc32) := by simpa using hown3
  have HO3 := Lib.hid hown3'
  have HB3 := Lib.hid (below_append (HB2.out.alloc hs2 _) (by simp; omega) (own_none (size := 1) (heap_alloc_new w2 _) hs2) hg3)
  have HX3 := Lib.hid (show Below w2.heap.size w2 w3 from (((Below.refl w2.heap.size w2).alloc (Nat.le_refl _) _).grown hg3 (by simp) (fun g hg => by simp [Value.ownBlock] at hg; omega)))
  clear hown3 hown3' hg3 HSRC
  obtain ⟨gw, capw, rfl, hgw1, hgw2⟩ := own_form HOW2.out (by omega)
  have HW := Lib.hid (show ∀ W, Below w2.heap.size w2 W → ∀ j, j < 64 → W.cell? ⟨gw, j, none⟩ = some (.int .u32 ((sched 48 (words b.data.toList 0))[j]!.toNat : Int)) from fun W hW j hj =>
    (hW.cell (p := ⟨gw, j, none⟩) hgw2).trans (own_cells HOW2.out hj))
  have HC := Lib.hid (show ∀ W, Below w2.heap.size w2 W → ∀ j, j < 64 → W.cell? ⟨w1.heap.size, j, none⟩ = some (.int .u32 (consts[j]!.toNat : Int)) from fun W hW j hj => by
    rw [hW.cell (p := ⟨w1.heap.size, j, none⟩) hsw, cell_of_row _ _ _ _ _ (0, 0) HC2.out]
    show (consts.map enc32).toArray[j]? = _
    rw [List.getElem?_toArray]
    exact enc32_map_at consts hj)
  generalize hgk : w1.heap.size = gk at *
  clear HOW HOW2 HC2 HB1 hgk
  have hcl := HL.out
  obtain ⟨ws, hws⟩ : ∃ ws, ws = sched 48 (words b.data.toList 0) := ⟨_, rfl⟩
  rw [← hws] at HW
  have HWS := Lib.hid hws
  clear hws
  have HT0 : Hid (w3.ownsRow w.heap.size 22 1 v3 8 ((turns ws l 0).map enc32) ∧ Below w.heap.size w w3 ∧ Below w2.heap.size w2 w3) := Lib.hid ⟨HO3.out, HB3.out, HX3.out⟩
  clear HO3 hcl
  go_wp2_with fail
  go_loopw [7, 8] (fun v i wr => ∃ t : Nat, t ≤ 64 ∧ i = .int .i64 t ∧ Hid (wr.ownsRow w.heap.size 22 1 v 8 ((turns ws l t).map enc32) ∧ Below w.heap.size w wr ∧ Below w2.heap.size w2 wr))
    (fun _ i _ => 64 - (intOf i).toNat)
  case atStart => exact ⟨0, by omega, rfl, HT0⟩
  case round =>
    obtain ⟨t, ht, rfl, HR⟩ := hrel
    obtain ⟨g, cap7, rfl, hg1, hg2⟩ := own_form HR.out.1 (by omega)
    by_cases hlt : t < 64
    · have hlen := turns_length ws l HL.out t
      have HE := Lib.hid (show turns ws l (t + 1) = turn consts[t]! ws[t]! (turns ws l t) from rfl)
      have c0 := own_cells HR.out.1 (j := 0) (by omega)
      have c1 := own_cells HR.out.1 (j := 1) (by omega)
      have c2 := own_cells HR.out.1 (j := 2) (by omega)
      have c3 := own_cells HR.out.1 (j := 3) (by omega)
      have c4 := own_cells HR.out.1 (j := 4) (by omega)
      have c5 := own_cells HR.out.1 (j := 5) (by omega)
      have c6 := own_cells HR.out.1 (j := 6) (by omega)
      have c7 := own_cells HR.out.1 (j := 7) (by omega)
      have ck := HC.out wr HR.out.2.2 t hlt
      have cw := HW.out wr HR.out.2.2 t hlt
      have hT1 : (((add32 (turns ws l t)[7]! (lg1 (turns ws l t)[4]!)).toNat : Int) + ((ch (turns ws l t)[4]! (turns ws l t)[5]! (turns ws l t)[6]!).toNat : Int) + (consts[t]!.toNat : Int) + (ws[t]!.toNat : Int)) % 4294967296 = ((tOne consts[t]! ws[t]! (turns ws l t)).toNat : Int) := by
        exact r_add4 _ _ _ _
      have hT2 : add32 (lg0 (turns ws l t)[0]!) (maj (turns ws l t)[0]! (turns ws l t)[1]! (turns ws l t)[2]!) = tTwo (turns ws l t) := rfl
      have HTU := Lib.hid (show turn consts[t]! ws[t]! (turns ws l t) = [add32 (tOne consts[t]! ws[t]! (turns ws l t)) (tTwo (turns ws l t)), (turns ws l t)[0]!, (turns ws l t)[1]!, (turns ws l t)[2]!, add32 (turns ws l t)[3]! (tOne consts[t]! ws[t]! (turns ws l t)), (turns ws l t)[4]!, (turns ws l t)[5]!, (turns ws l t)[6]!] from rfl)
      unfold lg1 ch at hT1
      unfold lg0 maj at hT2
      generalize tOne consts[t]! ws[t]! (turns ws l t) = T1 at *
      generalize tTwo (turns ws l t) = T2 at *
      generalize turns ws l t = s8 at *
      generalize s8[0]! = x0 at *
      generalize s8[1]! = x1 at *
      generalize s8[2]! = x2 at *
      generalize s8[3]! = x3 at *
      generalize s8[4]! = x4 at *
      generalize s8[5]! = x5 at *
      generalize s8[6]! = x6 at *
      generalize s8[7]! = x7 at *
      generalize consts[t]! = xk at *
      generalize ws[t]! = xw at *
      have rx := r_xor
      have ra := r_addw
      have rn := r_not
      have rd := r_and
      have z1 : (0 : Int) ≤ (t : Int) := by omega
      have z2 : (t : Int) < 64 := by omega
      clear hlen
      have HT1 := Lib.hid hT1
      have HT2 := Lib.hid hT2
      clear hT1 hT2
      go_wp2_with fail
      go_quiet ((go_at_call 66; exact Calls.quiet_of (right_z _ (by omega) (by omega) _ _)))
      go_wp2_with fail
      rw [HT1.out]
      have d0 : (wr.drewN nq).cell? ⟨g, 0, none⟩ = some (.int .u32 (x0.toNat : Int)) := c0
      have d1 : (wr.drewN nq).cell? ⟨g, 1, none⟩ = some (.int .u32 (x1.toNat : Int)) := c1
      have d2 : (wr.drewN nq).cell? ⟨g, 2, none⟩ = some (.int .u32 (x2.toNat : Int)) := c2
      have d3 : (wr.drewN nq).cell? ⟨g, 3, none⟩ = some (.int .u32 (x3.toNat : Int)) := c3
      have d4 : (wr.drewN nq).cell? ⟨g, 4, none⟩ = some (.int .u32 (x4.toNat : Int)) := c4
      have d5 : (wr.drewN nq).cell? ⟨g, 5, none⟩ = some (.int .u32 (x5.toNat : Int)) := c5
      have d6 : (wr.drewN nq).cell? ⟨g, 6, none⟩ = some (.int .u32 (x6.toNat : Int)) := c6
      have hgd : g < (wr.drewN nq).heap.size := hg2
      have HBQ : Hid (Below w.heap.size w (wr.drewN nq) ∧ Below w2.heap.size w2 (wr.drewN nq)) := Lib.hid ⟨below_drewN HR.out.2.1 _, below_drewN HR.out.2.2 _⟩
      clear c0 c1 c2 c3 c4 c5 c6 c7 ck cw HR hg2
      generalize wr.drewN nq = wq at *
      go_quiet ((go_at_call 66; exact Calls.quiet_of (right_z _ (by omega) (by omega) _ _)))
      go_wp2_with fail
      rw [HT2.out]
      have e0 : (wq.drewN nq).cell? ⟨g, 0, none⟩ = some (.int .u32 (x0.toNat : Int)) := d0
      have e1 : (wq.drewN nq).cell? ⟨g, 1, none⟩ = some (.int .u32 (x1.toNat : Int)) := d1
      have e2 : (wq.drewN nq).cell? ⟨g, 2, none⟩ = some (.int .u32 (x2.toNat : Int)) := d2
      have e3 : (wq.drewN nq).cell? ⟨g, 3, none⟩ = some (.int .u32 (x3.toNat : Int)) := d3
      have e4 : (wq.drewN nq).cell? ⟨g, 4, none⟩ = some (.int .u32 (x4.toNat : Int)) := d4
      have e5 : (wq.drewN nq).cell? ⟨g, 5, none⟩ = some (.int .u32 (x5.toNat : Int)) := d5
      have e6 : (wq.drewN nq).cell? ⟨g, 6, none⟩ = some (.int .u32 (x6.toNat : Int)) := d6
      have hge : g < (wq.drewN nq).heap.size := hgd
      have HBE : Hid (Below w.heap.size w (wq.drewN nq) ∧ Below w2.heap.size w2 (wq.drewN nq)) := Lib.hid ⟨below_drewN HBQ.out.1 _, below_drewN HBQ.out.2 _⟩
      clear d0 d1 d2 d3 d4 d5 d6 HBQ hgd
      generalize wq.drewN nq = we at *
      have HE0 := Lib.hid (And.intro e0 (And.intro e1 (And.intro e2 (And.intro e3 (And.intro e4 (And.intro e5 e6))))))
      have HEA := Lib.hid (show ∀ o, (we.alloc o).cell? ⟨g, 0, none⟩ = some (.int .u32 (x0.toNat : Int)) ∧ (we.alloc o).cell? ⟨g, 1, none⟩ = some (.int .u32 (x1.toNat : Int)) ∧ (we.alloc o).cell? ⟨g, 2, none⟩ = some (.int .u32 (x2.toNat : Int)) ∧ (we.alloc o).cell? ⟨g, 3, none⟩ = some (.int .u32 (x3.toNat : Int)) ∧ (we.alloc o).cell? ⟨g, 4, none⟩ = some (.int .u32 (x4.toNat : Int)) ∧ (we.alloc o).cell? ⟨g, 5, none⟩ = some (.int .u32 (x5.toNat : Int)) ∧ (we.alloc o).cell? ⟨g, 6, none⟩ = some (.int .u32 (x6.toNat : Int)) from fun o =>
        have k := fun j => World.cell?_alloc_lt we o ⟨g, j, none⟩ hge
        ⟨(k 0).trans e0, (k 1).trans e1, (k 2).trans e2, (k 3).trans e3, (k 4).trans e4, (k 5).trans e5, (k 6).trans e6⟩)
      clear e0 e1 e2 e3 e4 e5 e6
      go_region_held3 (fun w' => w'.cell? ⟨g, 0, none⟩ = some (.int .u32 (x0.toNat : Int)) ∧ w'.cell? ⟨g, 1, none⟩ = some (.int .u32 (x1.toNat : Int)) ∧ w'.cell? ⟨g, 2, none⟩ = some (.int .u32 (x2.toNat : Int)) ∧ w'.cell? ⟨g, 3, none⟩ = some (.int .u32 (x3.toNat : Int)) ∧ w'.cell? ⟨g, 4, none⟩ = some (.int .u32 (x4.toNat : Int)) ∧ w'.cell? ⟨g, 5, none⟩ = some (.int .u32 (x5.toNat : Int)) ∧ w'.cell? ⟨g, 6, none⟩ = some (.int .u32 (x6.toNat : Int)))
        (first | exact HE0.out | exact HEA.out _)
        (fail)
      go_wp2_with fail
      go_roundw
      case rel =>
        refine ⟨t + 1, by omega, by go_num, Lib.hid ⟨?_, (HBE.out.1.alloc HBE.out.1.size _).drew, (HBE.out.2.alloc HBE.out.2.size _).drew⟩⟩
        rw [HE.out, HTU.out]
        exact ⟨rfl, .inr ⟨we.heap.size, 8, _, rfl, HBE.out.1.size, heap_alloc_new we _, Nat.le_refl _, by decide, rfl, rfl⟩⟩
      case measure => simp [intOf]; omega
    · obtain rfl : t = 64 := by omega
      rw [show ((64 : Nat) : Int) = 64 from rfl]
      have hlt64 := turns_length ws l HL.out 64
      have HZ : Hid (List.zipWith add32 (turns ws l 64) l = behindBlock l (words b.data.toList 0)) := Lib.hid (by unfold behindBlock; rw [← HWS.out])
      have hR2 : ∀ W, Below w.heap.size w W → ∀ j, j < 8 → W.cell? ⟨br, off + j, none⟩ = some (.int .u32 (l[j]!.toNat : Int)) := fun W hW j hj => (hW.cell (p := ⟨br, off + j, none⟩) hbr).trans (HRC.out j hj)
      have HR2 := Lib.hid hR2
      have HTL := Lib.hid hlt64
      clear hR2 hlt64 HC HW
      generalize turns ws l 64 = T at *
      have HQ : Hid (wr.ownsRow w.heap.size 22 1 (.slice (some ⟨g, 0, none⟩) 8 cap7) 8 (((List.zipWith add32 T l).take 0 ++ T.drop 0).map enc32) ∧ Below w.heap.size w wr) := Lib.hid ⟨by simpa using HR.out.1, HR.out.2.1⟩
      clear HR
      go_wp2_with fail
      obtain ⟨wo, hwo⟩ : ∃ wo : World, wo = wr := ⟨_, rfl⟩
      rw [← hwo] at HQ hg2 ⊢
      clear hwo
      go_loopw [13] (fun i wr => ∃ k : Nat, k ≤ 8 ∧ i = .int .i64 k ∧ Hid (wr.ownsRow w.heap.size 22 1 (.slice (some ⟨g, 0, none⟩) 8 cap7) 8 (((List.zipWith add32 T l).take k ++ T.drop k).map enc32) ∧ Below w.heap.size w wr))
        (fun i _ => 8 - (intOf i).toNat)
      case atStart => exact ⟨0, by omega, rfl, HQ⟩
      case round =>
        obtain ⟨k, hk, rfl, HR⟩ := hrel
        by_cases hk8 : k < 8
        · have hcs := own_cells HR.out.1 hk8
          have hcr := HR2.out wr HR.out.2 k hk8
          have hTl := HTL.out
          have hll := HL.out
          have hat : (List.take k (List.zipWith add32 T l) ++ List.drop k T)[k]! = T[k]! := by
            rw [getElem!_pos _ k (by simp; omega), getElem!_pos T k (by omega), List.getElem_append_right (by simp; omega)]
            simp
            congr 1
            omega
          rw [hat] at hcs
          have hz1 : (0 : Int) ≤ (k : Int) := by omega
          have hz2 : (k : Int) < 8 := by omega
          have hz3 : off + k < off + 8 := by omega
          have ra := r_addw
          have hnx : List.take (k + 1) (List.zipWith add32 T l) ++ List.drop (k + 1) T = (List.take k (List.zipWith add32 T l) ++ List.drop k T).set k (add32 T[k]! l[k]!) := by
            apply List.ext_getElem?
            intro j
            rw [List.getElem?_set]
            by_cases hj : k = j
            · subst hj
              rw [if_pos rfl, if_pos (by simp; omega), List.getElem?_append_left (by simp; omega), List.getElem?_take, if_pos (by omega), List.getElem?_zipWith, List.getElem?_eq_getElem (by omega), List.getElem?_eq_getElem (by omega), getElem!_pos T k (by omega), getElem!_pos l k (by omega)]
            · rw [if_neg hj]
              by_cases hj2 : j < k
              · rw [List.getElem?_append_left (by simp; omega), List.getElem?_append_left (by simp; omega), List.getElem?_take, List.getElem?_take, if_pos (by omega), if_pos hj2]
              · rw [List.getElem?_append_right (by simp; omega), List.getElem?_append_right (by simp; omega), List.getElem?_drop, List.getElem?_drop]
                congr 1
                simp
                omega
          have HNX := Lib.hid hnx
          clear hnx hat hTl hll
          generalize T[k]! = x at *
          generalize l[k]! = y at *
          go_wp2_with fail
          go_still_tail 12, (by kernel_rfl)
          change wpList _ _ _ _ _ wr.drew
          have HD : Hid (wr.drew.ownsRow w.heap.size 22 1 (.slice (some ⟨g, 0, none⟩) 8 cap7) 8 (((List.zipWith add32 T l).take k ++ T.drop k).map enc32) ∧ Below w.heap.size w wr.drew) := Lib.hid ⟨HR.out.1, HR.out.2.drew⟩
          clear hcs hcr HR
          generalize wr.drew = wd at *
          have hc := own_cells HD.out.1 hk8
          generalize (List.take k (List.zipWith add32 T l) ++ List.drop k T)[k]! = x9 at hc
          have hf := HD.out.1.frozenAt k
          go_wp2_with fail
          go_roundw
          case rel =>
            refine ⟨k + 1, by omega, by go_num, Lib.hid ⟨?_, HD.out.2.setCell hg1 _⟩⟩
            have h := (HD.out.1.stored k (enc32 (add32 x y))).1
            rw [HNX.out, List.map_set]
            exact h
          case measure => simp [intOf]; omega
        · obtain rfl : k = 8 := by omega
          rw [show ((8 : Nat) : Int) = 8 from rfl]
          go_wp2_with fail
          go_ret
          refine ⟨_, rfl, ?_, HR.out.2⟩
          have h := HR.out.1
          have h1 := HTL.out
          have h2 := HL.out
          rw [List.take_of_length_le (by rw [List.length_zipWith]; omega), List.drop_of_length_le (by omega), List.append_nil, HZ.out] at h
          exact h
end Go.Proofs.YthfiebdpoleeeaaDoor
