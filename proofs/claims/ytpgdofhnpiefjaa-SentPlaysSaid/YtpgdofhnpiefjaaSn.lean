/-
  Package sent: Ack, where what is told may be told: contract.
-/
import Derived.Test.YtpgdofhnpiefjaaSl
namespace Go.Proofs.Ytpgdofhnpiefjaa
open Go.RowKit
set_option linter.unusedVariables false
set_option linter.unusedSimpArgs false
set_option maxRecDepth 100000

theorem RAt.putDn {W : World} {gr B : Nat} {r : Rs} {A8 A2 : Option Addr} {k8 k2 : Nat} (ts : UInt32) (hbx : Bx W gr 42 #[.int .i64 r.by', .int .i64 r.out, .bool r.mo, .bool r.fr, .slice A8 (r.dn.length + 1) k8, .slice none 0 0, .slice A2 r.tk.length k2])
    (hdn : OwnG W B 22 1 (.slice A8 (r.dn.length + 1) k8) (r.dn.length + 1) (r.dn.map enc32 ++ [.int .u32 (ts.toNat : Int)])) (htk : OwnG W B 3 1 (.slice A2 r.tk.length k2) r.tk.length (r.tk.map encI)) (hne : ∀ z, (Value.slice A8 (r.dn.length + 1) k8).ownBlock = some z → (Value.slice A2 r.tk.length k2).ownBlock ≠ some z) (hlt : gr < B) (hbs : B ≤ W.heap.size) : RAt W gr B { r with dn := r.dn ++ [ts] } A8 k8 A2 k2 := by
  have e : (r.dn ++ [ts]).length = r.dn.length + 1 := by simp
  have e2 : (r.dn ++ [ts]).map enc32 = r.dn.map enc32 ++ [.int .u32 (ts.toNat : Int)] := by rw [List.map_append]; rfl
  refine ⟨?_, ?_, htk, ?_, hlt, hbs⟩
  · show Bx W gr 42 #[.int .i64 r.by', .int .i64 r.out, .bool r.mo, .bool r.fr, .slice A8 (r.dn ++ [ts]).length k8, .slice none 0 0, .slice A2 r.tk.length k2]
    rw [e]; exact hbx
  · show OwnG W B 22 1 (.slice A8 (r.dn ++ [ts]).length k8) (r.dn ++ [ts]).length ((r.dn ++ [ts]).map enc32)
    rw [e, e2]; exact hdn
  · show ∀ z, (Value.slice A8 (r.dn ++ [ts]).length k8).ownBlock = some z → _
    rw [e]; exact hne
theorem row_drop {w : World} {A : Option Addr} {cap k : Nat} {l : List Pc} (h : RowP w (.slice A l.length cap) l) (hk : k ≤ l.length) : RowP w (.slice (A.map fun x => x.add (k * 7)) (l.length - k) (cap - k)) (l.drop k) := by
  obtain ⟨A', cap', e, h1, h2, h3⟩ := h
  cases e
  have e : (l.drop k).length = l.length - k := by simp
  refine ⟨_, cap - k, by rw [e], by omega, by omega, fun hp => ?_⟩
  obtain ⟨b, off, rfl, hb, hc⟩ := h3 (by omega)
  refine ⟨b, off + k * 7, by simp [addr_plain], hb, fun j hj => ?_⟩
  have hj' : k + j < l.length := by omega
  have h9 := hc (k + j) hj'
  rw [List.getElem_drop]
  rw [show off + k * 7 + j * 7 = off + (k + j) * 7 by omega]
  exact h9
set_option maxHeartbeats 2000000 in
theorem ack_yes (c cum : UInt32) (l : List Pc) (gs : List (Nat × Nat)) (now : Int) (hl : l.length ≤ 64) (hgl : gs.length ≤ 1000) (hsm : SmallG gs) (hok : ∀ x ∈ l, OkPc x) (v vg : Value) (w : World) (h : RowP w v l) (hvg : RowGp w vg gs) (hmay : mayB c l cum gs = true) :
    Calls Try.prog 9 #[.agg #[.int .u32 (c.toNat : Int), v], .int .u32 (cum.toNat : Int), vg, .int .i64 now] w fun e w' => ∃ A k A1 k1 A2 k2 A3 k3, e = .returned (.tuple #[.agg #[.int .u32 (cum.toNat : Int), .slice A (l.length - dist c cum) k], .agg #[.int .i64 (ackM now l gs (dist c cum)).r.by', .int .i64 (ackM now l gs (dist c cum)).r.out, .bool (ackM now l gs (dist c cum)).r.mo, .bool (ackM now l gs (dist c cum)).r.fr, .slice A1 (dist c cum) k1, .slice A2 (ackF now l gs (dist c cum)).length k2, .slice A3 (ackM now l gs (dist c cum)).r.tk.length k3], .bool true]) ∧ RowP w' (.slice A (l.length - dist c cum) k) (ackL2 now l gs (dist c cum)) ∧ Fresh w.heap.size (.slice A (l.length - dist c cum) k) ∧ RowE enc32 w' (.slice A1 (dist c cum) k1) (ackM now l gs (dist c cum)).r.dn ∧ Fresh w.heap.size (.slice A1 (dist c cum) k1) ∧ Below w.heap.size w w' := by
  have hdk : dist c cum ≤ l.length := by unfold mayB at hmay; simp at hmay; exact hmay.1
  obtain ⟨W, hW, HA, HZ, HR, HB, hs⟩ := three_open w 27 27 42 #[.int .u32 (c.toNat : Int), v] #[.int .u32 0, .slice none 0 0] #[.int .i64 0, .int .i64 0, .bool false, .bool false, .slice none 0 0, .slice none 0 0, .slice none 0 0]
  have HM := Lib.hid (may_any c cum l gs hl hgl hsm v vg W (h.below HB.out) (hvg.below HB.out))
  rw [hmay] at HM
  have HV := Lib.hid (h.below HB.out)
  have HVG := Lib.hid (hvg.below HB.out)
  have HV0 := Lib.hid h
  have HVG0 := Lib.hid hvg
  have HUN := Lib.hid (fun W h => under_any c l (-1) (by omega) hok v W h)
  have HDI := Lib.hid (fun W => dist_any (c.toNat : Int) (cum.toNat : Int) (by omega) (by have := c.toNat_lt; omega) (by omega) (by have := cum.toNat_lt; omega) W)
  rw [dist_near c cum (by omega)] at HDI
  have HOK := Lib.hid hok
  obtain ⟨A, cap, rfl, hcap, hmx, _⟩ := id h
  obtain ⟨Ag, kg, rfl, _, _, _⟩ := id hvg
  have hmx' : (cap : Int) ≤ 9223372036854775807 := by unfold maxLen at hmx; omega
  have HSM := Lib.hid hsm
  clear h hvg hmay hok hsm
  obtain ⟨un, hun⟩ : ∃ u, underL (-1) l = u := ⟨_, rfl⟩
  obtain ⟨K, hK⟩ : ∃ K, dist c cum = K := ⟨_, rfl⟩
  have HR0 : Hid (goneTo now l K 0 = ⟨0, un, decide (0 < K), false, [], [], []⟩) := Lib.hid (by rw [← hun]; rfl)
  rw [hun] at HUN
  rw [hK] at HDI hdk ⊢
  have HKK := Lib.hid hK
  clear hun hK
  have q1 : (0 : Int) ≤ (K : Int) := by omega
  have q2 : (K : Int) ≤ (l.length : Int) := by omega
  have q3 : (l.length : Int) ≤ 64 := by omega
  have q4 : (l.length : Int) ≤ (cap : Int) := by omega
  go_enter Try.func9, Try.ntmps9
  go_wp2_with (first
    | ((with_reducible refine gate9 ?_); refine ldB rfl rfl rfl HA.out Try.underlying27 rfl infoS ?_)
    | (go_at_call 18; (with_reducible refine HM.out.mono ?_); rintro e w1 ⟨rfl, hb⟩; replace HA := Lib.hid (HA.out.later hb); replace HZ := Lib.hid (HZ.out.later hb); replace HR := Lib.hid (HR.out.later hb); replace HB := Lib.hid (HB.out.trans (hb.mono HB.out.size)); replace HV := Lib.hid (HV.out.below hb); replace HVG := Lib.hid (HVG.out.below hb); have hs1 : w.heap.size + 3 ≤ w1.heap.size := (by have := hb.size; omega); clear hb; have c0 := HA.out.cell 0 (.int .u32 (c.toNat : Int)) rfl)
    | (go_at_call 20; (with_reducible refine (HDI.out _).mono ?_); rintro e w2 ⟨rfl, rfl⟩)
    | (go_at_call 8; (with_reducible refine (HUN.out _ HV.out).mono ?_); rintro e w3 ⟨rfl, hb⟩; replace HA := Lib.hid (HA.out.later hb); replace HZ := Lib.hid (HZ.out.later hb); replace HR := Lib.hid (HR.out.later hb); replace HB := Lib.hid (HB.out.trans (hb.mono HB.out.size)); replace HV := Lib.hid (HV.out.below hb); replace HVG := Lib.hid (HVG.out.below hb); have hs3 : w.heap.size + 3 ≤ w3.heap.size := (by have := hb.size; omega); clear hb; obtain ⟨W4, hW4, HX, HB4, hs4⟩ := one_open w3 42 #[.int .i64 0, .int .i64 0, .bool false, .bool false, .slice none 0 0, .slice none 0 0, .slice none 0 0]; obtain ⟨g12, hg12⟩ : ∃ g, w3.heap.size = g := ⟨_, rfl⟩; rw [hg12] at HX hs4)
    | ((with_reducible refine gate9 ?_); refine stB (ty := 42) #[.int .i64 0, .int .i64 un, .bool (decide (0 < K)), .bool false, .slice none 0 0, .slice none 0 0, .slice none 0 0] rfl rfl rfl rfl HX.out infoR rfl (cellsR_one _ _ _ _ _ _ _ _ _ _ _ _ _) ?_; intro w5 ht hg; replace HA := Lib.hid ((HA.out.later HB4.out).kept hg (by omega)); replace HZ := Lib.hid ((HZ.out.later HB4.out).kept hg (by omega)); replace HR := Lib.hid ((HR.out.later HB4.out).kept hg (by omega)); replace HB := Lib.hid (below_of_grown1 (HB.out.trans (HB4.out.mono HB.out.size)) hg (by omega) (by omega)); replace HX := Lib.hid ht; clear ht hg; have c1 := HA.out.cell 1 (.slice A l.length cap) rfl))
  clear hW hW4 hs4 HM HUN HDI HV HVG c0
  have hsX : g12 + 1 ≤ w5.heap.size := HX.out.lt
  obtain ⟨i0, hi0, hz0, hz1, hz2⟩ := info_parts infoUZ
  have HI := Lib.hid hi0
  have HZ0 := Lib.hid hz0
  have HZ1 := Lib.hid hz1
  have HZ2 := Lib.hid hz2
  clear hi0 hz0 hz1 hz2
  have HGI := Lib.hid (goneTo_I now HOK.out K)
  have HRS : Hid (RAt w5 g12 (g12 + 1) (goneTo now l K 0) none 0 none 0) := Lib.hid (by rw [HR0.out]; exact ⟨HX.out, OwnG.nil _ _ _ _, OwnG.nil _ _ _ _, fun z hz => (by cases hz), by omega, hsX⟩)
  go_loopw [39] (fun i wr => ∃ (j : Nat) (A1 : Option Addr) (k1 : Nat) (A2 : Option Addr) (k2 : Nat), j ≤ K ∧ i = .int .i64 j ∧ Hid (RAt wr g12 (g12 + 1) (goneTo now l K j) A1 k1 A2 k2) ∧ Hid (Below (w.heap.size + 3) w5 wr))
    (fun i _ => K - (intOf i).toNat)
  case atStart => exact ⟨0, none, 0, none, 0, Nat.zero_le _, rfl, HRS, Lib.hid (Below.refl _ _)⟩
  case round =>
    clear HRS HX c1
    obtain ⟨j, A1, k1, A2, k2, hj, rfl, HRA, HW⟩ := hrel
    have hwr5 := HW.out.size
    by_cases hlt : j < K
    · have hjl : j < l.length := by omega
      obtain ⟨b, off, cap', e9, hb, hc1, hc2, hrg⟩ := HV0.out.at hjl
      cases e9
      have HRG := Lib.hid (range_below hrg hb (HB.out.trans (HW.out.mono (by omega))))
      have HNX := Lib.hid (goneTo_succ now l K j hjl)
      have hx0 := HOK.out _ (List.getElem_mem hjl)
      have hgi := HGI.out j (by omega)
      have hb1 := hgi.lo; have hb2 := hgi.hi; have hb3 := hgi.tk; have hb4 := hgi.dn
      have HDL := Lib.hid (fun z hz => (HRA.out.dn.lt z hz).2)
      clear hrg hgi
      generalize goneTo now l K j = r at *
      generalize l[j] = x at *
      have hdnl : (r.dn.length : Int) ≤ 64 := by omega
      have HB4' := Lib.hid hb4
      clear hb4
      obtain ⟨W3, hW3, HT, HB3, hs3'⟩ := one_open wr 58 #[.int .u32 0, .int .i64 0, .int .i64 0, .int .i64 0, .int .i64 0, .int .i64 0, .int .i64 0]
      have r1 : (0 : Int) ≤ (j : Int) := by omega
      have r2 : (j : Int) < (K : Int) := by omega
      obtain ⟨t, ht9⟩ : ∃ t, x.ts.toNat = t := ⟨_, rfl⟩
      have HT9 := Lib.hid ht9
      obtain ⟨sta, hst9⟩ : ∃ s, x.st = s := ⟨_, rfl⟩
      have HST9 := Lib.hid hst9
      clear ht9 hst9
      by_cases h2 : sta = 2
      · subst h2
        replace HNX : Hid (goneTo now l K (j + 1) = { r with dn := r.dn ++ [x.ts] }) := Lib.hid (by rw [HNX.out]; unfold stepD; rw [if_pos HST9.out])
        go_wp2_with (first
          | ((with_reducible refine gate9 ?_); refine ldPc (ty := 58) rfl rfl rfl HRG.out Try.underlying58 rfl infoP ?_)
          | ((with_reducible refine gate9 ?_); refine stB (ty := 58) (cellsPc x) rfl rfl rfl rfl HT.out infoP rfl (cellsPc_one _) ?_; intro w6 ht hg; replace HB3 := Lib.hid (below_of_grown1 HB3.out hg HB3.out.size (Nat.le_refl _)); replace HT := Lib.hid ht; clear ht hg; replace HRA := Lib.hid (HRA.out.later HB3.out); have hs6 := HB3.out.size; have t0 : w6.cell? ⟨wr.heap.size, 0, none⟩ = some (.int .u32 (t : Int)) := (by have h9 := HT.out.cell 0 (.int .u32 (x.ts.toNat : Int)) rfl; rw [HT9.out] at h9; exact h9); have c4 := HRA.out.box.cell 4 (.slice A1 r.dn.length k1) rfl)
          | (at_builtin; refine wpList_append_where _ rfl (.tmp 44) (.tmp 47) 39 39 rfl (g12 + 1) 22 i0 _ 1 4 Try.underlying39 (.inr ⟨_, Try.underlying39⟩) HI.out HZ0.out HZ1.out HZ2.out rfl _ _ _ rfl (HRA.out.dn.alloc _) _ 1 [.int .u32 (t : Int)] rfl (Fed.block (heap_alloc_new _ _) rfl (one_u32 _)) (by unfold maxLen; omega) (by omega) (by simp; omega) ?_; intro v8 w8 hown hgr hwh; have HBX := Lib.hid ((hgr.block g12 (by have := HRA.out.box.lt; rw [World.size_alloc]; omega) (by intro e; have := (HRA.out.dn.lt _ e.symm).1; omega)).trans (HRA.out.box.old _)); have HT8 := Lib.hid (show Bx w8 wr.heap.size 58 (cellsPc x) from (hgr.block wr.heap.size (by have := HT.out.lt; rw [World.size_alloc]; omega) (by intro e; have := HDL.out _ e.symm; omega)).trans (HT.out.old _)); have HTK := Lib.hid ((HRA.out.tk.alloc _).keep (fun z hz => hgr.block z (by have := (HRA.out.tk.lt z hz).2; rw [World.size_alloc]; omega) (by intro e; exact HRA.out.ne z e.symm hz))); have HNE : Hid (∀ z, v8.ownBlock = some z → (Value.slice A2 r.tk.length k2).ownBlock ≠ some z) := Lib.hid (fun z hz e => (hwh z hz).elim (fun e2 => HRA.out.ne z e2 e) (fun e2 => by rw [World.size_alloc] at e2; have := (HRA.out.tk.lt z e).2; omega)); have HW8 := Lib.hid ((HW.out.trans (HB3.out.mono (by omega))).trans ((Below.refl w6.heap.size w6).alloc (Nat.le_refl _) (.cells #[.int .u32 (t : Int)] 22) |>.mono (by omega)) |>.grown hgr (by rw [World.size_alloc]; omega) (fun z hz => by have := (HRA.out.dn.lt z hz).1; omega)); obtain ⟨A8, k8, rfl, -, -, -⟩ := id hown.slice; have HDN8 := Lib.hid hown; have hs8 := hgr.size; rw [World.size_alloc] at hs8; clear hown hgr hwh c4)
          | ((with_reducible refine gate9 ?_); refine stF (cs := #[.int .i64 r.by', .int .i64 r.out, .bool r.mo, .bool r.fr, .slice A1 r.dn.length k1, .slice none 0 0, .slice A2 r.tk.length k2]) (.slice A8 (r.dn.length + 1) k8) rfl rfl rfl rfl HBX.out (by show 4 < 7; decide) infoSU rfl ?_; intro w9 ht hg; have HRA9 : Hid (RAt w9 g12 (g12 + 1) { r with dn := r.dn ++ [x.ts] } A8 k8 A2 k2) := Lib.hid (RAt.putDn x.ts ht (by have h9 := HDN8.out.keep (fun z hz => hg.block z (HDN8.out.lt z hz).2 (by intro e; cases e; have := (HDN8.out.lt _ hz).1; omega)); rw [HT9.out]; exact h9) (HTK.out.keep (fun z hz => hg.block z (HTK.out.lt z hz).2 (by intro e; cases e; have := (HTK.out.lt _ hz).1; omega))) HNE.out (by omega) (by have := hg.size; omega)); replace HT8 := Lib.hid (HT8.out.kept hg (by omega)); replace HW8 := Lib.hid (HW8.out.grown hg (by omega) (fun z hz => by cases hz; omega)); have hs9 := hg.size; clear ht hg; have t2 : w9.cell? ⟨wr.heap.size, 2, none⟩ = some (.int .i64 2) := (by have h9 := HT8.out.cell 2 (.int .i64 x.st) rfl; rw [HST9.out] at h9; exact h9))
          | ((with_reducible refine gate9 ?_); refine ldB rfl rfl rfl HT8.out Try.underlying58 rfl infoP ?_)
          | (go_at_call 21; (with_reducible refine (HTL.out _ _ _ HRA9.out).mono ?_); rintro e w10 ⟨A10, k10, rfl, hra, hch, hwh⟩; have HRA10 := Lib.hid hra; replace HW8 := Lib.hid (below_ch HW8.out hch (by omega) (fun z e => e.elim (fun e => by omega) (fun e => by have := (HRA9.out.tk.lt z e).1; omega))); clear hra hch hwh))
        go_roundw
        case rel => exact ⟨j + 1, A8, k8, A2, k2, by omega, by go_num, by rw [HNX.out]; exact HRA9, HW8⟩
        case measure => simp [intOf]; omega
      · have q9 : (sta == 2) = false := by rw [beq_eq_false_iff_ne]; exact h2
        replace HNX : Hid (goneTo now l K (j + 1) = tellR now { r with dn := r.dn ++ [x.ts] } x) := Lib.hid (by rw [HNX.out]; unfold stepD; rw [if_neg (by rw [HST9.out]; exact h2)])
        have HTL := Lib.hid (fun A k W h => tell_any x now g12 (g12 + 1) { r with dn := r.dn ++ [x.ts] } A k A2 k2 hx0.z1 hx0.z2 hb1 (by show r.by' ≤ _; omega) (by show r.tk.length ≤ _; omega) W h)
        clear h2
        go_wp2_with (first
          | ((with_reducible refine gate9 ?_); refine ldPc (ty := 58) rfl rfl rfl HRG.out Try.underlying58 rfl infoP ?_)
          | ((with_reducible refine gate9 ?_); refine stB (ty := 58) (cellsPc x) rfl rfl rfl rfl HT.out infoP rfl (cellsPc_one _) ?_; intro w6 ht hg; replace HB3 := Lib.hid (below_of_grown1 HB3.out hg HB3.out.size (Nat.le_refl _)); replace HT := Lib.hid ht; clear ht hg; replace HRA := Lib.hid (HRA.out.later HB3.out); have hs6 := HB3.out.size; have t0 : w6.cell? ⟨wr.heap.size, 0, none⟩ = some (.int .u32 (t : Int)) := (by have h9 := HT.out.cell 0 (.int .u32 (x.ts.toNat : Int)) rfl; rw [HT9.out] at h9; exact h9); have c4 := HRA.out.box.cell 4 (.slice A1 r.dn.length k1) rfl)
          | (at_builtin; refine wpList_append_where _ rfl (.tmp 44) (.tmp 47) 39 39 rfl (g12 + 1) 22 i0 _ 1 4 Try.underlying39 (.inr ⟨_, Try.underlying39⟩) HI.out HZ0.out HZ1.out HZ2.out rfl _ _ _ rfl (HRA.out.dn.alloc _) _ 1 [.int .u32 (t : Int)] rfl (Fed.block (heap_alloc_new _ _) rfl (one_u32 _)) (by unfold maxLen; omega) (by omega) (by simp; omega) ?_; intro v8 w8 hown hgr hwh; have HBX := Lib.hid ((hgr.block g12 (by have := HRA.out.box.lt; rw [World.size_alloc]; omega) (by intro e; have := (HRA.out.dn.lt _ e.symm).1; omega)).trans (HRA.out.box.old _)); have HT8 := Lib.hid (show Bx w8 wr.heap.size 58 (cellsPc x) from (hgr.block wr.heap.size (by have := HT.out.lt; rw [World.size_alloc]; omega) (by intro e; have := HDL.out _ e.symm; omega)).trans (HT.out.old _)); have HTK := Lib.hid ((HRA.out.tk.alloc _).keep (fun z hz => hgr.block z (by have := (HRA.out.tk.lt z hz).2; rw [World.size_alloc]; omega) (by intro e; exact HRA.out.ne z e.symm hz))); have HNE : Hid (∀ z, v8.ownBlock = some z → (Value.slice A2 r.tk.length k2).ownBlock ≠ some z) := Lib.hid (fun z hz e => (hwh z hz).elim (fun e2 => HRA.out.ne z e2 e) (fun e2 => by rw [World.size_alloc] at e2; have := (HRA.out.tk.lt z e).2; omega)); have HW8 := Lib.hid ((HW.out.trans (HB3.out.mono (by omega))).trans ((Below.refl w6.heap.size w6).alloc (Nat.le_refl _) (.cells #[.int .u32 (t : Int)] 22) |>.mono (by omega)) |>.grown hgr (by rw [World.size_alloc]; omega) (fun z hz => by have := (HRA.out.dn.lt z hz).1; omega)); obtain ⟨A8, k8, rfl, -, -, -⟩ := id hown.slice; have HDN8 := Lib.hid hown; have hs8 := hgr.size; rw [World.size_alloc] at hs8; clear hown hgr hwh c4)
          | ((with_reducible refine gate9 ?_); refine stF (cs := #[.int .i64 r.by', .int .i64 r.out, .bool r.mo, .bool r.fr, .slice A1 r.dn.length k1, .slice none 0 0, .slice A2 r.tk.length k2]) (.slice A8 (r.dn.length + 1) k8) rfl rfl rfl rfl HBX.out (by show 4 < 7; decide) infoSU rfl ?_; intro w9 ht hg; have HRA9 : Hid (RAt w9 g12 (g12 + 1) { r with dn := r.dn ++ [x.ts] } A8 k8 A2 k2) := Lib.hid (RAt.putDn x.ts ht (by have h9 := HDN8.out.keep (fun z hz => hg.block z (HDN8.out.lt z hz).2 (by intro e; cases e; have := (HDN8.out.lt _ hz).1; omega)); rw [HT9.out]; exact h9) (HTK.out.keep (fun z hz => hg.block z (HTK.out.lt z hz).2 (by intro e; cases e; have := (HTK.out.lt _ hz).1; omega))) HNE.out (by omega) (by have := hg.size; omega)); replace HT8 := Lib.hid (HT8.out.kept hg (by omega)); replace HW8 := Lib.hid (HW8.out.grown hg (by omega) (fun z hz => by cases hz; omega)); have hs9 := hg.size; clear ht hg; have t2 : w9.cell? ⟨wr.heap.size, 2, none⟩ = some (.int .i64 sta) := (by have h9 := HT8.out.cell 2 (.int .i64 x.st) rfl; rw [HST9.out] at h9; exact h9))
          | ((with_reducible refine gate9 ?_); refine ldB rfl rfl rfl HT8.out Try.underlying58 rfl infoP ?_)
          | (go_at_call 21; (with_reducible refine (HTL.out _ _ _ HRA9.out).mono ?_); rintro e w10 ⟨A10, k10, rfl, hra, hch, hwh⟩; have HRA10 := Lib.hid hra; replace HW8 := Lib.hid (below_ch HW8.out hch (by omega) (fun z e => e.elim (fun e => by omega) (fun e => by have := (HRA9.out.tk.lt z e).1; omega))); clear hra hch hwh))
        go_roundw
        case rel => exact ⟨j + 1, A8, k8, A10, k10, by omega, by go_num, by rw [HNX.out]; exact HRA10, HW8⟩
        case measure => simp [intOf]; omega
    · obtain rfl : j = K := by omega
      have c1 := (HA.out.under HW.out (by omega)).cell 1 (.slice A l.length cap) rfl
      have HCL := Lib.hid (fun v W h => clone_any (l.drop j) (by simp; omega) v W h)
      have HVr := Lib.hid (HV0.out.below (HB.out.trans (HW.out.mono (by omega))))
      obtain ⟨n', hn'⟩ : ∃ n', l.length - j = n' := ⟨_, rfl⟩
      have hld : (l.drop j).length = n' := by simp; omega
      have HLD := Lib.hid hld
      have HGJ := HGI.out j (by omega)
      have HDJ0 := Lib.hid HGJ.dn; have hgb1 := HGJ.lo; have hgb2 := HGJ.hi; have hgb3 := HGJ.tk
      have hn64 : n' ≤ 64 := by omega
      have HMI := Lib.hid (mkTo_I gs now (goneTo now l j j) (l := l.drop j) (fun x hx => HOK.out x (List.mem_of_mem_drop hx)) n' (by omega))
      have HMR := Lib.hid (row_drop (k := j) HVr.out (by omega))
      have HMR0 : Hid (cap = j → RowP wr (.slice A (l.length - j) 0) (l.drop j)) := Lib.hid (fun e => by
        have e2 : l.length = j := by omega
        rw [e2, Nat.sub_self]
        have e3 : l.drop j = [] := List.drop_of_length_le (by omega)
        rw [e3]
        exact ⟨A, 0, rfl, Nat.le_refl _, Nat.zero_le _, fun hp => absurd hp (by simp)⟩)
      have HNG : Hid (∀ (A5 : Option Addr) (z : Nat), (∀ a, A5 = some a → wr.heap.size ≤ a.block) → A5 = some ⟨z, 0, none⟩ → z ≠ g12 ∧ (Value.slice A1 (goneTo now l j j).dn.length k1).ownBlock ≠ some z ∧ (Value.slice A2 (goneTo now l j j).tk.length k2).ownBlock ≠ some z) := Lib.hid (fun A5 z hb e => by
        have h1 := hb _ e
        simp only at h1
        have h2 := HRA.out.box.lt
        exact ⟨by omega, fun e2 => by have := (HRA.out.dn.lt z e2).2; omega, fun e2 => by have := (HRA.out.tk.lt z e2).2; omega⟩)
      have hgwr := HRA.out.box.lt
      have HDNL := Lib.hid (fun z hz => (HRA.out.dn.lt z hz).2)
      have HMK := Lib.hid (fun (c5 : Nat) (A5 : Option Addr) (W : World) (h : RAt W g12 (g12 + 1) (goneTo now l j j) A1 k1 A2 k2) (hv : OwnV W wr.heap.size 58 A5 c5 n' (l.drop j)) (hD : w.heap.size + 3 ≤ W.heap.size) (hb : Below wr.heap.size wr W) => mark_any (l.drop j) gs now g12 (g12 + 1) n' c5 wr.heap.size (w.heap.size + 3) A5 (goneTo now l j j) A1 k1 A2 k2 (fun x hx => HOK.out x (List.mem_of_mem_drop hx)) hn64 hgl HSM.out hgb1 (by omega) (by omega) _ W h hv (fun W' hW' => HVG0.out.below ((HB.out.trans (HW.out.mono (by omega))).trans ((hb.mono (by omega)).trans (hW'.mono (by omega))))) (by omega) (by omega) hD (fun z e => HNG.out A5 z hv.base e))
      have HMSS := Lib.hid (fun c5 A5 W hm h => miss_any (mkTo gs now (goneTo now l j j) (l.drop j) n').l n' (mkTo gs now (goneTo now l j j) (l.drop j) n').a c5 wr.heap.size A5 hm (by omega) W h)
      have HAM : Hid (ackM now l gs j = mkTo gs now (goneTo now l j j) (l.drop j) n') := Lib.hid (by unfold ackM; rw [hn'])
      clear HGJ HGI HVr HOK hld HNG
      by_cases hcK : cap = j
      · have HQ := Lib.hid (HMR0.out hcK)
        rw [hn'] at HQ
        go_wp2_with fail
        refine (HCL.out _ _ HQ.out).mono ?_
        rintro e w20 ⟨v20, rfl, hown, hb⟩
        rw [HLD.out] at hown
        obtain ⟨A5, c5, rfl, hc5, hm5⟩ := own_form2 hown
        have HV5 := Lib.hid (OwnV.of_own hown)
        have HLT5 := Lib.hid (own_lt hown)
        have HRA5 := Lib.hid (HRA.out.later hb)
        have HB5 := Lib.hid hb
        have hs20 := hb.size
        have hc5' : (c5 : Int) ≤ 9223372036854775807 := by unfold maxLen at hm5; omega
        have HAH := Lib.hid HMI.out.ah
        have HDNE := Lib.hid HMI.out.dn
        clear hown hb
        generalize hMM : mkTo gs now (goneTo now l j j) (l.drop j) n' = M at *
        have HFF : Hid (ackF now l gs j = missN (M.l.take M.a)) := Lib.hid (by unfold ackF; rw [HAM.out])
        have HL2 : Hid (ackL2 now l gs j = mixL missX M.l M.a) := Lib.hid (by unfold ackL2; rw [HAM.out])
        have HDJ : Hid (M.r.dn.length = j) := Lib.hid (by rw [HDNE.out]; exact HDJ0.out)
        have HN9 := Lib.hid hn'
        have hah := HAH.out
        have u1 : (0 : Int) ≤ (M.a : Int) := by omega
        have u2 : (M.a : Int) ≤ (c5 : Int) := by omega
        have u3 : (M.a : Int) ≤ (n' : Int) := by omega
        clear hMM
        go_wp2_with (first
          | (go_at_call 23; (with_reducible refine (HMK.out _ _ _ HRA5.out HV5.out (by omega) HB5.out).mono ?_); rintro e w21 ⟨A3, k3, rfl, hra, hv, hch, hwh⟩; have HRA6 := Lib.hid hra; have HV6 := Lib.hid hv; have hs21 := hch.size; have HW21 := Lib.hid (below_ch (HW.out.trans (HB5.out.mono (by omega))) hch (by omega) (fun z e => by rcases e with e | e | e; omega; (have := (HRA5.out.tk.lt z e).1; omega); (have := HV5.out.base _ e; simp at this; omega))); clear hra hv hch hwh)
          | (go_at_call 24; (with_reducible refine (HMSS.out _ _ _ hah HV6.out).mono ?_); rintro e w22 ⟨A6, k6, rfl, hv, hfa, hch⟩; have hs22 := hch.size; have HV7 := Lib.hid hv; have HFA := Lib.hid hfa; have HW22 := Lib.hid (below_ch HW21.out hch (by omega) (fun z e => by have := HV6.out.base _ e; simp at this; omega)); have HN5 : Hid (∀ z, A5 = some ⟨z, 0, none⟩ → wr.heap.size ≤ z) := Lib.hid (fun z e => HV6.out.base _ e); have HBX := Lib.hid (HRA6.out.box.ch hch (by intro e; have := HN5.out _ e; omega)); have HDN := Lib.hid (HRA6.out.dn.keep (fun z hz => hch.block z (HRA6.out.dn.lt z hz).2 (by intro e; have h8 := HN5.out _ e; have h7 := HDNL.out z (by rw [HDNE.out] at hz; exact hz); omega))); clear hv hfa hch)
          | ((with_reducible refine gate9 ?_); refine stF (cs := #[.int .i64 M.r.by', .int .i64 M.r.out, .bool M.r.mo, .bool M.r.fr, .slice A1 M.r.dn.length k1, .slice none 0 0, .slice A3 M.r.tk.length k3]) (.slice A6 (missN (M.l.take M.a)).length k6) rfl rfl rfl rfl HBX.out (by show 5 < 7; decide) infoSU rfl ?_; intro w23 ht hg; replace HV7 := Lib.hid (HV7.out.grown hg (fun z e _ => by intro e2; cases e2; have := HN5.out _ e; omega)); replace HDN := Lib.hid (HDN.out.keep (fun z hz => hg.block z (HDN.out.lt z hz).2 (by intro e; cases e; have := (HDN.out.lt _ hz).1; omega))); replace HW22 := Lib.hid (HW22.out.grown hg (by omega) (fun z hz => by cases hz; omega)); have hs23 := hg.size; have HBF : Hid (Bx w23 g12 42 #[.int .i64 M.r.by', .int .i64 M.r.out, .bool M.r.mo, .bool M.r.fr, .slice A1 M.r.dn.length k1, .slice A6 (missN (M.l.take M.a)).length k6, .slice A3 M.r.tk.length k3]) := Lib.hid ht; clear ht hg))
        have HZ9 := Lib.hid (HZ.out.under HW22.out (by omega))
        have HR9 := Lib.hid (HR.out.under HW22.out (by omega))
        have HBW := Lib.hid (HB.out.trans (HW22.out.mono (by omega)))
        have HS : (fun V => Bx V g12 42 #[.int .i64 M.r.by', .int .i64 M.r.out, .bool M.r.mo, .bool M.r.fr, .slice A1 M.r.dn.length k1, .slice A6 (missN (M.l.take M.a)).length k6, .slice A3 M.r.tk.length k3]) _ := HBF.out.drew
        refine wp_region_noPanic ?_
        refine wp_region_waits (S := (fun V => Bx V g12 42 #[.int .i64 M.r.by', .int .i64 M.r.out, .bool M.r.mo, .bool M.r.fr, .slice A1 M.r.dn.length k1, .slice A6 (missN (M.l.take M.a)).length k6, .slice A3 M.r.tk.length k3])) [6] (by kernel_rfl) HS (fun hHeld => ?_)
        clear HS
        refine wpAnyW_take (i := 0) (v := ?_) (by simp only [List.getElem?_toArray, List.getElem?_cons_zero]; rfl) (by kernel_rfl) (by kernel_rfl) (by kernel_rfl) (by kernel_rfl) (by kernel_rfl) (fun _ _ _ h => h) (Or.inl ⟨by rfl, ?_⟩) (by assumption) ?_
        rotate_left 1
        · (intro w' hSw; go_simp; try with_reducible rfl)
        try simp only [Act.put, List.setIfInBounds_toArray, List.set_cons_zero, List.set_cons_succ]
        refine wpAnyW_take (i := 1) (v := ?_) (by simp only [List.getElem?_toArray, List.getElem?_cons_succ, List.getElem?_cons_zero]; rfl) (by kernel_rfl) (by kernel_rfl) (by kernel_rfl) (by kernel_rfl) (by kernel_rfl) (fun _ _ _ h => h) (Or.inl ⟨by rfl, ?_⟩) (by assumption) ?_
        rotate_left 1
        · (intro w' hSw; go_simp; try with_reducible rfl)
        try simp only [Act.put, List.setIfInBounds_toArray, List.set_cons_zero, List.set_cons_succ]
        refine wpAnyW_take (i := 2) (v := ?_) (by simp only [List.getElem?_toArray, List.getElem?_cons_succ, List.getElem?_cons_zero]; rfl) (by kernel_rfl) (by kernel_rfl) (by kernel_rfl) (by kernel_rfl) (by kernel_rfl) (fun _ _ _ h => h) (Or.inl ⟨by rfl, ?_⟩) (by assumption) ?_
        rotate_left 1
        · (intro w' hSw; go_simp; try with_reducible rfl)
        try simp only [Act.put, List.setIfInBounds_toArray, List.set_cons_zero, List.set_cons_succ]
        refine wpAnyW_take (i := 3) (v := _) (by simp only [List.getElem?_toArray, List.getElem?_cons_succ, List.getElem?_cons_zero]; rfl) (by kernel_rfl) (by kernel_rfl) (by kernel_rfl) (by kernel_rfl) (by kernel_rfl) (fun _ _ _ h => h) (yB (ty := 42) (by rfl) rfl rfl (fun V h => h) Try.underlying42 rfl infoR) (by assumption) ?_
        try simp only [Act.put, List.setIfInBounds_toArray, List.set_cons_zero, List.set_cons_succ]
        refine wpAnyW_held (i := 4) (by kernel_rfl) (by simp only [List.getElem?_toArray, List.getElem?_cons_succ, List.getElem?_cons_zero]; rfl) (fun K hK => ?_)
        rw [if_pos (by rfl)]
        refine wpB (ty := 27) #[.int .u32 (cum.toNat : Int), .slice A5 n' c5] rfl rfl rfl HZ9.out infoS rfl (cellsS_one _ _ _ _) ?_
        intro w30 ht hg
        have HS := hHeld.kept hg (by omega)
        replace hg : w23.grownBy w30 (some (w.heap.size + 1)) := ⟨hg.os, hg.tape, hg.output, hg.size, hg.block⟩
        replace HR9 := Lib.hid (HR9.out.kept hg (by omega))
        replace HBW := Lib.hid (HBW.out.grown hg (by omega) (fun z hz => by cases hz; omega))
        replace HV7 := Lib.hid (HV7.out.grown hg (fun z e _ => by intro e2; cases e2; have := HN5.out _ e; omega))
        replace HDN := Lib.hid (HDN.out.keep (fun z hz => hg.block z (HDN.out.lt z hz).2 (by intro e; cases e; have := (HDN.out.lt _ hz).1; omega)))
        replace HZ9 := Lib.hid ht
        have hs30 := hg.size
        clear ht hg
        refine hK.out _ _ HS (fun hHeld => ?_)
        clear hK K HS
        try simp only [Act.put, List.setIfInBounds_toArray, List.set_cons_zero, List.set_cons_succ]
        refine wpAnyW_held (i := 5) (by kernel_rfl) (by simp only [List.getElem?_toArray, List.getElem?_cons_succ, List.getElem?_cons_zero]; rfl) (fun K hK => ?_)
        rw [if_pos (by rfl)]
        refine wpB (ty := 42) #[.int .i64 M.r.by', .int .i64 M.r.out, .bool M.r.mo, .bool M.r.fr, .slice A1 M.r.dn.length k1, .slice A6 (missN (M.l.take M.a)).length k6, .slice A3 M.r.tk.length k3] rfl rfl rfl HR9.out infoR rfl (cellsR_one _ _ _ _ _ _ _ _ _ _ _ _ _) ?_
        intro w31 ht hg
        have HS := hHeld.kept hg (by omega)
        replace HZ9 := Lib.hid (HZ9.out.kept hg (by omega))
        replace HBW := Lib.hid (HBW.out.grown hg (by omega) (fun z hz => by cases hz; omega))
        replace HV7 := Lib.hid (HV7.out.grown hg (fun z e _ => by intro e2; cases e2; have := HN5.out _ e; omega))
        replace HDN := Lib.hid (HDN.out.keep (fun z hz => hg.block z (HDN.out.lt z hz).2 (by intro e; cases e; have := (HDN.out.lt _ hz).1; omega)))
        replace HR9 := Lib.hid ht
        clear ht hg
        refine hK.out _ _ HS (fun hHeld => ?_)
        clear hK K HS
        try simp only [Act.put, List.setIfInBounds_toArray, List.set_cons_zero, List.set_cons_succ]
        refine wpAnyW_freed (i := 6) (by kernel_rfl) (by kernel_rfl) (by simp only [List.getElem?_toArray, List.getElem?_cons_succ, List.getElem?_cons_zero]; rfl) (fun K hK => ?_)
        rw [if_pos (by rfl)]
        go_simp
        refine hK.out _ _ ?_
        clear hK K
        try simp only [Act.put, List.setIfInBounds_toArray, List.set_cons_zero, List.set_cons_succ]
        refine wpAnyW_done (by kernel_rfl) ?_ _
        refine NoPanic.normal ?_
        go_wp2_with fail
        exact bodyPost_ret (retSRB rfl rfl rfl rfl rfl rfl HZ9.out HR9.out) rfl ⟨A5, c5, A1, k1, A6, k6, A3, k3, by rw [HFF.out, HAM.out, HN9.out, HDJ.out]; rfl, by rw [HN9.out, HL2.out]; exact HV7.out.row, by rw [HN9.out]; exact HV7.out.fresh.less (by omega), by rw [HAM.out]; have h9 := rowE_of_ownG HDN.out; rw [HDJ.out] at h9; exact h9, by have h9 := freshE_of HDN.out; rw [HDJ.out] at h9; exact h9.less (by omega), HBW.out⟩
      · have HQ := HMR
        rw [hn'] at HQ
        go_wp2_with fail
        refine (HCL.out _ _ HQ.out).mono ?_
        rintro e w20 ⟨v20, rfl, hown, hb⟩
        rw [HLD.out] at hown
        obtain ⟨A5, c5, rfl, hc5, hm5⟩ := own_form2 hown
        have HV5 := Lib.hid (OwnV.of_own hown)
        have HLT5 := Lib.hid (own_lt hown)
        have HRA5 := Lib.hid (HRA.out.later hb)
        have HB5 := Lib.hid hb
        have hs20 := hb.size
        have hc5' : (c5 : Int) ≤ 9223372036854775807 := by unfold maxLen at hm5; omega
        have HAH := Lib.hid HMI.out.ah
        have HDNE := Lib.hid HMI.out.dn
        clear hown hb
        generalize hMM : mkTo gs now (goneTo now l j j) (l.drop j) n' = M at *
        have HFF : Hid (ackF now l gs j = missN (M.l.take M.a)) := Lib.hid (by unfold ackF; rw [HAM.out])
        have HL2 : Hid (ackL2 now l gs j = mixL missX M.l M.a) := Lib.hid (by unfold ackL2; rw [HAM.out])
        have HDJ : Hid (M.r.dn.length = j) := Lib.hid (by rw [HDNE.out]; exact HDJ0.out)
        have HN9 := Lib.hid hn'
        have hah := HAH.out
        have u1 : (0 : Int) ≤ (M.a : Int) := by omega
        have u2 : (M.a : Int) ≤ (c5 : Int) := by omega
        have u3 : (M.a : Int) ≤ (n' : Int) := by omega
        clear hMM
        go_wp2_with (first
          | (go_at_call 23; (with_reducible refine (HMK.out _ _ _ HRA5.out HV5.out (by omega) HB5.out).mono ?_); rintro e w21 ⟨A3, k3, rfl, hra, hv, hch, hwh⟩; have HRA6 := Lib.hid hra; have HV6 := Lib.hid hv; have hs21 := hch.size; have HW21 := Lib.hid (below_ch (HW.out.trans (HB5.out.mono (by omega))) hch (by omega) (fun z e => by rcases e with e | e | e; omega; (have := (HRA5.out.tk.lt z e).1; omega); (have := HV5.out.base _ e; simp at this; omega))); clear hra hv hch hwh)
          | (go_at_call 24; (with_reducible refine (HMSS.out _ _ _ hah HV6.out).mono ?_); rintro e w22 ⟨A6, k6, rfl, hv, hfa, hch⟩; have hs22 := hch.size; have HV7 := Lib.hid hv; have HFA := Lib.hid hfa; have HW22 := Lib.hid (below_ch HW21.out hch (by omega) (fun z e => by have := HV6.out.base _ e; simp at this; omega)); have HN5 : Hid (∀ z, A5 = some ⟨z, 0, none⟩ → wr.heap.size ≤ z) := Lib.hid (fun z e => HV6.out.base _ e); have HBX := Lib.hid (HRA6.out.box.ch hch (by intro e; have := HN5.out _ e; omega)); have HDN := Lib.hid (HRA6.out.dn.keep (fun z hz => hch.block z (HRA6.out.dn.lt z hz).2 (by intro e; have h8 := HN5.out _ e; have h7 := HDNL.out z (by rw [HDNE.out] at hz; exact hz); omega))); clear hv hfa hch)
          | ((with_reducible refine gate9 ?_); refine stF (cs := #[.int .i64 M.r.by', .int .i64 M.r.out, .bool M.r.mo, .bool M.r.fr, .slice A1 M.r.dn.length k1, .slice none 0 0, .slice A3 M.r.tk.length k3]) (.slice A6 (missN (M.l.take M.a)).length k6) rfl rfl rfl rfl HBX.out (by show 5 < 7; decide) infoSU rfl ?_; intro w23 ht hg; replace HV7 := Lib.hid (HV7.out.grown hg (fun z e _ => by intro e2; cases e2; have := HN5.out _ e; omega)); replace HDN := Lib.hid (HDN.out.keep (fun z hz => hg.block z (HDN.out.lt z hz).2 (by intro e; cases e; have := (HDN.out.lt _ hz).1; omega))); replace HW22 := Lib.hid (HW22.out.grown hg (by omega) (fun z hz => by cases hz; omega)); have hs23 := hg.size; have HBF : Hid (Bx w23 g12 42 #[.int .i64 M.r.by', .int .i64 M.r.out, .bool M.r.mo, .bool M.r.fr, .slice A1 M.r.dn.length k1, .slice A6 (missN (M.l.take M.a)).length k6, .slice A3 M.r.tk.length k3]) := Lib.hid ht; clear ht hg))
        have HZ9 := Lib.hid (HZ.out.under HW22.out (by omega))
        have HR9 := Lib.hid (HR.out.under HW22.out (by omega))
        have HBW := Lib.hid (HB.out.trans (HW22.out.mono (by omega)))
        have HS : (fun V => Bx V g12 42 #[.int .i64 M.r.by', .int .i64 M.r.out, .bool M.r.mo, .bool M.r.fr, .slice A1 M.r.dn.length k1, .slice A6 (missN (M.l.take M.a)).length k6, .slice A3 M.r.tk.length k3]) _ := HBF.out.drew
        refine wp_region_noPanic ?_
        refine wp_region_waits (S := (fun V => Bx V g12 42 #[.int .i64 M.r.by', .int .i64 M.r.out, .bool M.r.mo, .bool M.r.fr, .slice A1 M.r.dn.length k1, .slice A6 (missN (M.l.take M.a)).length k6, .slice A3 M.r.tk.length k3])) [6] (by kernel_rfl) HS (fun hHeld => ?_)
        clear HS
        refine wpAnyW_take (i := 0) (v := ?_) (by simp only [List.getElem?_toArray, List.getElem?_cons_zero]; rfl) (by kernel_rfl) (by kernel_rfl) (by kernel_rfl) (by kernel_rfl) (by kernel_rfl) (fun _ _ _ h => h) (Or.inl ⟨by rfl, ?_⟩) (by assumption) ?_
        rotate_left 1
        · (intro w' hSw; go_simp; try with_reducible rfl)
        try simp only [Act.put, List.setIfInBounds_toArray, List.set_cons_zero, List.set_cons_succ]
        refine wpAnyW_take (i := 1) (v := ?_) (by simp only [List.getElem?_toArray, List.getElem?_cons_succ, List.getElem?_cons_zero]; rfl) (by kernel_rfl) (by kernel_rfl) (by kernel_rfl) (by kernel_rfl) (by kernel_rfl) (fun _ _ _ h => h) (Or.inl ⟨by rfl, ?_⟩) (by assumption) ?_
        rotate_left 1
        · (intro w' hSw; go_simp; try with_reducible rfl)
        try simp only [Act.put, List.setIfInBounds_toArray, List.set_cons_zero, List.set_cons_succ]
        refine wpAnyW_take (i := 2) (v := ?_) (by simp only [List.getElem?_toArray, List.getElem?_cons_succ, List.getElem?_cons_zero]; rfl) (by kernel_rfl) (by kernel_rfl) (by kernel_rfl) (by kernel_rfl) (by kernel_rfl) (fun _ _ _ h => h) (Or.inl ⟨by rfl, ?_⟩) (by assumption) ?_
        rotate_left 1
        · (intro w' hSw; go_simp; try with_reducible rfl)
        try simp only [Act.put, List.setIfInBounds_toArray, List.set_cons_zero, List.set_cons_succ]
        refine wpAnyW_take (i := 3) (v := _) (by simp only [List.getElem?_toArray, List.getElem?_cons_succ, List.getElem?_cons_zero]; rfl) (by kernel_rfl) (by kernel_rfl) (by kernel_rfl) (by kernel_rfl) (by kernel_rfl) (fun _ _ _ h => h) (yB (ty := 42) (by rfl) rfl rfl (fun V h => h) Try.underlying42 rfl infoR) (by assumption) ?_
        try simp only [Act.put, List.setIfInBounds_toArray, List.set_cons_zero, List.set_cons_succ]
        refine wpAnyW_held (i := 4) (by kernel_rfl) (by simp only [List.getElem?_toArray, List.getElem?_cons_succ, List.getElem?_cons_zero]; rfl) (fun K hK => ?_)
        rw [if_pos (by rfl)]
        refine wpB (ty := 27) #[.int .u32 (cum.toNat : Int), .slice A5 n' c5] rfl rfl rfl HZ9.out infoS rfl (cellsS_one _ _ _ _) ?_
        intro w30 ht hg
        have HS := hHeld.kept hg (by omega)
        replace hg : w23.grownBy w30 (some (w.heap.size + 1)) := ⟨hg.os, hg.tape, hg.output, hg.size, hg.block⟩
        replace HR9 := Lib.hid (HR9.out.kept hg (by omega))
        replace HBW := Lib.hid (HBW.out.grown hg (by omega) (fun z hz => by cases hz; omega))
        replace HV7 := Lib.hid (HV7.out.grown hg (fun z e _ => by intro e2; cases e2; have := HN5.out _ e; omega))
        replace HDN := Lib.hid (HDN.out.keep (fun z hz => hg.block z (HDN.out.lt z hz).2 (by intro e; cases e; have := (HDN.out.lt _ hz).1; omega)))
        replace HZ9 := Lib.hid ht
        have hs30 := hg.size
        clear ht hg
        refine hK.out _ _ HS (fun hHeld => ?_)
        clear hK K HS
        try simp only [Act.put, List.setIfInBounds_toArray, List.set_cons_zero, List.set_cons_succ]
        refine wpAnyW_held (i := 5) (by kernel_rfl) (by simp only [List.getElem?_toArray, List.getElem?_cons_succ, List.getElem?_cons_zero]; rfl) (fun K hK => ?_)
        rw [if_pos (by rfl)]
        refine wpB (ty := 42) #[.int .i64 M.r.by', .int .i64 M.r.out, .bool M.r.mo, .bool M.r.fr, .slice A1 M.r.dn.length k1, .slice A6 (missN (M.l.take M.a)).length k6, .slice A3 M.r.tk.length k3] rfl rfl rfl HR9.out infoR rfl (cellsR_one _ _ _ _ _ _ _ _ _ _ _ _ _) ?_
        intro w31 ht hg
        have HS := hHeld.kept hg (by omega)
        replace HZ9 := Lib.hid (HZ9.out.kept hg (by omega))
        replace HBW := Lib.hid (HBW.out.grown hg (by omega) (fun z hz => by cases hz; omega))
        replace HV7 := Lib.hid (HV7.out.grown hg (fun z e _ => by intro e2; cases e2; have := HN5.out _ e; omega))
        replace HDN := Lib.hid (HDN.out.keep (fun z hz => hg.block z (HDN.out.lt z hz).2 (by intro e; cases e; have := (HDN.out.lt _ hz).1; omega)))
        replace HR9 := Lib.hid ht
        clear ht hg
        refine hK.out _ _ HS (fun hHeld => ?_)
        clear hK K HS
        try simp only [Act.put, List.setIfInBounds_toArray, List.set_cons_zero, List.set_cons_succ]
        refine wpAnyW_freed (i := 6) (by kernel_rfl) (by kernel_rfl) (by simp only [List.getElem?_toArray, List.getElem?_cons_succ, List.getElem?_cons_zero]; rfl) (fun K hK => ?_)
        rw [if_pos (by rfl)]
        go_simp
        refine hK.out _ _ ?_
        clear hK K
        try simp only [Act.put, List.setIfInBounds_toArray, List.set_cons_zero, List.set_cons_succ]
        refine wpAnyW_done (by kernel_rfl) ?_ _
        refine NoPanic.normal ?_
        go_wp2_with fail
        exact bodyPost_ret (retSRB rfl rfl rfl rfl rfl rfl HZ9.out HR9.out) rfl ⟨A5, c5, A1, k1, A6, k6, A3, k3, by rw [HFF.out, HAM.out, HN9.out, HDJ.out]; rfl, by rw [HN9.out, HL2.out]; exact HV7.out.row, by rw [HN9.out]; exact HV7.out.fresh.less (by omega), by rw [HAM.out]; have h9 := rowE_of_ownG HDN.out; rw [HDJ.out] at h9; exact h9, by have h9 := freshE_of HDN.out; rw [HDJ.out] at h9; exact h9.less (by omega), HBW.out⟩
end Go.Proofs.Ytpgdofhnpiefjaa
