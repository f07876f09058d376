/-
  The document's Take, where the number is fresh: contract.
-/
import Derived.Test.YtfdnphkdpmlbnaaGh
namespace Go.Proofs.Ytfdnphkdpmlbnaa
open Go.RowKit
set_option linter.unusedVariables false
set_option linter.unusedSimpArgs false
set_option maxRecDepth 100000

/-- Blocks from B on that were there in W are as they were. -/
structure MidS (B : Nat) (W W' : World) : Prop where
  size : W.heap.size ≤ W'.heap.size
  same : ∀ b, B ≤ b → b < W.heap.size → W'.heap[b]? = W.heap[b]?
theorem MidS.refl (B : Nat) (W : World) : MidS B W W := ⟨Nat.le_refl _, fun _ _ _ => rfl⟩
theorem MidS.grown {B : Nat} {W W1 W2 : World} {row : Option Nat} (h : MidS B W W1) (hg : W1.grownBy W2 row) (hr : ∀ k, row = some k → k < B ∨ W.heap.size ≤ k) : MidS B W W2 :=
  ⟨Nat.le_trans h.size hg.size, fun b hb hl => (hg.block b (Nat.lt_of_lt_of_le hl h.size) (fun e => by rcases hr b e.symm with h' | h' <;> omega)).trans (h.same b hb hl)⟩
theorem MidS.below {B : Nat} {W W1 W2 : World} (h : MidS B W W1) (hb : Below W1.heap.size W1 W2) : MidS B W W2 :=
  ⟨Nat.le_trans h.size hb.size, fun b h1 hl => (hb.block b (Nat.lt_of_lt_of_le hl h.size)).trans (h.same b h1 hl)⟩
theorem RowE.mid {B : Nat} {W W' : World} {v : Value} {l : List UInt32} (h : RowE enc32 W v l) (hf : FreshE B v) (hm : MidS B W W') : RowE enc32 W' v l := by
  obtain ⟨A, cap, rfl, h1, h2, h3⟩ := h
  refine ⟨A, cap, rfl, h1, h2, fun hl => ?_⟩
  obtain ⟨b, off, rfl, hb, hc⟩ := h3 hl
  exact ⟨b, off, rfl, Nat.lt_of_lt_of_le hb hm.size, fun j hj => (World.cell?_of_block (hm.same b (hf _ _ _ rfl hl) hb)).trans (hc j hj)⟩
theorem plus_succ (c : UInt32) {k : Nat} (h : k < 5000) : c + UInt32.ofNat k + 1 = c + UInt32.ofNat (k + 1) := by
  apply UInt32.toNat_inj.1
  simp only [UInt32.toNat_add, UInt32.toNat_ofNat']
  have := c.toNat_lt
  show (_ + 1) % _ = _
  omega
theorem plus_nat (x : UInt32) {d : Nat} (h : d < 5000) : ((x.toNat : Int) + (d : Int)) % 4294967296 = ((x + UInt32.ofNat d).toNat : Int) := by
  rw [UInt32.toNat_add, UInt32.toNat_ofNat']
  have := x.toNat_lt
  omega
def leftOf (c : UInt32) (g : Nat) (W : World) : Nat := 5000 - key c (UInt32.ofNat (cumOf g W))
theorem leftOf_bx {c : UInt32} {g k : Nat} {T : TypeId} {W : World} {a b : Value} (h : Bx W g T #[.int .u32 ((c + UInt32.ofNat k).toNat : Int), a, b]) (hk : k < 5000) : leftOf c g W = 5000 - k := by
  unfold leftOf cumOf
  rw [h.cell 0 (.int .u32 ((c + UInt32.ofNat k).toNat : Int)) rfl]
  show 5000 - key c (UInt32.ofNat ((c + UInt32.ofNat k).toNat : Int).toNat) = _
  rw [Int.toNat_natCast, UInt32.ofNat_toNat, key_add (by omega)]
/-- While Cum goes up. -/
def UpS (w : World) (c : UInt32) (S : List UInt32) (sa sd sl : Value) (B : Nat) (W0 : World) (k : Nat) (W : World) : Prop :=
  (∀ j, 1 ≤ j → j ≤ k → c + UInt32.ofNat j ∈ S) ∧ Bx W w.heap.size 28 #[.int .u32 ((c + UInt32.ofNat k).toNat : Int), sa, sd] ∧ Bx W (w.heap.size + 1) 28 #[.int .u32 0, .slice none 0 0, .slice none 0 0] ∧ MidS B W0 W ∧ Below w.heap.size w W
/-- While Above is filled. -/
def FillS (w : World) (x : UInt32) (S : List UInt32) (sd : Value) (B : Nat) (W9 W0 : World) (d : Nat) (W : World) : Prop :=
  ∃ sl, Bx W w.heap.size 28 #[.int .u32 (x.toNat : Int), sl, sd] ∧ OwnG W W0.heap.size 22 1 sl (refAb x S d).length ((refAb x S d).map enc32) ∧ Bx W (w.heap.size + 1) 28 #[.int .u32 0, .slice none 0 0, .slice none 0 0] ∧ MidS B W9 W ∧ Below w.heap.size w W ∧ W0.heap.size ≤ W.heap.size
set_option maxHeartbeats 8000000 in
theorem rtake_new (c : UInt32) (ab du : List UInt32) (ha : ab.length ≤ 1000000) (hd : du.length ≤ 1000000) (va vd : Value) (w : World) (h1 : RowE enc32 w va ab) (h2 : RowE enc32 w vd du) (n : UInt32) (hhas : hasB ⟨c, ab, du⟩ n = false) (hf : ¬ 4000 < key c n) (hr : RightG ⟨c, ab, du⟩) (h60 : ab.length ≤ 900000) : Calls Try.prog 14 #[.agg #[.int .u32 (c.toNat : Int), va, vd], .int .u32 (n.toNat : Int)] w (TookR w (takeG ⟨c, ab, du⟩ n)) := by
  have HREF := Lib.hid (fun k (hc : Climb (ab ++ [n]) c k) => ref_take hr hhas hf hc)
  have HNEAR := Lib.hid (mem_near hr (has_right hr hhas).1 (by show key c n ≤ 4000; omega))
  have HD0 := Lib.hid h2
  have HAM := Lib.hid (fun (v : Value) (x : UInt32) (W : World) h => ramong_any (ab ++ [n]) (by simp; omega) v x W h)
  have s1 : ((n.toNat : Int) - (c.toNat : Int)) % 4294967296 = (key c n : Int) := sub_toNat32 n c
  have q1 : ¬ (4000 : Int) < (key c n : Int) := by omega
  obtain ⟨i0, hi0, hz0, hz1, hz2⟩ := info_parts infoUZ
  have HI := Lib.hid hi0
  have HZ0 := Lib.hid hz0
  have HZ1 := Lib.hid hz1
  have HZ2 := Lib.hid hz2
  clear hi0 hz0 hz1 hz2 hf hr
  generalize key c n = kn at *
  generalize takeG ⟨c, ab, du⟩ n = RR at *
  obtain ⟨W, hW, HA, HZ, HB, hs⟩ := two_open w 28 28 #[.int .u32 (c.toNat : Int), va, vd] #[.int .u32 0, .slice none 0 0, .slice none 0 0]
  have HV := Lib.hid (h1.below HB.out)
  have HD := Lib.hid (h2.below HB.out)
  have HHS := Lib.hid (fun W h h' => rhas_any c ab du ha hd va vd W h h' n)
  rw [hhas] at HHS
  obtain ⟨A, k, rfl, -, -, -⟩ := id HV.out
  obtain ⟨A', k', rfl, -, -, -⟩ := id HD.out
  clear h1 h2
  have HFB := Lib.hid (fun W h => fedRow (w := W) (A := A) (k := k) (l := ab) h)
  go_enter Try.func14, Try.ntmps14
  go_wp2_with (first
    | ((with_reducible refine gate9 ?_); refine ldB (ty := 28) rfl rfl rfl HA.out Try.underlying28 rfl infoR ?_))
  refine (HHS.out _ HV.out HD.out).mono ?_
  rintro e w5 ⟨rfl, hb⟩
  have hsz : w.heap.size + 2 ≤ w5.heap.size := by have := hb.size; omega
  replace HA := Lib.hid (HA.out.later hb); replace HZ := Lib.hid (HZ.out.later hb); replace HV := Lib.hid (HV.out.below hb); replace HD := Lib.hid (HD.out.below hb); replace HB := Lib.hid (HB.out.trans (hb.mono HB.out.size)); 
  have c0 := HA.out.cell 0 (.int .u32 (c.toNat : Int)) rfl; have c1 := HA.out.cell 1 (.slice A ab.length k) rfl; have c2 := HA.out.cell 2 (.slice A' du.length k') rfl; 
  clear hb HHS hW
  have HA5 := HA
  have HZ5 := HZ
  have HB5 := HB
  obtain ⟨W6, hW6, HX6, HB6, hs6⟩ := one_open w5 22 (#[])
  have hx6 := HB6.out.size
  replace HA := Lib.hid (HA.out.later HB6.out); replace HZ := Lib.hid (HZ.out.later HB6.out); replace HV := Lib.hid (HV.out.below HB6.out); replace HD := Lib.hid (HD.out.below HB6.out); replace HB := Lib.hid (HB.out.trans (HB6.out.mono HB.out.size)); 
  have e1 := HA.out.cell 1 (.slice A ab.length k) rfl
  have HO6 := Lib.hid (OwnG.of (own_none (size := 1) HX6.out (Nat.le_refl w5.heap.size)))
  go_wp2_with (first
    | (at_builtin; refine wpList_append_fed _ rfl (.tmp 30) (.tmp 32) 23 23 rfl w5.heap.size 22 i0 _ 1 4 Try.underlying23 (.inr ⟨_, Try.underlying23⟩) HI.out HZ0.out HZ1.out HZ2.out rfl _ 0 [] rfl HO6.out (.slice A ab.length k) ab.length (ab.map enc32) rfl (HFB.out _ HV.out) (by unfold maxLen; omega) (by omega) (by omega) ?_; intro v7 w7 hown hgr; have HO7 := Lib.hid hown; have HBY := Lib.hid (HB6.out.grown hgr (by omega) (fun k hk => by cases hk; exact Nat.le_refl _)); replace HA := Lib.hid (HA5.out.later HBY.out); replace HZ := Lib.hid (HZ5.out.later HBY.out); replace HB := Lib.hid (HB5.out.trans (HBY.out.mono (by omega))); clear hown hgr e1 c0 c1 c2; obtain ⟨W8, hW8, HX8, HB8, hs8⟩ := one_open w7 22 (#[.int .u32 (n.toNat : Int)]); have hx8 := HB8.out.size; have hy8 := HBY.out.size; replace HA := Lib.hid (HA.out.later HB8.out); replace HZ := Lib.hid (HZ.out.later HB8.out); replace HB := Lib.hid (HB.out.trans (HB8.out.mono HB.out.size)); have HO8 := Lib.hid (HO7.out.later HB8.out))
    | (at_builtin; refine wpList_append_fed _ rfl (.tmp 33) (.tmp 35) 23 23 rfl w5.heap.size 22 i0 _ 1 4 Try.underlying23 (.inr ⟨_, Try.underlying23⟩) HI.out HZ0.out HZ1.out HZ2.out rfl _ (0 + ab.length) _ rfl HO8.out (.slice (some ⟨w7.heap.size, 0, none⟩) 1 1) 1 [.int .u32 (n.toNat : Int)] rfl (Fed.block HX8.out rfl (by intro u hu; simp at hu; subst hu; rfl)) (by unfold maxLen; omega) (by omega) (by omega) ?_; intro v9 w9 hown hgr; have HBZ := Lib.hid ((Below.refl w5.heap.size _).grown hgr (by omega) (fun k hk => (HO8.out.lt k hk).1)); replace HA := Lib.hid (HA.out.under HBZ.out (by omega)); replace HZ := Lib.hid (HZ.out.under HBZ.out (by omega)); replace HB := Lib.hid (HB.out.trans (HBZ.out.mono (by omega))); rw [Nat.zero_add] at hown; have HF9 := Lib.hid (freshE_ownG hown); rw [show ([] ++ List.map enc32 ab) ++ [Value.int .u32 (n.toNat : Int)] = (ab ++ [n]).map enc32 from by rw [List.nil_append, List.map_append]; rfl] at hown; have HR9 := Lib.hid (rowE_of_ownG hown); have hz9 := HBZ.out.size; obtain ⟨A9, k9, rfl, -, -, -⟩ := hown.slice; clear hown hgr))
  have HUP : Hid (UpS w c (ab ++ [n]) (.slice A ab.length k) (.slice A' du.length k') (.slice A9 (ab.length + 1) k9) w5.heap.size w9 0 w9) := Lib.hid ⟨fun j j1 j2 => absurd j1 (by omega), by have h9 := HA.out; rw [show c + UInt32.ofNat 0 = c from key_inj (f := c) (by rw [key_add (by omega), key_self])]; exact h9, HZ.out, MidS.refl _ _, HB.out⟩
  clear HA HZ HB HV HD HA5 HZ5 HB5 HFB HX6 HO6 HB6 hW6 hs6 hx6 s1 q1
  go_loopw [] (fun wr => Hid (∃ m, m ≤ 4000 ∧ UpS w c (ab ++ [n]) (.slice A ab.length k) (.slice A' du.length k') (.slice A9 (ab.length + 1) k9) w5.heap.size w9 m wr))
    (fun wr => leftOf c w.heap.size wr)
  case atStart => exact Lib.hid ⟨0, by omega, HUP.out⟩
  case round =>
    clear HUP
    obtain ⟨m, hm, hup⟩ := hrel.out
    obtain ⟨u1, u2, u3, u4, u5⟩ := hup
    have HIN := Lib.hid u1
    have HA := Lib.hid u2
    have HZ := Lib.hid u3
    have HMD := Lib.hid u4
    have HB := Lib.hid u5
    clear u1 u2 u3 u4 u5 hrel
    have HRS := Lib.hid (HR9.out.mid HF9.out HMD.out)
    have HLF := Lib.hid (leftOf_bx HA.out (by omega))
    have HSU := Lib.hid (plus_succ c (k := m) (by omega))
    have HCALL := Lib.hid (HAM.out (.slice A9 (ab.length + 1) k9) (c + UInt32.ofNat (m + 1)) wr (by have h9 := HRS.out; simpa using h9))
    have c0 := HA.out.cell 0 (.int .u32 ((c + UInt32.ofNat m).toNat : Int)) rfl
    have s1 : (((c + UInt32.ofNat m).toNat : Int) + 1) % 4294967296 = ((c + UInt32.ofNat (m + 1)).toNat : Int) := by rw [← HSU.out]; exact add1_toNat _
    by_cases hin : c + UInt32.ofNat (m + 1) ∈ ab ++ [n]
    · have hk1 := (HNEAR.out _ hin).2
      rw [key_add (by omega)] at hk1
      rw [decide_eq_true hin] at HCALL
      have HIN2 : Hid (∀ j, 1 ≤ j → j ≤ m + 1 → c + UInt32.ofNat j ∈ ab ++ [n]) := Lib.hid (fun j j1 j2 => by
        by_cases e : j = m + 1
        · subst e; exact hin
        · exact HIN.out j j1 (by omega))
      clear hin
      generalize hx0 : (c + UInt32.ofNat m).toNat = x0 at *
      generalize hx1 : (c + UInt32.ofNat (m + 1)).toNat = x1 at *
      have HX1 := Lib.hid hx1
      have HS1 := Lib.hid s1
      clear hx0 hx1
      go_wp2_with (first
    | (go_at_call 36; (with_reducible refine HCALL.out.mono ?_); rintro e w6 ⟨rfl, rfl⟩)
    | ((with_reducible refine gate9 ?_); refine stF (.int .u32 (((x0 : Int) + 1) % 4294967296)) rfl rfl rfl rfl HA.out (by show 0 < 3; decide) infoU rfl ?_; intro w7 ht hg; rw [HS1.out] at ht; have HN := Lib.hid (show UpS w c (ab ++ [n]) (.slice A ab.length k) (.slice A' du.length k') (.slice A9 (ab.length + 1) k9) w5.heap.size w9 (m + 1) w7 from ⟨HIN2.out, by rw [HX1.out]; exact ht, HZ.out.kept hg (by omega), HMD.out.grown hg (fun k hk => by cases hk; omega), below_of_grown1 HB.out hg HB.out.size (by omega)⟩); clear ht hg))
      go_roundw
      case rel => refine ⟨_, _, _, _, _, _, _, _, _, Lib.hid ⟨m + 1, hk1, HN.out⟩, rfl⟩
      case measure =>
        have e1 := leftOf_bx HN.out.2.1 (by omega)
        have e2 := HLF.out
        omega
    · have HCL : Hid (Climb (ab ++ [n]) c m) := Lib.hid ⟨HIN.out, hin⟩
      have HRR := Lib.hid (HREF.out m HCL.out)
      rw [decide_eq_false hin] at HCALL
      clear hin HCL HIN HREF HNEAR HLF HSU
      generalize c + UInt32.ofNat (m + 1) = y1 at *
      generalize c + UInt32.ofNat m = x at *
      go_wp2_with (first
    | (go_at_call 36; (with_reducible refine HCALL.out.mono ?_); rintro e w6 ⟨rfl, rfl⟩)
    | ((with_reducible refine gate9 ?_); refine stF (.slice none 0 0) rfl rfl rfl rfl HA.out (by show 1 < 3; decide) infoS rfl ?_; intro w7 ht hg; replace HMD := Lib.hid (HMD.out.grown hg (fun k hk => by cases hk; omega)); replace HZ := Lib.hid (HZ.out.kept hg (by omega)); replace HB := Lib.hid (below_of_grown1 HB.out hg HB.out.size (by omega)); replace HA := Lib.hid ht; clear ht hg c0 s1))
      have HFI : Hid (FillS w x (ab ++ [n]) (.slice A' du.length k') w5.heap.size w9 w7 0 w7) := Lib.hid ⟨_, HA.out, OwnG.nil _ _ _ _, HZ.out, HMD.out, HB.out, Nat.le_refl _⟩
      have hmz := HMD.out.size
      clear HA HZ HMD HB HCALL HRS
      go_loopw [7] (fun i wx => ∃ e : Nat, 2 ≤ e ∧ e ≤ 4001 ∧ i = .int .u32 e ∧ Hid (FillS w x (ab ++ [n]) (.slice A' du.length k') w5.heap.size w9 w7 (e - 2) wx))
        (fun i _ => 5000 - (intOf i).toNat)
      case atStart => exact ⟨2, by omega, by omega, rfl, HFI.out⟩
      case round =>
        clear HFI
        obtain ⟨e, he2, he4, rfl, HFI⟩ := hrel
        obtain ⟨sl, u1, u2, u3, u4, u5, hw7⟩ := HFI.out
        have HA := Lib.hid u1
        have HO := Lib.hid u2
        have HZ := Lib.hid u3
        have HMD := Lib.hid u4
        have HB := Lib.hid u5
        clear u1 u2 u3 u4 u5 HFI
        have HRS := Lib.hid (HR9.out.mid HF9.out HMD.out)
        obtain ⟨A10, k10, rfl, -, -, -⟩ := HO.out.slice
        have q2 : (2 : Int) ≤ (e : Int) := by omega
        by_cases hle : e ≤ 4000
        · have q3 : (e : Int) ≤ 4000 := by omega
          have q5 : (0 : Int) < (ab.length : Int) + 1 := by omega
          have q6 : ((e : Int) + 1) % 4294967296 = (e : Int) + 1 := by omega
          have s1 := plus_nat x (d := e) (by omega)
          have HCALL := Lib.hid (HAM.out (.slice A9 (ab.length + 1) k9) (x + UInt32.ofNat e) wr (by have h9 := HRS.out; simpa using h9))
          have HNX := Lib.hid (refAb_succ x (ab ++ [n]) (e - 2))
          rw [show e - 2 + 2 = e by omega, show e - 2 + 1 = e + 1 - 2 by omega] at HNX
          have hrl : (refAb x (ab ++ [n]) (e - 2)).length ≤ 4000 := by
            unfold refAb
            refine Nat.le_trans (List.length_filter_le _ _) ?_
            simp; omega
          have c0 := HA.out.cell 0 (.int .u32 (x.toNat : Int)) rfl
          generalize refAb x (ab ++ [n]) (e - 2) = rl at *
          have c1 : wr.cell? ⟨w.heap.size, 1, none⟩ = some (.slice A10 rl.length k10) := HA.out.cell 1 _ rfl
          generalize x + UInt32.ofNat e = y at *
          clear he4 hle
          by_cases hin : y ∈ ab ++ [n]
          · rw [decide_eq_true hin] at HCALL
            rw [if_pos hin] at HNX
            have HS1 := Lib.hid s1
            clear hin
            have hbx := HA.out.lt
            go_wp2_with (first
    | (go_at_call 36; (with_reducible refine HCALL.out.mono ?_); rintro e6 w6 ⟨rfl, rfl⟩)
    | (at_builtin; refine wpList_append_fed _ rfl (.tmp 63) (.tmp 68) 23 23 rfl w7.heap.size 22 i0 _ 1 4 Try.underlying23 (.inr ⟨_, Try.underlying23⟩) HI.out HZ0.out HZ1.out HZ2.out rfl (.slice A10 rl.length k10) _ _ rfl (HO.out.alloc _) _ 1 [.int .u32 (y.toNat : Int)] rfl (Fed.block (heap_alloc_new _ _) rfl (by intro u hu; simp at hu; subst hu; rfl)) (by unfold maxLen; omega) (by omega) (by simp; omega) ?_; intro v8 w8 hown hgr; have HBA := Lib.hid ((Below.refl w6.heap.size w6).alloc (Nat.le_refl _) (.cells #[.int .u32 (y.toNat : Int)] 22)); have hba := HBA.out.size; have HBL := Lib.hid ((Below.refl w5.heap.size _).grown hgr (by omega) (fun k hk => by have := (HO.out.lt k hk).1; omega)); replace HA := Lib.hid ((HA.out.old _).under HBL.out (by omega)); replace HZ := Lib.hid ((HZ.out.old _).under HBL.out (by omega)); replace HMD := Lib.hid ((HMD.out.below HBA.out).grown hgr (fun k hk => .inr (by have := (HO.out.lt k hk).1; omega))); replace HB := Lib.hid ((HB.out.trans (HBA.out.mono HB.out.size)).trans (HBL.out.mono (by omega))); have HO8 := Lib.hid hown; rw [show List.map enc32 rl ++ [Value.int .u32 (y.toNat : Int)] = (rl ++ [y]).map enc32 from by rw [List.map_append]; rfl, show rl.length + 1 = (rl ++ [y]).length from by simp] at hown; have HO9 := Lib.hid hown; have hsz8 := hgr.size; obtain ⟨A11, k11, rfl, -, -, -⟩ := HO8.out.slice; clear hown hgr c0 c1)
    | ((with_reducible refine gate9 ?_); refine stF (.slice A11 (rl.length + 1) k11) rfl rfl rfl rfl HA.out (by show 1 < 3; decide) infoS rfl ?_; intro w10 ht hg; have HSZ := Lib.hid hg.size; replace HO8 := Lib.hid (HO9.out.keep (fun k hk => hg.block k (HO9.out.lt k hk).2 (by intro e9; cases e9; have := (HO9.out.lt _ hk).1; omega))); replace HMD := Lib.hid (HMD.out.grown hg (fun k hk => by cases hk; omega)); replace HZ := Lib.hid (HZ.out.kept hg (by omega)); replace HB := Lib.hid (below_of_grown1 HB.out hg HB.out.size (by omega)); replace HA := Lib.hid ht; clear ht hg))
            go_roundw
            case rel => exact ⟨e + 1, by omega, by omega, by go_num, Lib.hid ⟨_, HA.out, by rw [HNX.out]; exact HO8.out, HZ.out, HMD.out, HB.out, by have := HSZ.out; omega⟩⟩
            case measure => simp [intOf]; omega
          · rw [decide_eq_false hin] at HCALL
            rw [if_neg hin] at HNX
            clear hin
            go_wp2_with (first
    | (go_at_call 36; (with_reducible refine HCALL.out.mono ?_); rintro e6 w6 ⟨rfl, rfl⟩))
            go_roundw
            case rel => exact ⟨e + 1, by omega, by omega, by go_num, Lib.hid ⟨_, HA.out, by rw [HNX.out]; exact HO.out, HZ.out, HMD.out, HB.out, hw7⟩⟩
            case measure => simp [intOf]; omega
        · obtain rfl : e = 4001 := by omega
          have hrl : (refAb x (ab ++ [n]) (4001 - 2)).length ≤ 4000 := by
            unfold refAb
            refine Nat.le_trans (List.length_filter_le _ _) ?_
            simp
          have HRL := Lib.hid (show refAb x (ab ++ [n]) (4001 - 2) = refAb x (ab ++ [n]) 3999 from rfl)
          rw [HRL.out] at *
          have HRW := Lib.hid (rowE_of_ownG HO.out)
          have HFR := Lib.hid (freshE_ownG HO.out)
          generalize refAb x (ab ++ [n]) 3999 = rl at *
          clear HRL HO
          go_wp2_with (first
    | ((with_reducible refine gate9 ?_); refine ldB (ty := 28) rfl rfl rfl HA.out Try.underlying28 rfl infoR ?_)
    | ((with_reducible refine gate9 ?_); refine stB (ty := 28) #[.int .u32 (x.toNat : Int), .slice A10 rl.length k10, .slice A' du.length k'] rfl rfl rfl rfl HZ.out infoR rfl (cellsG_one _ _ _ _ _ _ _) ?_; intro w11 ht hg; replace HRW := Lib.hid (HRW.out.stays HFR.out hg (by omega)); replace HB := Lib.hid (below_of_grown1 HB.out hg HB.out.size (by omega)); replace HZ := Lib.hid ht; clear ht hg))
          exact bodyPost_ret (retR1 rfl rfl rfl rfl HZ.out) rfl (by rw [show RR = (⟨x, rl, du⟩, true) from Prod.ext HRR.out.2 HRR.out.1]; exact ⟨_, _, rfl, HRW.out, HD0.out.below HB.out, HB.out⟩)
end Go.Proofs.Ytfdnphkdpmlbnaa
