/-
  got.Missing: contract.
-/
import Derived.Test.YtfdnphkdpmlbnaaGf
import Derived.Test.YtfdnphkdpmlbnaaGb
import Derived.Test.YtfdnphkdpmlbnaaGi
namespace Go.Proofs.Ytfdnphkdpmlbnaa
open Go.RowKit
set_option linter.unusedVariables false
set_option linter.unusedSimpArgs false
set_option maxRecDepth 100000

/-- Of the j numbers behind c those that are not among ab. -/
def missTo (c : UInt32) (ab : List UInt32) (j : Nat) : List UInt32 := ((List.range' 1 j).map (fun d => c + UInt32.ofNat d)).filter (fun x => !decide (x ∈ ab))
theorem missTo_succ (c : UInt32) (ab : List UInt32) (j : Nat) : missTo c ab (j + 1) = missTo c ab j ++ if c + UInt32.ofNat (j + 1) ∈ ab then [] else [c + UInt32.ofNat (j + 1)] := by
  unfold missTo
  rw [List.range'_1_concat, List.map_append, List.filter_append, Nat.add_comm 1 j]
  simp only [List.map_cons, List.map_nil]
  generalize c + UInt32.ofNat (j + 1) = z
  by_cases h : z ∈ ab
  · simp [h]
  · simp [h]
structure MissI (c : UInt32) (ab : List UInt32) (j : Nat) (p r : List UInt32) : Prop where
  app : ab = p ++ r
  lo : ∀ x ∈ p, key c x < j + 1
  hi : ∀ x ∈ r, j + 1 ≤ key c x
  cnt : (missTo c ab j).length + p.length = j
  last : r = [] → key c (lastG ⟨c, ab, []⟩) = j
theorem MissI.start {c : UInt32} {ab du : List UInt32} (h : RightG ⟨c, ab, du⟩) : MissI c ab 0 [] ab :=
  ⟨rfl, by simp, fun x hx => by have := (h.near x hx).1; show 1 ≤ key c x; exact Nat.le_trans (by decide) this, by simp [missTo], fun e => by subst e; exact key_self c⟩
theorem MissI.small {c : UInt32} {ab du p r : List UInt32} {j : Nat} {x : UInt32} (hr : RightG ⟨c, ab, du⟩) (h : MissI c ab j p (x :: r)) : j < 4000 := by
  have h1 := h.hi x (by simp)
  have h2 := (hr.near x (by rw [h.app]; simp)).2
  have h3 : key c x ≤ 4000 := h2
  omega
theorem MissI.hit {c : UInt32} {ab du p r : List UInt32} {j : Nat} {x : UInt32} (hr : RightG ⟨c, ab, du⟩) (h : MissI c ab j p (x :: r)) (hx : x = c + UInt32.ofNat (j + 1)) : MissI c ab (j + 1) (p ++ [x]) r ∧ missTo c ab (j + 1) = missTo c ab j := by
  have hj := h.small hr
  have hk : key c x = j + 1 := by rw [hx, key_add (by omega)]
  have hs := strict_iff.1 hr.strict
  have hs2 : (p ++ (x :: r)).Pairwise fun x y => key c x < key c y := by rw [← h.app]; exact hs
  have hs3 := (List.pairwise_append.1 hs2).2.1
  rw [List.pairwise_cons] at hs3
  have hm : missTo c ab (j + 1) = missTo c ab j := by
    rw [missTo_succ, if_pos (by rw [← hx, h.app]; simp), List.append_nil]
  refine ⟨⟨by rw [h.app]; simp, fun y hy => ?_, fun y hy => by have := hs3.1 y hy; omega, by rw [hm]; have := h.cnt; simp only [List.length_append, List.length_singleton]; omega, fun e => ?_⟩, hm⟩
  · rcases List.mem_append.1 hy with hy | hy
    · have := h.lo y hy; omega
    · rw [List.mem_singleton.1 hy, hk]; omega
  · subst e
    unfold lastG
    have e2 := h.app
    have hl : ab.length ≠ 0 := by rw [e2]; simp
    simp only
    rw [if_neg hl]
    have : ab[ab.length - 1]! = x := by rw [e2]; simp
    rw [this, hk]
theorem MissI.miss {c : UInt32} {ab du p r : List UInt32} {j : Nat} {x : UInt32} (hr : RightG ⟨c, ab, du⟩) (h : MissI c ab j p (x :: r)) (hx : x ≠ c + UInt32.ofNat (j + 1)) : MissI c ab (j + 1) p (x :: r) ∧ missTo c ab (j + 1) = missTo c ab j ++ [c + UInt32.ofNat (j + 1)] := by
  have hj := h.small hr
  have hs := strict_iff.1 hr.strict
  have hs2 : (p ++ (x :: r)).Pairwise fun x y => key c x < key c y := by rw [← h.app]; exact hs
  have hs3 := (List.pairwise_append.1 hs2).2.1
  rw [List.pairwise_cons] at hs3
  have hkn : key c (c + UInt32.ofNat (j + 1)) = j + 1 := key_add (by omega)
  have hkx : j + 2 ≤ key c x := by
    have h1 := h.hi x (by simp)
    by_cases e : key c x = j + 1
    · exact absurd (key_inj (f := c) (by rw [e, hkn])) hx
    · omega
  have hno : c + UInt32.ofNat (j + 1) ∉ ab := by
    rw [h.app]
    intro hm
    rcases List.mem_append.1 hm with hm | hm
    · have := h.lo _ hm; omega
    · rcases List.mem_cons.1 hm with hm | hm
      · exact hx hm.symm
      · have := hs3.1 _ hm; omega
  have hm : missTo c ab (j + 1) = missTo c ab j ++ [c + UInt32.ofNat (j + 1)] := by rw [missTo_succ, if_neg hno]
  refine ⟨⟨h.app, fun y hy => by have := h.lo y hy; omega, fun y hy => ?_, by rw [hm]; have := h.cnt; simp only [List.length_append, List.length_singleton]; omega, fun e => by cases e⟩, hm⟩
  rcases List.mem_cons.1 hy with hy | hy
  · rw [hy]; omega
  · have := hs3.1 y hy; omega
theorem missTo_near {c : UInt32} {ab : List UInt32} {j : Nat} (hj : j ≤ 4000) : ∀ x ∈ missTo c ab j, x ∉ ab ∧ 1 ≤ key c x ∧ key c x ≤ j := by
  intro x hx
  unfold missTo at hx
  rw [List.mem_filter, List.mem_map] at hx
  obtain ⟨⟨d, hd, rfl⟩, h2⟩ := hx
  rw [List.mem_range'_1] at hd
  rw [key_add (by omega)]
  exact ⟨by simpa using h2, by omega, by omega⟩
theorem missTo_rise {c : UInt32} {ab : List UInt32} {j : Nat} (hj : j ≤ 4000) : (missTo c ab j).Pairwise fun x y => key c x < key c y := by
  unfold missTo
  refine List.Pairwise.filter _ ?_
  rw [List.pairwise_map]
  refine List.Pairwise.imp_of_mem (fun {a b} ha hb hab => ?_) (List.pairwise_lt_range' (s := 1) (n := j))
  rw [List.mem_range'_1] at ha hb
  rw [key_add (by omega), key_add (by omega)]
  exact hab
def missG (g : Gt) : List UInt32 := missTo g.cum g.ab (key g.cum (lastG g))
set_option maxHeartbeats 4000000 in
theorem missing_any (c : UInt32) (ab du : List UInt32) (ha : ab.length ≤ 1000000) (hd : du.length ≤ 1000000) (va vd : Value) (w : World) (h1 : RowE enc32 w va ab) (h2 : RowE enc32 w vd du) (hr : RightG ⟨c, ab, du⟩) : Calls Try.prog 28 #[.agg #[.int .u32 (c.toNat : Int), va, vd]] w fun e w' => ∃ A k, e = .returned (.slice A (missG ⟨c, ab, du⟩).length k) ∧ OwnG w' w.heap.size 22 1 (.slice A (missG ⟨c, ab, du⟩).length k) (missG ⟨c, ab, du⟩).length ((missG ⟨c, ab, du⟩).map enc32) ∧ (missG ⟨c, ab, du⟩).length + ab.length = key c (lastG ⟨c, ab, du⟩) ∧ Below w.heap.size w w' := by
  obtain ⟨W, hW, HA, HB, hs⟩ := one_open w 25 #[.int .u32 (c.toNat : Int), va, vd]
  have HV := Lib.hid (h1.below HB.out)
  have HD := Lib.hid (h2.below HB.out)
  obtain ⟨A, k, rfl, -, -, hcells⟩ := id HV.out
  obtain ⟨A', k', rfl, -, -, -⟩ := id HD.out
  have c0 := HA.out.cell 0 (.int .u32 (c.toNat : Int)) rfl
  have c1 := HA.out.cell 1 (.slice A ab.length k) rfl
  have c2 := HA.out.cell 2 (.slice A' du.length k') rfl
  obtain ⟨i0, hi0, hz0, hz1, hz2⟩ := info_parts infoUZ
  have HI := Lib.hid hi0
  have HZ0 := Lib.hid hz0
  have HZ1 := Lib.hid hz1
  have HZ2 := Lib.hid hz2
  clear hi0 hz0 hz1 hz2 hcells
  have hgw := HA.out.lt
  have HMI := Lib.hid (MissI.start hr)
  have HS1 := Lib.hid (fun j => show (((c + UInt32.ofNat j).toNat : Int) - (c.toNat : Int)) % 4294967296 = (key c (c + UInt32.ofNat j) : Int) from sub_toNat32 _ _)
  have s7 : ((c.toNat : Int) + 1) % 4294967296 = ((c + UInt32.ofNat 1).toNat : Int) := plus_nat c (by decide)
  have HLG := Lib.hid (show missG ⟨c, ab, du⟩ = missTo c ab (key c (lastG ⟨c, ab, du⟩)) from rfl)
  have HLL := Lib.hid (show lastG ⟨c, ab, du⟩ = lastG ⟨c, ab, []⟩ from rfl)
  go_enter Try.func28, Try.ntmps28
  go_wp2_with fail
  clear s7
  go_loopw [3, 4, 5] (fun v s i wr => ∃ (j : Nat) (p r : List UInt32) (A1 : Option Addr) (k1 : Nat) (A2 : Option Addr) (k2 : Nat), v = .slice A1 (missTo c ab j).length k1 ∧ s = .slice A2 r.length k2 ∧ i = .int .u32 ((c + UInt32.ofNat (j + 1)).toNat : Int) ∧ Hid (MissI c ab j p r) ∧ Hid (OwnG wr W.heap.size 22 1 (.slice A1 (missTo c ab j).length k1) (missTo c ab j).length ((missTo c ab j).map enc32)) ∧ Hid (RowE enc32 W (.slice A2 r.length k2) r) ∧ Hid (Below W.heap.size W wr))
    (fun _ _ i _ => 5000 - (UInt32.ofNat (intOf i).toNat - c).toNat)
  case atStart => exact ⟨0, [], ab, _, _, _, _, rfl, rfl, rfl, HMI, Lib.hid (OwnG.nil _ _ _ _), HV, Lib.hid (Below.refl _ _)⟩
  case round =>
    clear c0
    obtain ⟨j, p, r, A1, k1, A2, k2, rfl, rfl, rfl, HMI, HO, HT, HW⟩ := hrel
    have c0 := (HA.out.later HW.out).cell 0 (.int .u32 (c.toNat : Int)) rfl
    cases r with
    | nil =>
      have HL := Lib.hid (HMI.out.last rfl)
      have HC := Lib.hid (show (missTo c ab j).length + ab.length = j from by have := HMI.out.cnt; have h9 := HMI.out.app; rw [List.append_nil] at h9; rw [h9]; rw [h9] at this; exact this)
      go_wp2_with fail
      go_ret
      refine ⟨A1, k1, ?_⟩
      rw [HLG.out, HLL.out, HL.out]
      exact ⟨rfl, HO.out.base (by omega), HC.out, HB.out.trans (HW.out.mono (by omega))⟩
    | cons x t =>
      have hj := HMI.out.small hr
      obtain ⟨A9, c9, hv9, hc9, hm9, hcell⟩ := id HT.out
      cases hv9
      obtain ⟨b, off, rfl, hb, hc⟩ := hcell (by simp)
      have hck : wr.cell? ⟨b, off, none⟩ = some (.int .u32 (x.toNat : Int)) := (HW.out.cell (p := ⟨b, off, none⟩) hb).trans (by have := hc 0 (by simp); simpa [enc32] using this)
      have hlm : (missTo c ab j).length ≤ 4000 := by have := HMI.out.cnt; omega
      have s1 := HS1.out (j + 1)
      have hkj : key c (c + UInt32.ofNat (j + 1)) = j + 1 := key_add (by omega)
      have hkj2 : key c (c + UInt32.ofNat (j + 1 + 1)) = j + 1 + 1 := key_add (by omega)
      rw [hkj] at s1
      have q9 : ((j + 1 : Nat) : Int) ≤ 4000 := by omega
      have s8 : (((c + UInt32.ofNat (j + 1)).toNat : Int) + 1) % 4294967296 = ((c + UInt32.ofNat (j + 1 + 1)).toNat : Int) := (add1_toNat _).trans (by rw [plus_succ c (by omega)])
      have HME : Hid ((UInt32.ofNat (c + UInt32.ofNat (j + 1)).toNat - c).toNat = j + 1 ∧ (UInt32.ofNat (c + UInt32.ofNat (j + 1 + 1)).toNat - c).toNat = j + 1 + 1) := Lib.hid ⟨by rw [UInt32.ofNat_toNat]; exact hkj, by rw [UInt32.ofNat_toNat]; exact hkj2⟩
      have HS8 := Lib.hid s8
      clear hkj hkj2
      simp only [List.length_cons] at hc9 ⊢
      have q2 : (1 : Int) ≤ (k2 : Int) := by omega
      have q3 : (k2 : Int) ≤ 9223372036854775807 := by unfold maxLen at hm9; omega
      have htl : (t.length : Int) + 1 ≤ (k2 : Int) := by omega
      have hszw := HW.out.size
      have HTL := Lib.hid (rowE_tail HT.out)
      have hc9' := Lib.hid hc9
      clear hc hcell hc9 hm9
      by_cases he : x = c + UInt32.ofNat (j + 1)
      · obtain ⟨hM, hE⟩ := HMI.out.hit hr he
        have HM2 := Lib.hid hM
        have HO2 : Hid (OwnG wr W.heap.size 22 1 (.slice A1 (missTo c ab j).length k1) (missTo c ab (j + 1)).length ((missTo c ab (j + 1)).map enc32)) := Lib.hid (by rw [hE]; exact HO.out)
        have HE := Lib.hid hE
        have g1 : (((c + UInt32.ofNat (j + 1)).toNat : Int) == (x.toNat : Int)) = true := by rw [he]; simp
        clear he hM hE
        generalize hy : (c + UInt32.ofNat (j + 1)).toNat = y at *
        generalize hy2 : (c + UInt32.ofNat (j + 1 + 1)).toNat = y2 at *
        have HY2 := Lib.hid hy2
        clear hy hy2
        by_cases hc1 : k2 = 1
        · rw [if_pos hc1] at HTL
          subst hc1
          obtain rfl : t = [] := List.eq_nil_of_length_eq_zero (by have := hc9'.out; omega)
          go_wp2_with fail
          go_roundw
          case rel => exact ⟨j + 1, _, [], _, _, _, _, by rw [HE.out], by first | rfl | (simp; done), by rw [HY2.out, ← HS8.out], HM2, by rw [HE.out]; exact HO, Lib.hid HTL.out, by first | exact HW | exact Lib.hid (below_drawn HW.out) | exact Lib.hid (below_drawnN HW.out _)⟩
          case measure =>
            have h9 := HME.out
            have h8 := HS8.out
            simp only [intOf, h8, Int.toNat_natCast]
            rw [h9.1, h9.2]
            omega
        · rw [if_neg hc1] at HTL
          go_wp2_with fail
          go_roundw
          case rel => exact ⟨j + 1, _, t, _, _, _, _, by rw [HE.out], by first | rfl | (simp [hc1]; done), by rw [HY2.out, ← HS8.out], HM2, by rw [HE.out]; exact HO, Lib.hid HTL.out, by first | exact HW | exact Lib.hid (below_drawn HW.out) | exact Lib.hid (below_drawnN HW.out _)⟩
          case measure =>
            have h9 := HME.out
            have h8 := HS8.out
            simp only [intOf, h8, Int.toNat_natCast]
            rw [h9.1, h9.2]
            omega
      · obtain ⟨hM, hE⟩ := HMI.out.miss hr he
        have HM2 := Lib.hid hM
        have HE := Lib.hid hE
        have g1 : (((c + UInt32.ofNat (j + 1)).toNat : Int) == (x.toNat : Int)) = false := by rw [beq_eq_false_iff_ne]; exact fun h => he (UInt32.toNat_inj.1 (by omega))
        have HEN : Hid ((missTo c ab (j + 1)).map enc32 = (missTo c ab j).map enc32 ++ [.int .u32 ((c + UInt32.ofNat (j + 1)).toNat : Int)] ∧ (missTo c ab (j + 1)).length = (missTo c ab j).length + 1) := Lib.hid (by rw [hE, List.map_append, List.length_append]; exact ⟨rfl, rfl⟩)
        clear he hM hE
        generalize hy : (c + UInt32.ofNat (j + 1)).toNat = y at *
        generalize hy2 : (c + UInt32.ofNat (j + 1 + 1)).toNat = y2 at *
        have HY2 := Lib.hid hy2
        clear hy hy2
        obtain ⟨ml, hml⟩ : ∃ l, missTo c ab j = l := ⟨_, rfl⟩
        rw [hml] at HO HEN hlm ⊢
        clear hml HE
        go_wp2_with (first
    | (at_builtin; refine wpList_append_fed _ rfl (.tmp 30) (.tmp 32) 23 23 rfl W.heap.size 22 i0 _ 1 4 Try.underlying23 (.inr ⟨_, Try.underlying23⟩) HI.out HZ0.out HZ1.out HZ2.out rfl (.slice A1 ml.length k1) _ _ rfl (HO.out.alloc _) _ 1 [.int .u32 (y : Int)] rfl (Fed.block (heap_alloc_new _ _) rfl (by intro u hu; simp at hu; subst hu; rfl)) (by unfold maxLen; omega) (by omega) (by simp; omega) ?_; intro v8 w8 hown hgr; have HO8 := Lib.hid hown; have HW8 := Lib.hid ((HW.out.alloc HW.out.size _).grown hgr (by simp; omega) (fun k hk => (HO.out.lt k hk).1)); obtain ⟨A3, k3, rfl, -, -, -⟩ := id hown.slice; clear hown hgr c0))
        go_roundw
        case rel => exact ⟨j + 1, _, x :: t, A3, k3, _, _, by rw [HEN.out.2], by first | rfl | (simp; done), by rw [HY2.out, ← HS8.out], HM2, Lib.hid (by rw [HEN.out.1, HEN.out.2]; exact HO8.out), HT, HW8⟩
        case measure =>
          have h9 := HME.out
          have h8 := HS8.out
          simp only [intOf, h8, Int.toNat_natCast]
          rw [h9.1, h9.2]
          omega
end Go.Proofs.Ytfdnphkdpmlbnaa
