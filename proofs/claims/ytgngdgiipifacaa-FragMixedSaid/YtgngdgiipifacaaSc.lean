/-
  Package frag: the row that a piece is in: contract.
-/
import Derived.Test.YtgngdgiipifacaaSb
import Derived.Test.YtgngdgiipifacaaSt
namespace Go.Proofs.Ytgngdgiipifacaa
open Go.RowKit
set_option linter.unusedVariables false
set_option linter.unusedSimpArgs false
set_option maxRecDepth 100000

theorem wpList_load_want {P : Program} {ops : Array Oper} {rest : List Oper} {o : Oper} {a : Act} {w : World} {Q : Exit → Act → World → Prop} (hw : Region.wanted o (yielded ops a.tmps) = true) (ty : TypeId) (x : Operand) (ho : o.op = .load ty x)
    (g : Nat) (hx : a.eval x = .pointer (some ⟨g, 0, none⟩)) (t : TypeId) (cs : Array Value) (fr : Nat × Nat) (d : TypeDesc) (hg : w.heap[g]? = some (.cells cs t fr))
    (hu : P.underlying ty = some d) (hd : (match d with | .struct _ | .array _ _ => true | _ => false) = true) (hi : (P.info? ty).map (·.size) = some cs.size)
    (h : wpList P ops Q rest (a.put o.dst (.agg cs)) w) : wpList P ops Q (o :: rest) a w :=
  wpList_step fun K hK => by
    rw [if_pos hw]
    exact wp_load_row ty x ho g hx t cs fr d hg hu hd hi (hK _ _ h)
theorem rowP_of_ownG {w : World} {base n : Nat} {e : TypeId} {v : Value} {l : List Pc} (h : OwnG w base e 8 v n (flatP l)) : RowP w v l := by
  have hl : l.length = n := by have := h.1; rw [flatP_length] at this; omega
  subst hl
  rcases h.2 with ⟨rfl, h0⟩ | ⟨g, cap, cur, fz, rfl, hb, hh, h1, h2, _⟩
  · exact ⟨none, 0, by rw [h0], by omega, Nat.zero_le _, fun hp => by omega⟩
  · refine ⟨_, cap, rfl, h1, h2, fun _ => ⟨g, 0, rfl, (Array.getElem?_eq_some_iff.1 hh).1, fun j hj t u hu => ?_⟩⟩
    have ht : t < 8 := by have := (List.getElem?_eq_some_iff.1 hu).1; rw [lenPc] at this; exact this
    rw [Nat.zero_add]
    refine h.cells _ _ ?_
    rw [flatP_at l j t hj ht, hu]
theorem flatP_add (l : List Pc) (x : Pc) : flatP (l ++ [x]) = flatP l ++ (cellsPc x).toList := by rw [flatP_append]; simp [flatP]
theorem MapF.own {w w' : World} {b n B m size : Nat} {e : TypeId} {f : UInt32 → Option Pc} {v : Value} {xs : List Value} {o : Obj} (h : MapF w b n f) (hO : OwnG w B e size v m xs) (hb : b < B) (hg : (w.alloc o).grownBy w' v.ownBlock) : MapF w' b n f :=
  (h.later (below_one w o)).kept hg (by intro e; have := (hO.lt _ e.symm).1; omega)
theorem Bx.own {w w' : World} {g B m size : Nat} {e T : TypeId} {cs : Array Value} {v : Value} {xs : List Value} {o : Obj} (h : Bx w g T cs) (hO : OwnG w B e size v m xs) (hb : g < B) (hg : (w.alloc o).grownBy w' v.ownBlock) : Bx w' g T cs :=
  (hg.block g (by have := h.lt; rw [World.size_alloc]; omega) (by intro e; have := (hO.lt _ e.symm).1; omega)).trans (h.old _)
theorem below_own {w0 w w' : World} {g B m size : Nat} {e : TypeId} {v : Value} {xs : List Value} {o : Obj} (h : Below g w0 w) (hw : g ≤ w.heap.size) (hO : OwnG w B e size v m xs) (hb : g ≤ B) (hg : (w.alloc o).grownBy w' v.ownBlock) : Below g w0 w' :=
  (h.alloc hw _).grown hg (by rw [World.size_alloc]; omega) (fun z hz => by have := (hO.lt z hz).1; omega)
theorem below_eq {w w' : World} {g n : Nat} (h : n = g) (hb : Below g w w') : Below n w w' := by rw [h]; exact hb
/-- The number in a piece's box. -/
def tsAt (g : Nat) (W : World) : Nat := match W.cell? ⟨g, 0, none⟩ with
  | some (.int .u32 m) => m.toNat
  | _ => 0
theorem tsAt_bx {W : World} {g : Nat} {T : TypeId} {x : Pc} (h : Bx W g T (cellsPc x)) : tsAt g W = x.ts.toNat := by
  unfold tsAt
  rw [h.cell 0 (.int .u32 (x.ts.toNat : Int)) rfl]
  simp
theorem back_meas {l : List Pc} {p x : Pc} {k g : Nat} {T : TypeId} {W : World} (hl : l.length ≤ 1000) (h : BackI l p k x) (hx : Bx W g T (cellsPc x)) : l.length - (p.ts - UInt32.ofNat (tsAt g W)).toNat = l.length - k := by
  have := h.lt
  rw [tsAt_bx hx, UInt32.ofNat_toNat, h.ts, back_ts (by omega)]
theorem fwd_meas {l acc : List Pc} {q x : Pc} {k g : Nat} {T : TypeId} {W : World} (hl : l.length ≤ 1000) (h : FwdI l q k x acc) (hx : Bx W g T (cellsPc x)) : l.length - (UInt32.ofNat (tsAt g W) - q.ts).toNat = l.length - k := by
  have h1 := h.lt
  have h2 := h.len
  have h3 := h.seg.ts k (by omega)
  rw [h.last, h.hd] at h3
  rw [tsAt_bx hx, UInt32.ofNat_toNat, h3, fwd_ts (by omega)]
set_option maxHeartbeats 8000000 in
theorem rowOf_any (l : List Pc) (hl : l.length ≤ 1000) (hnd : (l.map (·.ts)).Nodup) (p : Pc) (hp : p ∈ l) (b n : Nat) (w : World) (h : MapF w b n (findT l)) :
    Calls Try.prog 25 #[.agg (cellsPc p), .map (some b)] w fun e w' => ∃ A k, e = .returned (.slice A ((rowC l p).getD []).length k) ∧ RowP w' (.slice A ((rowC l p).getD []).length k) ((rowC l p).getD []) ∧ Below w.heap.size w w' := by
  obtain ⟨W, hW, HX0, HB0, hs⟩ := one_open w 43 (cellsPc p)
  obtain ⟨g, hg⟩ : ∃ g, w.heap.size = g := ⟨_, rfl⟩
  rw [hg] at HX0 hs
  have HM0 := Lib.hid (h.later HB0.out)
  have hbw := h.lt
  have hbg : b ≠ g := by omega
  have hgw : w.heap.size ≤ g := by omega
  have HBI := Lib.hid (BackI.start hp)
  have HND := Lib.hid hnd
  have HL := Lib.hid hl
  obtain ⟨r, hr⟩ : ∃ r, (rowC l p).getD [] = r := ⟨_, rfl⟩
  rw [hr]
  have HR := Lib.hid hr
  have HGE := Lib.hid hg
  replace HB0 : Hid (Below g w W) := Lib.hid (by rw [← hg]; exact HB0.out)
  clear h hr hp
  have hl5 : l.length ≤ 100000 := by omega
  go_enter Try.func25, Try.ntmps25
  go_wp2_with fail
  go_loopw [6] (fun v6 wr => ∃ (k : Nat) (x : Pc), Hid (BackI l p k x) ∧ Hid (Bx wr g 43 (cellsPc x)) ∧ Hid (MapF wr b n (findT l)) ∧ Hid (Below g w wr))
    (fun v6 wr => l.length - (p.ts - UInt32.ofNat (tsAt g wr)).toNat)
  case atStart => exact ⟨0, p, HBI, HX0, HM0, HB0⟩
  case round =>
    clear HBI HX0 HM0 HB0 hW hs hg
    obtain ⟨k, x, HBI, HX, HM, HW⟩ := hrel
    have x0 := HX.out.cell 0 (.int .u32 (x.ts.toNat : Int)) rfl
    have x1 := HX.out.cell 1 (.bool x.bg) rfl
    have hgl := HX.out.lt
    have hml := HM.out.lt
    cases hbx : x.bg with
    | false =>
      rw [hbx] at x1
      have HBG := Lib.hid hbx
      clear hbx
      obtain ⟨t1, ht1⟩ : ∃ t, x.ts - 1 = t := ⟨_, rfl⟩
      have s1 := sub1 x.ts
      rw [ht1] at s1
      have HT1 := Lib.hid ht1
      have HMS := Lib.hid (back_meas hl HBI.out HX.out)
      clear ht1
      obtain ⟨W3, hW3, HT, HB3, hs3⟩ := one_open wr 43 #[.int .u32 0, .bool false, .bool false, .bool false, .int .u16 0, .int .u16 0, .int .u32 0, .string ⟨#[]⟩]
      have HMR := HM
      replace HX := Lib.hid (HX.out.later HB3.out)
      replace HM := Lib.hid (HM.out.later HB3.out)
      have hgt : g ≠ wr.heap.size := by omega
      cases hf : findT l t1 with
      | none =>
        have HE : Hid (r = []) := Lib.hid (by rw [← HR.out]; unfold rowC; rw [HBI.out.away HBG.out (by rw [HT1.out]; exact hf)]; rfl)
        go_wp2_with (first
          | ((with_reducible refine gate9 ?_); refine lookF rfl _ _ rfl t1 HMR.out rfl (congrArg (Value.int .u32) s1) ?_; rw [hf]; dsimp only [Option.getD, Option.isSome])
          | ((with_reducible refine gate9 ?_); refine stB (ty := 43) (cellsPc zeroPc) rfl rfl rfl rfl HT.out infoP rfl (cellsPc_one _) ?_; intro w4 ht hg; replace HB3 := Lib.hid (below_of_grown1 HB3.out hg HB3.out.size (Nat.le_refl _)); replace HM := Lib.hid (HM.out.kept hg (by simp; omega)); replace HX := Lib.hid (HX.out.kept hg (by omega)); replace HT := Lib.hid ht; clear ht hg))
        go_ret
        exact ⟨none, 0, by rw [HE.out]; rfl, by rw [HE.out]; exact RowP.nil _, below_eq HGE.out (HW.out.trans (HB3.out.mono (Nat.le_of_lt hgl)))⟩
      | some a =>
        have HF := Lib.hid hf
        have HGO := Lib.hid (fun W => goes_any a x W)
        cases hgo : goesB a x with
        | false =>
          rw [hgo] at HGO
          have HE : Hid (r = []) := Lib.hid (by rw [← HR.out]; unfold rowC; rw [HBI.out.not HBG.out (by rw [HT1.out]; exact hf) hgo]; rfl)
          clear hgo
          go_wp2_with (first
            | ((with_reducible refine gate9 ?_); refine lookF rfl _ _ rfl t1 HMR.out rfl (congrArg (Value.int .u32) s1) ?_; rw [hf]; dsimp only [Option.getD, Option.isSome])
            | ((with_reducible refine gate9 ?_); refine stB (ty := 43) (cellsPc a) rfl rfl rfl rfl HT.out infoP rfl (cellsPc_one _) ?_; intro w4 ht hg; replace HB3 := Lib.hid (below_of_grown1 HB3.out hg HB3.out.size (Nat.le_refl _)); replace HM := Lib.hid (HM.out.kept hg (by simp; omega)); replace HX := Lib.hid (HX.out.kept hg (by omega)); replace HT := Lib.hid ht; clear ht hg)
            | ((with_reducible refine gate9 ?_); refine wpList_load_want (by rfl) 43 _ rfl wr.heap.size rfl _ (cellsPc a) _ _ HT.out Try.underlying43 rfl infoP ?_)
            | ((with_reducible refine gate9 ?_); refine wpList_load_want (by rfl) 43 _ rfl g rfl _ (cellsPc x) _ _ HX.out Try.underlying43 rfl infoP ?_)
            | (go_at_call 31; (with_reducible refine (HGO.out _).mono ?_); rintro e w6 ⟨rfl, hb5⟩; replace HX := Lib.hid (HX.out.later hb5); replace HT := Lib.hid (HT.out.later hb5); replace HM := Lib.hid (HM.out.later hb5); replace HB3 := Lib.hid (HB3.out.trans (hb5.mono HB3.out.size)); clear hb5))
          go_ret
          exact ⟨none, 0, by rw [HE.out]; rfl, by rw [HE.out]; exact RowP.nil _, below_eq HGE.out (HW.out.trans (HB3.out.mono (Nat.le_of_lt hgl)))⟩
        | true =>
          rw [hgo] at HGO
          have HBN := Lib.hid (HBI.out.next hl5 HBG.out (by rw [HT1.out]; exact hf) hgo)
          clear hgo
          go_wp2_with (first
            | ((with_reducible refine gate9 ?_); refine lookF rfl _ _ rfl t1 HMR.out rfl (congrArg (Value.int .u32) s1) ?_; rw [hf]; dsimp only [Option.getD, Option.isSome])
            | ((with_reducible refine gate9 ?_); refine stB (ty := 43) (cellsPc a) rfl rfl rfl rfl HT.out infoP rfl (cellsPc_one _) ?_; intro w4 ht hg; replace HB3 := Lib.hid (below_of_grown1 HB3.out hg HB3.out.size (Nat.le_refl _)); replace HM := Lib.hid (HM.out.kept hg (by simp; omega)); replace HX := Lib.hid (HX.out.kept hg (by omega)); replace HT := Lib.hid ht; clear ht hg)
            | ((with_reducible refine gate9 ?_); refine wpList_load_want (by rfl) 43 _ rfl wr.heap.size rfl _ (cellsPc a) _ _ HT.out Try.underlying43 rfl infoP ?_)
            | ((with_reducible refine gate9 ?_); refine wpList_load_want (by rfl) 43 _ rfl g rfl _ (cellsPc x) _ _ HX.out Try.underlying43 rfl infoP ?_)
            | (go_at_call 31; (with_reducible refine (HGO.out _).mono ?_); rintro e w6 ⟨rfl, hb5⟩; replace HX := Lib.hid (HX.out.later hb5); replace HT := Lib.hid (HT.out.later hb5); replace HM := Lib.hid (HM.out.later hb5); replace HB3 := Lib.hid (HB3.out.trans (hb5.mono HB3.out.size)); clear hb5)
            | ((with_reducible refine gate9 ?_); refine ldB (ty := 43) rfl rfl rfl HT.out Try.underlying43 rfl infoP ?_)
            | ((with_reducible refine gate9 ?_); refine stB (ty := 43) (cellsPc a) rfl rfl rfl rfl HX.out infoP rfl (cellsPc_one _) ?_; intro w7 ht hg; replace HW := Lib.hid (below_of_grown1 (HW.out.trans (HB3.out.mono (Nat.le_of_lt hgl))) hg (by have := HB3.out.size; omega) (Nat.le_refl _)); replace HM := Lib.hid (HM.out.kept hg (by simp; omega)); replace HX := Lib.hid ht; clear ht hg; try simp only [Act.put, List.setIfInBounds_toArray, List.set_cons_succ, List.set_cons_zero]))
          go_roundw
          case rel => exact ⟨k + 1, a, HBN, HX, HM, HW⟩
          case measure => (rw [HMS.out, back_meas hl HBN.out HX.out]; have := HBN.out.lt; omega)
    | true =>
      rw [hbx] at x1
      have HQB := Lib.hid hbx
      have HBD := Lib.hid (HBI.out.done hbx)
      have HF0 := Lib.hid (FwdI.start HBI.out.mem hbx)
      clear hbx
      obtain ⟨i0, hi0, hz0, hz1, hz2⟩ := info_parts infoPZ
      have HI := Lib.hid hi0
      have HZ0 := Lib.hid hz0
      have HZ1 := Lib.hid hz1
      have HZ2 := Lib.hid hz2
      clear hi0 hz0 hz1 hz2
      obtain ⟨W6, hW6⟩ : ∃ W, wr.alloc (.cells #[.int .u32 (x.ts.toNat : Int), .bool x.bg, .bool x.en, .bool x.fr, .int .u16 (x.st.toNat : Int), .int .u16 (x.ss.toNat : Int), .int .u32 (x.pp.toNat : Int), .string x.tx] 43) = W := ⟨_, rfl⟩
      obtain ⟨g7, hg7⟩ : ∃ g, wr.heap.size = g := ⟨_, rfl⟩
      have HO6 : Hid (OwnG W6 (g + 1) 43 8 (.slice (some ⟨g7, 0, none⟩) 1 1) 1 (flatP [x])) := Lib.hid (by
        have h9 := OwnG.full (w := wr) (B := g + 1) (by omega) 43 8 (cellsPc x).toList 1 (by decide) rfl
        have e9 : flatP [x] = (cellsPc x).toList := by simp [flatP]
        rw [← hW6, ← hg7, e9]
        exact h9)
      have HB6 : Hid (Below wr.heap.size wr W6) := Lib.hid (by rw [← hW6]; exact below_one _ _)
      have HX6 := Lib.hid (HX.out.later HB6.out)
      have HM6 := Lib.hid (HM.out.later HB6.out)
      have HW6 := Lib.hid (HW.out.trans (HB6.out.mono (Nat.le_of_lt hgl)))
      go_wp2_with ((with_reducible refine gate9 ?_); refine ldB (ty := 43) (cs := #[.int .u32 (x.ts.toNat : Int), .bool x.bg, .bool x.en, .bool x.fr, .int .u16 (x.st.toNat : Int), .int .u16 (x.ss.toNat : Int), .int .u32 (x.pp.toNat : Int), .string x.tx]) rfl rfl rfl HX.out Try.underlying43 rfl infoP ?_)
      clear hW6 hg7 x0 x1
      go_loopw [7] (fun v7 wr => ∃ (k : Nat) (y : Pc) (acc : List Pc) (A : Option Addr) (cap : Nat), v7 = .slice A (k + 1) cap ∧ Hid (FwdI l x k y acc) ∧ Hid (Bx wr g 43 (cellsPc y)) ∧ Hid (MapF wr b n (findT l)) ∧ Hid (OwnG wr (g + 1) 43 8 (.slice A (k + 1) cap) (k + 1) (flatP acc)) ∧ Hid (Below g w wr))
        (fun v7 wr => l.length - (UInt32.ofNat (tsAt g wr) - x.ts).toNat)
      case atStart => exact ⟨0, x, [x], some ⟨g7, 0, none⟩, 1, rfl, HF0, HX6, HM6, HO6, HW6⟩
      case round =>
        clear HX HM HW HX6 HM6 HO6 HW6 HB6 HF0 hgl hml
        obtain ⟨k2, y, acc, A7, c7, rfl, HFI, HX, HM, HO, HW⟩ := hrel
        have y0 := HX.out.cell 0 (.int .u32 (y.ts.toNat : Int)) rfl
        have y2 := HX.out.cell 2 (.bool y.en) rfl
        have hgl := HX.out.lt
        have hml := HM.out.lt
        cases hen : y.en with
        | false =>
          rw [hen] at y2
          have HEN := Lib.hid hen
          clear hen
          obtain ⟨t1, ht1⟩ : ∃ t, y.ts + 1 = t := ⟨_, rfl⟩
          have s1 := add1 y.ts
          rw [ht1] at s1
          have HT1 := Lib.hid ht1
          have HMS := Lib.hid (fwd_meas hl HFI.out HX.out)
          clear ht1
          obtain ⟨W3, hW3, HT, HB3, hs3⟩ := one_open wr 43 #[.int .u32 0, .bool false, .bool false, .bool false, .int .u16 0, .int .u16 0, .int .u32 0, .string ⟨#[]⟩]
          have HMR := HM
          replace HX := Lib.hid (HX.out.later HB3.out)
          replace HM := Lib.hid (HM.out.later HB3.out)
          have HOR := HO
          replace HO := Lib.hid (HO.out.later HB3.out)
          have hgt : g ≠ wr.heap.size := by omega
          cases hf : findT l t1 with
          | none =>
            have HE : Hid (r = []) := Lib.hid (by rw [← HR.out]; unfold rowC; rw [HBD.out]; simp only; rw [HFI.out.away HEN.out (by rw [HT1.out]; exact hf)]; rfl)
            go_wp2_with (first
              | ((with_reducible refine gate9 ?_); refine lookF rfl _ _ rfl t1 HMR.out rfl (congrArg (Value.int .u32) s1) ?_; rw [hf]; dsimp only [Option.getD, Option.isSome])
              | ((with_reducible refine gate9 ?_); refine stB (ty := 43) (cellsPc zeroPc) rfl rfl rfl rfl HT.out infoP rfl (cellsPc_one _) ?_; intro w4 ht hg; replace HB3 := Lib.hid (below_of_grown1 HB3.out hg HB3.out.size (Nat.le_refl _)); replace HM := Lib.hid (HM.out.kept hg (by simp; omega)); replace HX := Lib.hid (HX.out.kept hg (by omega)); replace HT := Lib.hid ht; clear ht hg))
            go_ret
            exact ⟨none, 0, by rw [HE.out]; rfl, by rw [HE.out]; exact RowP.nil _, below_eq HGE.out (HW.out.trans (HB3.out.mono (Nat.le_of_lt hgl)))⟩
          | some a =>
            have HF := Lib.hid hf
            have HGO := Lib.hid (fun W => goes_any y a W)
            cases hgo : goesB y a with
            | false =>
              rw [hgo] at HGO
              have HE : Hid (r = []) := Lib.hid (by rw [← HR.out]; unfold rowC; rw [HBD.out]; simp only; rw [HFI.out.not HEN.out (by rw [HT1.out]; exact hf) hgo]; rfl)
              clear hgo
              go_wp2_with (first
                | ((with_reducible refine gate9 ?_); refine lookF rfl _ _ rfl t1 HMR.out rfl (congrArg (Value.int .u32) s1) ?_; rw [hf]; dsimp only [Option.getD, Option.isSome])
                | ((with_reducible refine gate9 ?_); refine stB (ty := 43) (cellsPc a) rfl rfl rfl rfl HT.out infoP rfl (cellsPc_one _) ?_; intro w4 ht hg; replace HB3 := Lib.hid (below_of_grown1 HB3.out hg HB3.out.size (Nat.le_refl _)); replace HM := Lib.hid (HM.out.kept hg (by simp; omega)); replace HX := Lib.hid (HX.out.kept hg (by omega)); replace HT := Lib.hid ht; clear ht hg)
                | ((with_reducible refine gate9 ?_); refine wpList_load_want (by rfl) 43 _ rfl wr.heap.size rfl _ (cellsPc a) _ _ HT.out Try.underlying43 rfl infoP ?_)
                | ((with_reducible refine gate9 ?_); refine wpList_load_want (by rfl) 43 _ rfl g rfl _ (cellsPc y) _ _ HX.out Try.underlying43 rfl infoP ?_)
                | (go_at_call 31; (with_reducible refine (HGO.out _).mono ?_); rintro e w6 ⟨rfl, hb5⟩; replace HX := Lib.hid (HX.out.later hb5); replace HT := Lib.hid (HT.out.later hb5); replace HM := Lib.hid (HM.out.later hb5); replace HB3 := Lib.hid (HB3.out.trans (hb5.mono HB3.out.size)); clear hb5))
              go_ret
              exact ⟨none, 0, by rw [HE.out]; rfl, by rw [HE.out]; exact RowP.nil _, below_eq HGE.out (HW.out.trans (HB3.out.mono (Nat.le_of_lt hgl)))⟩
            | true =>
              rw [hgo] at HGO
              have HFN := Lib.hid (HFI.out.next hnd HEN.out (by rw [HT1.out]; exact hf) hgo)
              have hk2 := HFN.out.lt
              clear hgo
              go_wp2_with (first
                | ((with_reducible refine gate9 ?_); refine lookF rfl _ _ rfl t1 HMR.out rfl (congrArg (Value.int .u32) s1) ?_; rw [hf]; dsimp only [Option.getD, Option.isSome])
                | ((with_reducible refine gate9 ?_); refine stB (ty := 43) (cellsPc a) rfl rfl rfl rfl HT.out infoP rfl (cellsPc_one _) ?_; intro w4 ht hg; replace HB3 := Lib.hid (below_of_grown1 HB3.out hg HB3.out.size (Nat.le_refl _)); replace HM := Lib.hid (HM.out.kept hg (by simp; omega)); replace HX := Lib.hid (HX.out.kept hg (by omega)); replace HO := Lib.hid (HOR.out.later HB3.out); replace HT := Lib.hid ht; clear ht hg)
                | ((with_reducible refine gate9 ?_); refine wpList_load_want (by rfl) 43 _ rfl wr.heap.size rfl _ (cellsPc a) _ _ HT.out Try.underlying43 rfl infoP ?_)
                | ((with_reducible refine gate9 ?_); refine wpList_load_want (by rfl) 43 _ rfl g rfl _ (cellsPc y) _ _ HX.out Try.underlying43 rfl infoP ?_)
                | (go_at_call 31; (with_reducible refine (HGO.out _).mono ?_); rintro e w6 ⟨rfl, hb5⟩; replace HX := Lib.hid (HX.out.later hb5); replace HT := Lib.hid (HT.out.later hb5); replace HM := Lib.hid (HM.out.later hb5); replace HB3 := Lib.hid (HB3.out.trans (hb5.mono HB3.out.size)); replace HO := Lib.hid (HO.out.later hb5); clear hb5)
                | ((with_reducible refine gate9 ?_); refine ldB (ty := 43) rfl rfl rfl HT.out Try.underlying43 rfl infoP ?_)
                | ((with_reducible refine gate9 ?_); refine stB (ty := 43) (cellsPc a) rfl rfl rfl rfl HX.out infoP rfl (cellsPc_one _) ?_; intro w7 ht hg; replace HW := Lib.hid (below_of_grown1 (HW.out.trans (HB3.out.mono (Nat.le_of_lt hgl))) hg (by have := HB3.out.size; omega) (Nat.le_refl _)); replace HM := Lib.hid (HM.out.kept hg (by simp; omega)); replace HO := Lib.hid (HO.out.keep (fun z hz => hg.block z (HO.out.lt z hz).2 (by intro e; cases e; have := (HO.out.lt _ hz).1; omega))); replace HX := Lib.hid ht; have hs7 := hg.size; have hs6 := HB3.out.size; clear ht hg)
                | ((with_reducible refine gate9 ?_); refine ldB (ty := 43) (cs := #[.int .u32 (a.ts.toNat : Int), .bool a.bg, .bool a.en, .bool a.fr, .int .u16 (a.st.toNat : Int), .int .u16 (a.ss.toNat : Int), .int .u32 (a.pp.toNat : Int), .string a.tx]) rfl rfl rfl HX.out Try.underlying43 rfl infoP ?_)
                | (at_builtin; refine wpList_append_fed _ rfl (.tmp 52) (.tmp 54) 29 29 rfl (g + 1) 43 i0 _ 8 32 Try.underlying29 (.inr ⟨_, Try.underlying29⟩) HI.out HZ0.out HZ1.out HZ2.out rfl _ _ _ rfl (HO.out.alloc _) _ 1 (cellsPc a).toList rfl (Fed.block (heap_alloc_new _ _) rfl (fun u hu => cells_one hu)) (by unfold maxLen; omega) (by omega) (by rw [World.size_alloc]; omega) ?_; intro v8 w8 hown hgr; replace HX := Lib.hid (HX.out.own HO.out (Nat.lt_succ_self _) hgr); replace HM := Lib.hid (HM.out.own HO.out (by omega) hgr); replace HW := Lib.hid (below_own HW.out (by omega) HO.out (Nat.le_succ _) hgr); obtain ⟨A8, k8, rfl, -, -, -⟩ := id hown.slice; have HO8 := Lib.hid (show OwnG w8 (g + 1) 43 8 (.slice A8 (k2 + 1 + 1) k8) (k2 + 1 + 1) (flatP (acc ++ [a])) by rw [flatP_add]; exact hown); clear hown hgr))
              go_roundw
              case rel => exact ⟨k2 + 1, a, acc ++ [a], A8, k8, rfl, HFN, HX, HM, HO8, HW⟩
              case measure => (rw [HMS.out, fwd_meas hl HFN.out HX.out]; have := HFN.out.lt; omega)
        | true =>
          rw [hen] at y2
          have HE : Hid (r = acc) := Lib.hid (by rw [← HR.out]; unfold rowC; rw [HBD.out]; simp only; rw [HFI.out.done hen]; rfl)
          have HLA := Lib.hid HFI.out.len
          clear hen
          go_wp2_with fail
          go_ret
          exact ⟨A7, c7, by rw [HE.out, HLA.out]; rfl, by rw [HE.out, HLA.out]; exact rowP_of_ownG HO.out, below_eq HGE.out HW.out⟩
end Go.Proofs.Ytgngdgiipifacaa
