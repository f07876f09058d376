/-
  Paths as the document has them: contract.
-/
import Derived.Test.YteiifkooegpdaaaPaO
namespace Go.Proofs.Yteiifkooegpdaaa
open Go.RowKit
set_option linter.unusedVariables false
set_option linter.unusedSimpArgs false
set_option maxRecDepth 100000

/-- The paths so far are what the call owns. -/
structure AsS (w : World) (bx : Array Value) (pr al : Int) (l : List Pa) (k : Nat) (sl : Value) (W : World) : Prop where
  box : Bx W w.heap.size 27 bx
  res : Bx W (w.heap.size + 1) 33 #[.slice none 0 0, .int .i64 0, .int .i64 0]
  out : Bx W (w.heap.size + 1 + 1) 33 #[sl, .int .i64 pr, .int .i64 al]
  row : W.ownsRow (w.heap.size + 3) 76 14 sl k (flatP l)
  below : Below w.heap.size w W
  size : w.heap.size + 3 ≤ W.heap.size
theorem AsS.later {w W W' : World} {bx : Array Value} {pr al : Int} {l : List Pa} {k : Nat} {sl : Value} (h : AsS w bx pr al l k sl W) (hb : Below W.heap.size W W') : AsS w bx pr al l k sl W' :=
  ⟨h.box.later hb, h.res.later hb, h.out.later hb, ownP_below h.row hb, h.below.trans (hb.mono h.below.size), Nat.le_trans h.size hb.size⟩
theorem AsS.put {w W W' W'' : World} {bx : Array Value} {pr al : Int} {l : List Pa} {k : Nat} {sl sl' : Value} {x : Pa} (h : AsS w bx pr al l k sl W) (hr : W'.ownsRow (w.heap.size + 3) 76 14 sl' (k + 1) (flatP l ++ (cellsPa x).toList)) (hg : W.grownBy W' sl.ownBlock)
    (hb : Bx W'' (w.heap.size + 1 + 1) 33 #[sl', .int .i64 pr, .int .i64 al]) (hg2 : W'.grownBy W'' (some (w.heap.size + 1 + 1))) : AsS w bx pr al (l ++ [x]) (k + 1) sl' W'' := by
  have hs := h.size
  have hne : ∀ j, j < w.heap.size + 3 → sl.ownBlock ≠ some j := fun j hj e => by have := (h.row.lt j e).1; omega
  have hbox : Bx W' w.heap.size 27 bx := (hg.block _ h.box.lt (fun e => hne _ (by omega) e.symm)).trans h.box
  have hres : Bx W' (w.heap.size + 1) 33 #[.slice none 0 0, .int .i64 0, .int .i64 0] := (hg.block _ h.res.lt (fun e => hne _ (by omega) e.symm)).trans h.res
  have hbel : Below w.heap.size w W' := h.below.grown hg h.below.size fun j hj => by have := (h.row.lt j hj).1; omega
  refine ⟨hbox.kept hg2 (by omega), hres.kept hg2 (by omega), hb, ?_, below_of_grown1 hbel hg2 hbel.size (by omega), Nat.le_trans (Nat.le_trans hs hg.size) hg2.size⟩
  have e : flatP (l ++ [x]) = flatP l ++ (cellsPa x).toList := by rw [flatP_append]; simp [flatP]
  rw [e]
  exact ownP_keep hr hg2 (by omega)
theorem below_new {W W' : World} (o : Obj) (hg : (W.alloc o).grownBy W' (some W.heap.size)) : Below W.heap.size W W' := below_of_grown1 ((Below.refl _ _).alloc (Nat.le_refl _) _) hg (by rw [World.size_alloc]; omega) (Nat.le_refl _)
theorem below4 (w : World) (a b c d : Obj) : Below w.heap.size w ((((w.alloc a).alloc b).alloc c).alloc d) := ((((Below.refl _ _).alloc (Nat.le_refl _) _).alloc (by simp) _).alloc (by simp; omega) _).alloc (by simp; omega) _
set_option maxHeartbeats 8000000 in
theorem as_any (l : List Pa) (hl : l.length ≤ 100000) (v : Value) (pr al : Int) (w : World) (hv : RowP w v l) : Calls Try.prog 13 #[.agg #[v, .int .i64 pr, .int .i64 al]] w fun e w' => ∃ v', e = .returned (.agg #[v', .int .i64 pr, .int .i64 al]) ∧ RowP w' v' l ∧ Below w.heap.size w w' ∧ Fresh w.heap.size v' := by
  obtain ⟨A, cap, rfl, hcap, hmax, hcells⟩ := hv
  obtain ⟨W1, hW1, HA, HZ, HB, hs1⟩ := two_open w 27 33 #[.slice A l.length cap, .int .i64 pr, .int .i64 al] #[.slice none 0 0, .int .i64 0, .int .i64 0]
  have c1 := HA.out.cell 1 (.int .i64 pr) rfl
  have c2 := HA.out.cell 2 (.int .i64 al) rfl
  have hl' : (l.length : Int) ≤ 100000 := by omega
  have HC := Lib.hid hcells
  have HL := Lib.hid (show l.take l.length = l by rw [List.take_length])
  clear hcells
  go_enter Try.func13, Try.ntmps13
  go_wp2_with fail
  have HST : Hid (AsS w #[.slice A l.length cap, .int .i64 pr, .int .i64 al] pr al (l.take 0) 0 (.slice none 0 0) (W1.alloc (.cells #[.slice none 0 0, .int .i64 pr, .int .i64 al] 33))) := Lib.hid ⟨HA.out.old _, HZ.out.old _, (by have h := Bx.fresh W1 33 #[.slice none 0 0, .int .i64 pr, .int .i64 al]; rw [hs1] at h; exact h), ⟨by simp [flatP], .inl ⟨rfl, rfl⟩⟩, HB.out.alloc (by omega) _, by rw [World.size_alloc]; omega⟩
  generalize W1.alloc (.cells #[.slice none 0 0, .int .i64 pr, .int .i64 al] 33) = W2 at *
  clear c1 c2 hW1 HA HZ HB hs1
  go_loopw [4] (fun i wr => ∃ k : Nat, k ≤ l.length ∧ i = .int .i64 k ∧ Hid (∃ sl, AsS w #[.slice A l.length cap, .int .i64 pr, .int .i64 al] pr al (l.take k) k sl wr))
    (fun i _ => l.length - (intOf i).toNat)
  case atStart => exact ⟨0, Nat.zero_le _, rfl, Lib.hid ⟨_, HST.out⟩⟩
  case round =>
    clear HST
    obtain ⟨k, hk, rfl, HR⟩ := hrel
    obtain ⟨sl, hns⟩ := HR.out
    have HNS := Lib.hid hns
    have hsz := hns.size
    obtain ⟨A7, cap7, rfl, _, _⟩ := own_form2 hns.row
    clear hns HR
    by_cases hlt : k < l.length
    · obtain ⟨b, off, rfl, hb, hc⟩ := HC.out (by omega)
      have HRG := Lib.hid (range_below (hc k hlt) hb HNS.out.below)
      have HTK : Hid (l.take (k + 1) = l.take k ++ [l[k]]) := Lib.hid (List.take_succ_eq_append_getElem hlt)
      generalize l[k] = x9 at *
      obtain ⟨ad, st, er, ⟨s, vv, r, bk, kn⟩, ⟨cw, ss, pa⟩, no, be, se⟩ := x9
      have c0 := HNS.out.box.cell 0 (.slice (some ⟨b, off, none⟩) l.length cap) rfl
      have co := HNS.out.out.cell 0 (.slice A7 k cap7) rfl
      have q4 : (0 : Int) ≤ (k : Int) := by omega
      have q5 : (k : Int) < (l.length : Int) := by omega
      have hwl : w.heap.size + 1 + 1 < wr.heap.size := by omega
      have hwl2 : w.heap.size < wr.heap.size := by omega
      obtain ⟨i0, hi0, hz0, hz1, hz2⟩ := info_parts infoRPaZ
      have HI := Lib.hid hi0
      have HZ0 := Lib.hid hz0
      have HZ1 := Lib.hid hz1
      have HZ2 := Lib.hid hz2
      clear hi0 hz0 hz1 hz2 hc
      go_wp2_with (first
    | ((with_reducible refine gate9 ?_); refine ldR (ty := 47) (cs := #[.string ad, .int .i64 st, .int .i64 er, .int .i64 s, .int .i64 vv, .int .i64 r, .int .i64 bk, .bool kn, .int .i64 cw, .int .i64 ss, .int .i64 pa, .int .u32 no, .int .i64 be, .int .i64 se]) rfl rfl rfl HRG.out Try.underlying47 rfl infoPa ?_)
    | (at_builtin; refine wpList_append_own _ rfl _ _ 31 rfl (w.heap.size + 3) 76 i0 _ 14 120 Try.underlying31 HI.out HZ0.out HZ1.out HZ2.out rfl (by decide) (.slice A7 k cap7) k _ rfl (ownP_below HNS.out.row (below4 _ _ _ _ _)) ⟨_, 0, none⟩ 1 1 (cellsPa (⟨ad, st, er, ⟨s, vv, r, bk, kn⟩, ⟨cw, ss, pa⟩, no, be, se⟩ : Pa)).toList rfl (lenPa _) ?a1 (fun u hu => cells_one hu) ?a2 ?a3 ?a4 ?_))
      case a1 =>
        intro j u hu
        have h := new_cells (((wr.alloc (.cells #[.string ad, .int .i64 st, .int .i64 er, .int .i64 s, .int .i64 vv, .int .i64 r, .int .i64 bk, .bool kn, .int .i64 cw, .int .i64 ss, .int .i64 pa, .int .u32 no, .int .i64 be, .int .i64 se] 47)).alloc (.cells #[.int .i64 s, .int .i64 vv, .int .i64 r, .int .i64 bk, .bool kn] 71)).alloc (.cells #[.int .i64 cw, .int .i64 ss, .int .i64 pa] 73)) 76 (cellsPa (⟨ad, st, er, ⟨s, vv, r, bk, kn⟩, ⟨cw, ss, pa⟩, no, be, se⟩ : Pa)).toList j u hu
        simp only [World.size_alloc] at h
        exact h
      case a2 => unfold maxLen; omega
      case a3 => omega
      case a4 => simp only [World.size_alloc]; omega
      intro sl2 w6 hown hgr _
      have HO2 := Lib.hid (own_one hown)
      have HL4 := Lib.hid (HNS.out.later (below4 wr (.cells #[.string ad, .int .i64 st, .int .i64 er, .int .i64 s, .int .i64 vv, .int .i64 r, .int .i64 bk, .bool kn, .int .i64 cw, .int .i64 ss, .int .i64 pa, .int .u32 no, .int .i64 be, .int .i64 se] 47) (.cells #[.int .i64 s, .int .i64 vv, .int .i64 r, .int .i64 bk, .bool kn] 71) (.cells #[.int .i64 cw, .int .i64 ss, .int .i64 pa] 73) (.cells #[.string ad, .int .i64 st, .int .i64 er, .int .i64 s, .int .i64 vv, .int .i64 r, .int .i64 bk, .bool kn, .int .i64 cw, .int .i64 ss, .int .i64 pa, .int .u32 no, .int .i64 be, .int .i64 se] 76)))
      have HBX : Hid (Bx w6 (w.heap.size + 1 + 1) 33 #[.slice A7 k cap7, .int .i64 pr, .int .i64 al]) := Lib.hid ((hgr.block _ HL4.out.out.lt (fun e => by
        have h9 := HL4.out.row.lt _ e.symm
        omega)).trans HL4.out.out)
      have HPT := Lib.hid (fun (W : World) h1 h2 => HL4.out.put (x := (⟨ad, st, er, ⟨s, vv, r, bk, kn⟩, ⟨cw, ss, pa⟩, no, be, se⟩ : Pa)) (W'' := W) hown hgr h1 h2)
      clear hown hgr HL4 HNS c0 co HRG
      go_wp2_with ((with_reducible refine gate9 ?_); refine stF (ty := 31) sl2 rfl rfl rfl rfl HBX.out (by show 0 < 3; decide) infoRSl HO2.out ?_; intro w7 ht hg; have HNX := Lib.hid (HPT.out _ ht hg); clear ht hg HPT HBX)
      go_roundw
      case rel => exact ⟨k + 1, by omega, by go_num, Lib.hid ⟨sl2, by rw [HTK.out]; exact HNX.out⟩⟩
      case measure => simp [intOf]; omega
    · obtain rfl : k = l.length := by omega
      have hrow : wr.ownsRow (w.heap.size + 3) 76 14 (.slice A7 l.length cap7) l.length (flatP l) := by have h := HNS.out.row; rw [HL.out] at h; exact h
      have HRW := Lib.hid (rowP_of_own hrow)
      have HO := Lib.hid hrow
      have HX := Lib.hid HNS.out.out
      have HZ := Lib.hid HNS.out.res
      have HB := Lib.hid HNS.out.below
      have c0 := HNS.out.box.cell 0 (.slice A l.length cap) rfl
      clear hrow HNS
      go_wp2_with (first
    | ((with_reducible refine gate9 ?_); refine ldB (ty := 33) rfl rfl rfl HX.out Try.underlying33 rfl infoRPs ?_)
    | ((with_reducible refine gate9 ?_); refine stB (ty := 33) #[.slice A7 l.length cap7, .int .i64 pr, .int .i64 al] rfl rfl rfl rfl HZ.out infoRPs rfl (cells3_one _ _ _ _ _) ?_; intro w9 ht9 hg9; replace HB := Lib.hid (below_of_grown1 HB.out hg9 HB.out.size (by omega)); replace HRW := Lib.hid (rowP_of_own (ownP_keep HO.out hg9 (by omega))); replace HZ := Lib.hid ht9; clear ht9 hg9))
      exact bodyPost_ret (retRPs rfl rfl rfl HZ.out) rfl ⟨_, rfl, HRW.out, HB.out, (fresh_own HO.out).less (by omega)⟩
end Go.Proofs.Yteiifkooegpdaaa
